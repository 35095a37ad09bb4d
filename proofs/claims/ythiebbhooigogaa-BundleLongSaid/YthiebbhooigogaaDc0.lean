/- LAYER 10: what a Decode's walk shares. -/
import Derived.Test.YthiebbhooigogaaBt
import Derived.Test.YthiebbhooigogaaOk
import Derived.Test.YthiebbhooigogaaVg
namespace Go.Proofs.Ythiebbhooigogaa
open Go Go.RowKit

theorem infoCav : (Try.prog.info? 51).map (fun i => (i.zero, i.size, i.bytes)) = some (some (.agg (cavV ⟨false, [], 0, [], []⟩).toArray), 5, 64) := by kernel_rfl
theorem info_cav : ∃ i, Try.prog.info? 51 = some i ∧ i.zero = some (.agg (cavV ⟨false, [], 0, [], []⟩).toArray) ∧ i.size = 5 ∧ i.bytes = 64 := by
  have h := infoCav
  cases hq : Try.prog.info? 51 with
  | none => rw [hq] at h; cases h
  | some i =>
    rw [hq] at h
    simp only [Option.map_some, Option.some.injEq, Prod.mk.injEq] at h
    exact ⟨i, rfl, h.1, h.2.1, h.2.2⟩
theorem build_tok (w : World) : (Instr.build 27 #[]).run Try.prog w = .ok (.agg (tokV zeroK none 0).toArray) w := by kernel_rfl
/-- What is known of the token that is being read: block g holds it; its caveats are the call's own, made since wL; nothing else of wL has turned. -/
structure DecRel (wL : World) (g : Nat) (t : Tok) (w : World) : Prop where
  grown : wL.grownBy w (some g)
  tok : ∃ A c, Row w g 27 (tokV t A c) ∧ w.ownsRow wL.heap.size 51 5 (.slice A t.cavs.length c) t.cavs.length (t.cavs.flatMap cavV)
theorem DecRel.later {wL : World} {g : Nat} {t : Tok} {w w' : World} (h : DecRel wL g t w) (hb : Below w.heap.size w w') : DecRel wL g t w' := by
  obtain ⟨h1, A, c, h2, h3⟩ := h
  exact ⟨grown_trans h1 (grown_of_below hb _), A, c, h2.later hb h2.lt, ownk_later h3 hb (Nat.le_refl _)⟩
theorem Row.kept {w w' : World} {g t : Nat} {xs : List Value} {row : Option Nat} (h : Row w g t xs) (hg : w.grownBy w' row) (hne : ∀ k, row = some k → g ≠ k) : Row w' g t xs := by
  have hl := h.lt
  unfold Row at h ⊢
  rw [hg.block g hl (fun e => hne g e.symm rfl)]; exact h
section
variable {wL w : World} {g : Nat} {t : Tok} {A : Option Addr} {c : Nat}
theorem dec_key (m : Nat) (hg : wL.grownBy w (some g)) (r : Row w g 27 (tokV t A c)) (own : w.ownsRow wL.heap.size 51 5 (.slice A t.cavs.length c) t.cavs.length (t.cavs.flatMap cavV)) (hlt : g < wL.heap.size) :
    DecRel wL g { t with key := m } (w.setCell ⟨g, 0, none⟩ (.int .u64 m)) :=
  ⟨grown_trans hg (grown_setCell _ _ _ _), A, c, r.set 0 (.int .u64 m), ownk_grown own (grown_setCell _ _ _ _) hlt⟩
theorem dec_id (T : List UInt8) (hg : wL.grownBy w (some g)) (r : Row w g 27 (tokV t A c)) (own : w.ownsRow wL.heap.size 51 5 (.slice A t.cavs.length c) t.cavs.length (t.cavs.flatMap cavV)) (hlt : g < wL.heap.size) :
    DecRel wL g { t with id := T } (w.setCell ⟨g, 1, none⟩ (.string (bstr T))) :=
  ⟨grown_trans hg (grown_setCell _ _ _ _), A, c, r.set 1 (.string (bstr T)), ownk_grown own (grown_setCell _ _ _ _) hlt⟩
theorem dec_bound (b : Bool) (hg : wL.grownBy w (some g)) (r : Row w g 27 (tokV t A c)) (own : w.ownsRow wL.heap.size 51 5 (.slice A t.cavs.length c) t.cavs.length (t.cavs.flatMap cavV)) (hlt : g < wL.heap.size) :
    DecRel wL g { t with bound := b } (w.setCell ⟨g, 3, none⟩ (.bool b)) :=
  ⟨grown_trans hg (grown_setCell _ _ _ _), A, c, r.set 3 (.bool b), ownk_grown own (grown_setCell _ _ _ _) hlt⟩
theorem dec_append (cv : Cav) {A8 : Option Addr} {c8 : Nat} (hg : wL.grownBy w (some g)) (r : Row w g 27 (tokV t A c))
    (own : w.ownsRow wL.heap.size 51 5 (.slice A8 (t.cavs.length + 1) c8) (t.cavs.length + 1) (t.cavs.flatMap cavV ++ cavV cv)) (hlt : g < wL.heap.size) :
    DecRel wL g { t with cavs := t.cavs ++ [cv] } (w.setCell ⟨g, 2, none⟩ (.slice A8 (t.cavs.length + 1) c8)) := by
  have e : (t.cavs ++ [cv]).length = t.cavs.length + 1 := by simp
  have e2 : (t.cavs ++ [cv]).flatMap cavV = t.cavs.flatMap cavV ++ cavV cv := by simp
  refine ⟨grown_trans hg (grown_setCell _ _ _ _), A8, c8, ?_, ?_⟩
  · have := r.set 2 (.slice A8 (t.cavs.length + 1) c8)
    unfold tokV tokH
    dsimp only
    rw [e]
    exact this
  · dsimp only
    rw [e, e2]
    exact ownk_grown own (grown_setCell _ _ _ _) hlt
theorem flat_modify (cs : List Cav) (j : Nat) (v : Value) (F : Cav → Cav) (hj : j < 5) (hF : ∀ c, cavV (F c) = (cavV c).set j v) (hn : 0 < cs.length) :
    (cs.modify (cs.length - 1) F).flatMap cavV = (cs.flatMap cavV).set ((cs.length - 1) * 5 + j) v := by
  obtain ⟨ds, d, rfl⟩ : ∃ ds d, cs = ds ++ [d] := ⟨cs.dropLast, cs.getLast (List.ne_nil_of_length_pos hn), (List.dropLast_concat_getLast _).symm⟩
  have hl : (ds ++ [d]).length - 1 = ds.length := by simp
  rw [modify_last, hl, List.flatMap_append, List.flatMap_append, List.set_append_right _ _ (by rw [length_cavsV]; omega), length_cavsV, Nat.add_sub_cancel_left]
  congr 1
  show cavV (F d) ++ [] = (cavV d ++ []).set j v
  rw [List.append_nil, List.append_nil, hF]
theorem dec_mod (j : Nat) (v : Value) (F : Cav → Cav) (hj : j < 5) (hF : ∀ c, cavV (F c) = (cavV c).set j v) {go : Nat} (hg : wL.grownBy w (some g)) (r : Row w g 27 (tokV t (some ⟨go, 0, none⟩) c))
    (own : w.ownsRow wL.heap.size 51 5 (.slice (some ⟨go, 0, none⟩) t.cavs.length c) t.cavs.length (t.cavs.flatMap cavV)) (hlt : g < wL.heap.size) (hgo : wL.heap.size ≤ go) (hn : 0 < t.cavs.length) :
    DecRel wL g { t with cavs := t.cavs.modify (t.cavs.length - 1) F } (w.setCell ⟨go, (t.cavs.length - 1) * 5 + j, none⟩ v) := by
  have e : (t.cavs.modify (t.cavs.length - 1) F).length = t.cavs.length := List.length_modify ..
  refine ⟨grown_own hg (grown_setCell _ _ _ _) (fun t h => by cases h; exact hgo), some ⟨go, 0, none⟩, c, ?_, ?_⟩
  · unfold tokV tokH
    dsimp only
    rw [e]
    exact r.far _ _ (by show g ≠ go; omega)
  · dsimp only
    rw [e, flat_modify _ j v F hj hF hn]
    exact own_setk own _ v
end
theorem tag_succ (T g : List UInt8) (j : Nat) (hj : j < T.length) (hg : j < g.length) : (T.take j ++ g.drop j).set j (T.getD j 0) = T.take (j + 1) ++ g.drop (j + 1) := by
  have hl : (T.take j).length = j := by rw [List.length_take]; omega
  have e : T.take (j + 1) = T.take j ++ [T[j]] := by rw [List.take_add_one]; simp [hj]
  rw [List.set_append_right _ _ (by omega), hl, Nat.sub_self, List.drop_eq_getElem_cons hg, List.set_cons_zero, e, List.append_assoc]
  simp [hj]
theorem tag_end (T g : List UInt8) (j : Nat) (hj : j = 32 ∧ j ≤ T.length ∨ j = T.length ∧ j ≤ 32) : T.take j ++ g.drop j = T.take 32 ++ g.drop (T.take 32).length := by
  rcases hj with ⟨rfl, h⟩ | ⟨rfl, h⟩
  · rw [List.length_take, Nat.min_eq_left h]
  · rw [List.take_length, List.take_of_length_le h]
theorem tok_set_tag (t : Tok) (A : Option Addr) (c j : Nat) (b : UInt8) : (tokV t A c).set (4 + j) (.int .u8 (b.toNat : Int)) = tokV { t with tag := t.tag.set j b } A c := by
  unfold tokV
  rw [List.set_append_right _ _ (by show 4 ≤ 4 + j; omega)]
  show _ ++ (byts t.tag).set (4 + j - 4) _ = _
  rw [Nat.add_sub_cancel_left, byts_set]
  rfl
theorem tok_get_tag (t : Tok) (A : Option Addr) (c j : Nat) : (tokV t A c)[4 + j]? = (byts t.tag)[j]? := by
  unfold tokV
  rw [List.getElem?_append_right (by show 4 ≤ 4 + j; omega)]
  show (byts t.tag)[4 + j - 4]? = _
  rw [Nat.add_sub_cancel_left]
theorem stepT_cavs (t : Tok) (f : Fd) : (stepT t f).cavs.length ≤ t.cavs.length + 1 := by
  unfold stepT
  split; · exact Nat.le_succ _
  split; · exact Nat.le_succ _
  split; · show (t.cavs ++ _).length ≤ _; rw [List.length_append]; exact Nat.le_refl _
  split; · show (t.cavs ++ _).length ≤ _; rw [List.length_append]; exact Nat.le_refl _
  split; · show (t.cavs.modify _ _).length ≤ _; rw [List.length_modify]; exact Nat.le_succ _
  split; · show (t.cavs.modify _ _).length ≤ _; rw [List.length_modify]; exact Nat.le_succ _
  split; · exact Nat.le_succ _
  split; · exact Nat.le_succ _
  exact Nat.le_succ _
theorem fold_succ (fs : List Fd) (k : Nat) (f : Fd) (h : fs[k]? = some f) : readT (fs.take (k + 1)) = stepT (readT (fs.take k)) f := by
  unfold readT
  rw [List.take_add_one, List.foldl_append, h]; rfl
theorem fold_len : ∀ (fs : List Fd) (t : Tok), (fs.foldl stepT t).cavs.length ≤ t.cavs.length + fs.length
  | [], _ => Nat.le_refl _
  | f :: fs, t => by
    have h1 := fold_len fs (stepT t f)
    have h2 := stepT_cavs t f
    rw [List.foldl_cons, List.length_cons]; omega
theorem ztok : tokV zeroK none 0 = [Value.int .u64 0, .string { data := #[] }, .slice none 0 0, .bool false, .int .u8 0, .int .u8 0, .int .u8 0, .int .u8 0, .int .u8 0, .int .u8 0, .int .u8 0, .int .u8 0, .int .u8 0, .int .u8 0, .int .u8 0, .int .u8 0, .int .u8 0, .int .u8 0, .int .u8 0, .int .u8 0, .int .u8 0, .int .u8 0, .int .u8 0, .int .u8 0, .int .u8 0, .int .u8 0, .int .u8 0, .int .u8 0, .int .u8 0, .int .u8 0, .int .u8 0, .int .u8 0, .int .u8 0, .int .u8 0, .int .u8 0, .int .u8 0] := by kernel_rfl
theorem kind_ne (x y : UInt8) (h : x ≠ y) : ((x.toNat : Int) == (y.toNat : Int)) = false := by
  rw [beq_eq_false_iff_ne]
  intro e
  exact h (UInt8.toNat_inj.1 (by omega))
theorem kinds (x : UInt8) : x = 1 ∨ x = 2 ∨ x = 3 ∨ x = 4 ∨ x = 5 ∨ x = 6 ∨ x = 7 ∨ x = 8 ∨ (x ≠ 1 ∧ x ≠ 2 ∧ x ≠ 3 ∧ x ≠ 4 ∧ x ≠ 5 ∧ x ≠ 6 ∧ x ≠ 7 ∧ x ≠ 8) := by
  by_cases h1 : x = 1; · exact .inl h1
  by_cases h2 : x = 2; · exact .inr (.inl h2)
  by_cases h3 : x = 3; · exact .inr (.inr (.inl h3))
  by_cases h4 : x = 4; · exact .inr (.inr (.inr (.inl h4)))
  by_cases h5 : x = 5; · exact .inr (.inr (.inr (.inr (.inl h5))))
  by_cases h6 : x = 6; · exact .inr (.inr (.inr (.inr (.inr (.inl h6)))))
  by_cases h7 : x = 7; · exact .inr (.inr (.inr (.inr (.inr (.inr (.inl h7))))))
  by_cases h8 : x = 8; · exact .inr (.inr (.inr (.inr (.inr (.inr (.inr (.inl h8)))))))
  exact .inr (.inr (.inr (.inr (.inr (.inr (.inr (.inr ⟨h1, h2, h3, h4, h5, h6, h7, h8⟩)))))))
end Go.Proofs.Ythiebbhooigogaa
