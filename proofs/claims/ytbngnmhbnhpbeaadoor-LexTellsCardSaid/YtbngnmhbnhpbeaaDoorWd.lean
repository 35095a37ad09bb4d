/- SLICES OF THINGS OF k CELLS EACH ('[]struct{..}'): such a slice value '.slice A n c' holds xs (n * k cells, one thing behind the other) where 'Sl w A (c * k) xs'. No Go function is spoken of here. -/
import Derived.Test.YtbngnmhbnhpbeaaDoorBg
namespace Go.Proofs.YtbngnmhbnhpbeaaDoor
open Go Go.RowKit

theorem Sl.of_ownk {w : World} {base t k n : Nat} {v : Value} {xs : List Value} (h : w.ownsRow base t k v n xs) : ∃ A c, v = .slice A n c ∧ xs.length = n * k ∧ Sl w A (c * k) xs := by
  rcases h.2 with ⟨rfl, rfl⟩ | ⟨g, cap, cur, rfl, _, hg, hle, _, hs, htake⟩
  · have hn : xs.length = 0 := by simpa using h.1
    exact ⟨none, 0, rfl, h.1, ⟨.inl (List.eq_nil_of_length_eq_zero hn), by omega, fun _ => Nat.zero_mul k⟩⟩
  · refine ⟨some ⟨g, 0, none⟩, cap, rfl, h.1, ⟨.inr ⟨g, 0, rfl, (Array.getElem?_eq_some_iff.1 hg).1, fun i hi => ?_⟩, by rw [h.1]; exact Nat.mul_le_mul_right k hle, fun h => by cases h⟩⟩
    have hi' : i < n * k := by rw [← h.1]; exact hi
    rw [Nat.zero_add, cell_of_row w g i cur t (0, 0) hg, ← htake, List.getElem?_take, if_pos hi']
    simp
theorem ownk_later {w w' : World} {base t k n B : Nat} {v : Value} {xs : List Value} (h : w.ownsRow base t k v n xs) (hb : Below B w w') (hB : w.heap.size ≤ B) : w'.ownsRow base t k v n xs := by
  refine ⟨h.1, ?_⟩
  rcases h.2 with hn | ⟨g, cap, cur, rfl, hbg, hg, rest⟩
  · exact .inl hn
  · exact .inr ⟨g, cap, cur, rfl, hbg, (hb.block g (Nat.lt_of_lt_of_le (Array.getElem?_eq_some_iff.1 hg).1 hB)).trans hg, rest⟩
theorem run_append_k {P : Program} (w : World) (base : Nat) (t ty e : TypeId) (i : TypeInfo) (z : Value) (k bytes : Nat) (ht : P.underlying t = some (.slice e)) (hi : P.info? e = some i) (hz : i.zero = some z)
    (hsize : i.size = k) (hk : 0 < k) (hby : i.bytes = bytes) (hzs : z.cells.size = k) (v : Value) (n : Nat) (xs : List Value) (hown : w.ownsRow base e k v n xs)
    (A : Option Addr) (m c : Nat) (news : List Value) (hm : news.length = m * k) (hsl : Sl w A (c * k) news) (h1 : ∀ u ∈ news, u.oneCell' = true)
    (h63 : n + m ≤ maxLen) (hbytes : (n + m) * bytes ≤ 140737488355328) (hbase : base ≤ w.heap.size) :
    ∃ v' w', (Builtin.append_ #[t, t] ty #[v, .slice A m c]).run P w = .ok v' w' ∧ w'.ownsRow base e k v' (n + m) (xs ++ news) ∧ w.grownBy w' v.ownBlock := by
  cases A with
  | none =>
    have hc := hsl.bare rfl
    have hl := hsl.room
    have hm0 : m = 0 := by
      have h0 : m * k = 0 := by omega
      rcases Nat.mul_eq_zero.1 h0 with h | h
      · exact h
      · omega
    have hc0 : c = 0 := by
      rcases Nat.mul_eq_zero.1 hc with h | h
      · exact h
      · omega
    subst hm0 hc0
    obtain rfl : news = [] := List.eq_nil_of_length_eq_zero (by omega)
    exact ⟨v, w, run_append_owned_none (P := P) (w := w) base t ty e i k ht hi v n xs hown, by simpa using hown, World.grownBy.refl w _⟩
  | some ad =>
    obtain ⟨v', w', h1', h2, h3, _⟩ := run_append_own (P := P) w base t ty e i z k bytes ht hi hz hsize hby hzs hk v n xs hown ad m c news hm hsl.rd.at_add h1 h63 hbytes hbase
    exact ⟨v', w', h1', h2, h3⟩
theorem wpList_append_k {P : Program} {w : World} {ops : Array Oper} {rest : List Oper} {o : Oper} {a : Act} {Q : Exit → Act → World → Prop} (hgd : o.guard = none) (s x : Operand) (t : TypeId)
    (ho : o.op = .call { callee := .builtin .append, args := #[s, x], argTypes := #[t, t] })
    (base : Nat) (e : TypeId) (i : TypeInfo) (z : Value) (k bytes : Nat) (ht : P.underlying t = some (.slice e)) (hi : P.info? e = some i) (hz : i.zero = some z)
    (hsize : i.size = k) (hk : 0 < k) (hby : i.bytes = bytes) (hzs : z.cells.size = k)
    (v : Value) (n : Nat) (xs : List Value) (hs : a.eval s = v) (hown : w.ownsRow base e k v n xs)
    (A : Option Addr) (m c : Nat) (news : List Value) (hx : a.eval x = .slice A m c) (hm : news.length = m * k) (hsl : Sl w A (c * k) news) (h1 : ∀ u ∈ news, u.oneCell' = true)
    (h63 : n + m ≤ maxLen) (hbytes : (n + m) * bytes ≤ 140737488355328) (hbase : base ≤ w.heap.size)
    (h : ∀ v' w', w'.ownsRow base e k v' (n + m) (xs ++ news) → w.grownBy w' v.ownBlock → wpList P ops Q rest (a.put o.dst v') w') : wpList P ops Q (o :: rest) a w := by
  refine wpList_plain hgd fun _ hK => ?_
  obtain ⟨v', w', hrun, h2, h3⟩ := run_append_k (P := P) w base t o.type e i z k bytes ht hi hz hsize hk hby hzs v n xs hown A m c news hm hsl h1 h63 hbytes hbase
  unfold Oper.wp execOp
  simp only [ho, resolve, invoke, builtin, Sem.run_bind, Sem.run_pure, Result.andThen_ok, List.map_toArray, List.map_cons, List.map_nil, hs, hx, hrun]
  exact hK _ _ (h v' w' h2 h3)
theorem step_append_k {P : Program} {w : World} {ops : Array Oper} {o : Oper} {a : Act} {K : Act → World → Prop} {Q : Exit → Act → World → Prop} {E : Prop} (dst : Option Tmp) (hdst : o.dst = dst) (hgd : Region.wanted o (yielded ops a.tmps) = true) (s x : Operand) (t : TypeId)
    (ho : o.op = .call { callee := .builtin .append, args := #[s, x], argTypes := #[t, t] })
    (base : Nat) (e : TypeId) (i : TypeInfo) (z : Value) (k bytes : Nat) (ht : P.underlying t = some (.slice e)) (hi : P.info? e = some i) (hz : i.zero = some z)
    (hsize : i.size = k) (hk : 0 < k) (hby : i.bytes = bytes) (hzs : z.cells.size = k)
    (v : Value) (n : Nat) (xs : List Value) (hs : a.eval s = v) (hown : w.ownsRow base e k v n xs)
    (A : Option Addr) (m c : Nat) (news : List Value) (hx : a.eval x = .slice A m c) (hm : news.length = m * k) (hsl : Sl w A (c * k) news) (h1 : ∀ u ∈ news, u.oneCell' = true)
    (h63 : n + m ≤ maxLen) (hbytes : (n + m) * bytes ≤ 140737488355328) (hbase : base ≤ w.heap.size)
    (h : ∀ v' w', w'.ownsRow base e k v' (n + m) (xs ++ news) → w.grownBy w' v.ownBlock → K (a.put dst v') w') :
    if Region.wanted o (yielded ops a.tmps) = true then Oper.wp P o a w K Q else E := by
  subst hdst
  rw [if_pos hgd]
  obtain ⟨v', w', hrun, h2, h3⟩ := run_append_k (P := P) w base t o.type e i z k bytes ht hi hz hsize hk hby hzs v n xs hown A m c news hm hsl h1 h63 hbytes hbase
  unfold Oper.wp execOp
  simp only [ho, resolve, invoke, builtin, Sem.run_bind, Sem.run_pure, Result.andThen_ok, List.map_toArray, List.map_cons, List.map_nil, hs, hx, hrun]
  exact h v' w' h2 h3
/-- Things of k cells each, one behind the other: the cells of the i-th. -/
theorem flat_at {α : Type} (f : α → List Value) (k : Nat) (fs : List α) (hf : ∀ a ∈ fs, (f a).length = k) : ∀ (i : Nat) (a : α), fs[i]? = some a → ∀ j, j < k → (fs.flatMap f)[i * k + j]? = (f a)[j]? := by
  induction fs with
  | nil => intro i a h; simp at h
  | cons b fs ih =>
    intro i a h j hj
    have hb := hf b (List.mem_cons_self ..)
    rw [List.flatMap_cons]
    cases i with
    | zero =>
      simp only [List.getElem?_cons_zero, Option.some.injEq] at h
      subst h
      rw [Nat.zero_mul, Nat.zero_add, List.getElem?_append_left (by omega)]
    | succ i =>
      rw [List.getElem?_append_right (by rw [hb, Nat.succ_mul]; omega), hb, show (i + 1) * k + j - k = i * k + j by rw [Nat.succ_mul]; omega]
      exact ih (fun a ha => hf a (List.mem_cons_of_mem _ ha)) i a (by simpa using h) j hj
theorem flat_length {α : Type} (f : α → List Value) (k : Nat) (fs : List α) (hf : ∀ a ∈ fs, (f a).length = k) : (fs.flatMap f).length = fs.length * k := by
  induction fs with
  | nil => simp
  | cons b fs ih =>
    rw [List.flatMap_cons, List.length_append, hf b (List.mem_cons_self ..), ih (fun a ha => hf a (List.mem_cons_of_mem _ ha)), List.length_cons, Nat.succ_mul]; omega
/-- The cells of the i-th thing of a slice. -/
theorem Sl.thing {α : Type} {f : α → List Value} {k : Nat} {fs : List α} {w : World} {b o c : Nat} (h : Sl w (some ⟨b, o, none⟩) c (fs.flatMap f)) (hf : ∀ a ∈ fs, (f a).length = k) (i : Nat) (a : α) (ha : fs[i]? = some a) : w.rangeAt b (o + i * k) (f a) := by
  intro j v hj
  have hlen : (f a).length = k := hf a (List.mem_of_getElem? ha)
  have hjk : j < k := by have := (List.getElem?_eq_some_iff.1 hj).1; omega
  have hi := (List.getElem?_eq_some_iff.1 ha).1
  have hlt : i * k + j < (fs.flatMap f).length := by
    rw [flat_length f k fs hf]
    have : (i + 1) * k ≤ fs.length * k := Nat.mul_le_mul_right k hi
    rw [Nat.succ_mul] at this
    omega
  obtain ⟨b', o', he, _, hc⟩ := h.rd.get hlt
  cases he
  rw [Nat.add_assoc, hc, flat_at f k fs hf i a ha j hjk, hj]
end Go.Proofs.YtbngnmhbnhpbeaaDoor
