/- SLICES THAT BEGAN AS A LITERAL WITH NOTHING IN IT ('[]byte{}'): what is appended lies in a block of its own, made behind. No Go function is spoken of here. -/
import Derived.Test.YtbngnmhbnhpbeaaDoorMw
import Derived.Test.YtbngnmhbnhpbeaaDoorS
namespace Go.Proofs.YtbngnmhbnhpbeaaDoor
open Go Go.RowKit

/-- The value is the literal still, or a row of the call's own, from block 'base' on. -/
def Begun (w : World) (base : Nat) (e : TypeId) (v : Value) (n : Nat) (xs : List Value) : Prop := ((∃ b, v = .slice (some b) 0 0) ∧ n = 0 ∧ xs = []) ∨ w.ownsRow base e 1 v n xs
theorem Begun.lit (w : World) (base : Nat) (e : TypeId) (b : Addr) : Begun w base e (.slice (some b) 0 0) 0 [] := .inl ⟨⟨b, rfl⟩, rfl, rfl⟩
theorem Begun.later {w w' : World} {base B n : Nat} {e : TypeId} {v : Value} {xs : List Value} (h : Begun w base e v n xs) (hb : Below B w w') (hB : w.heap.size ≤ B) : Begun w' base e v n xs := by
  rcases h with h | h
  · exact .inl h
  · exact .inr (own_later h hb hB)
theorem Begun.grown {w w' : World} {base n g : Nat} {e : TypeId} {v : Value} {xs : List Value} (h : Begun w base e v n xs) (hg : w.grownBy w' (some g)) (hlt : g < base) : Begun w' base e v n xs := by
  rcases h with h | h
  · exact .inl h
  · exact .inr (own_grown h hg hlt)
theorem Begun.sl {w : World} {base n : Nat} {e : TypeId} {v : Value} {xs : List Value} (h : Begun w base e v n xs) : ∃ A c, v = .slice A n c ∧ xs.length = n ∧ Sl w A c xs := by
  rcases h with ⟨⟨b, rfl⟩, rfl, rfl⟩ | h
  · exact ⟨some b, 0, rfl, rfl, .inl rfl, Nat.le_refl _, fun h => by cases h⟩
  · exact Sl.of_own h
theorem run_append_begun {P : Program} (w : World) (base : Nat) (t ty e : TypeId) (i : TypeInfo) (z : Value) (bytes : Nat) (ht : P.underlying t = some (.slice e)) (hi : P.info? e = some i) (hz : i.zero = some z)
    (hsize : i.size = 1) (hby : i.bytes = bytes) (hzs : z.cells.size = 1) (v : Value) (n : Nat) (xs : List Value) (hb : Begun w base e v n xs)
    (A : Option Addr) (m c : Nat) (news : List Value) (hm : m = news.length) (h0 : 0 < m) (hsl : Sl w A c news) (h1 : ∀ u ∈ news, u.oneCell' = true)
    (h63 : n + m ≤ maxLen) (hbytes : (n + m) * bytes ≤ 140737488355328) (hbase : base ≤ w.heap.size) :
    ∃ v' w', (Builtin.append_ #[t, t] ty #[v, .slice A m c]).run P w = .ok v' w' ∧ w'.ownsRow base e 1 v' (n + m) (xs ++ news) ∧ Below base w w' := by
  rcases hb with ⟨⟨b, rfl⟩, rfl, rfl⟩ | hown
  · subst hm
    obtain ⟨v', w', hr, h2, h3⟩ := run_append_sl (P := P) w base t ty e i z bytes ht hi hz hsize hby hzs (.slice none 0 0) 0 [] (World.ownsRow_nil w base e 1) A news.length c news rfl hsl h1 h63 hbytes hbase
    refine ⟨v', w', ?_, h2, ⟨h3.os, h3.tape, h3.output, h3.size, fun k hk => h3.block k (by omega) (by simp [Value.ownBlock])⟩⟩
    obtain ⟨b', o', rfl, _, _⟩ := hsl.rd.get h0
    have hw63 : ((news.length : Nat) : Int) ≤ 9223372036854775807 := by unfold maxLen at h63; omega
    have e1 := run_append_nil (P := P) (w := w) t ty e i z ht hi hz ⟨b', o', none⟩ news.length c news (by rw [hsize, Nat.mul_one]) hsl.rd.at_add h0 hw63 (by rw [hby]; rw [Nat.zero_add] at hbytes; omega)
    have e2 := run_append_grow (P := P) (w := w) t ty e i z ht hi hz b 0 0 [] (by simp) (fun j v hv => by simp at hv) ⟨b', o', none⟩ news.length c news (by rw [hsize, Nat.mul_one]) hsl.rd.at_add (by omega) (by rw [Nat.zero_add]; exact hw63) (by rw [Nat.zero_add, nextslicecap_zero h0, hby]; rw [Nat.zero_add] at hbytes; omega)
    rw [e2, ← hr, e1]
    simp
  · obtain ⟨v', w', hr, h2, h3⟩ := run_append_sl (P := P) w base t ty e i z bytes ht hi hz hsize hby hzs v n xs hown A m c news hm hsl h1 h63 hbytes hbase
    exact ⟨v', w', hr, h2, (Below.refl base w).grown h3 hbase (fun k hk => (hown.lt k hk).1)⟩
theorem wpList_append_begun {P : Program} {w : World} {ops : Array Oper} {rest : List Oper} {o : Oper} {a : Act} {Q : Exit → Act → World → Prop} (hgd : o.guard = none) (s x : Operand) (t : TypeId)
    (ho : o.op = .call { callee := .builtin .append, args := #[s, x], argTypes := #[t, t] })
    (base : Nat) (e : TypeId) (i : TypeInfo) (z : Value) (bytes : Nat) (ht : P.underlying t = some (.slice e)) (hi : P.info? e = some i) (hz : i.zero = some z)
    (hsize : i.size = 1) (hby : i.bytes = bytes) (hzs : z.cells.size = 1)
    (v : Value) (n : Nat) (xs : List Value) (hs : a.eval s = v) (hb : Begun w base e v n xs)
    (A : Option Addr) (m c : Nat) (news : List Value) (hx : a.eval x = .slice A m c) (hm : m = news.length) (h0 : 0 < m) (hsl : Sl w A c news) (h1 : ∀ u ∈ news, u.oneCell' = true)
    (h63 : n + m ≤ maxLen) (hbytes : (n + m) * bytes ≤ 140737488355328) (hbase : base ≤ w.heap.size)
    (h : ∀ v' w', w'.ownsRow base e 1 v' (n + m) (xs ++ news) → Below base w w' → wpList P ops Q rest (a.put o.dst v') w') : wpList P ops Q (o :: rest) a w := by
  refine wpList_plain hgd fun _ hK => ?_
  obtain ⟨v', w', hrun, h2, h3⟩ := run_append_begun (P := P) w base t o.type e i z bytes ht hi hz hsize hby hzs v n xs hb A m c news hm h0 hsl h1 h63 hbytes hbase
  unfold Oper.wp execOp
  simp only [ho, resolve, invoke, builtin, Sem.run_bind, Sem.run_pure, Result.andThen_ok, List.map_toArray, List.map_cons, List.map_nil, hs, hx, hrun]
  exact hK _ _ (h v' w' h2 h3)
/-- The same as one step of a region that draws its order. -/
theorem step_append_begun {P : Program} {w : World} {ops : Array Oper} {o : Oper} {a : Act} {K : Act → World → Prop} {Q : Exit → Act → World → Prop} {E : Prop} (dst : Option Tmp) (hdst : o.dst = dst) (hgd : Region.wanted o (yielded ops a.tmps) = true) (s x : Operand) (t : TypeId)
    (ho : o.op = .call { callee := .builtin .append, args := #[s, x], argTypes := #[t, t] })
    (base : Nat) (e : TypeId) (i : TypeInfo) (z : Value) (bytes : Nat) (ht : P.underlying t = some (.slice e)) (hi : P.info? e = some i) (hz : i.zero = some z)
    (hsize : i.size = 1) (hby : i.bytes = bytes) (hzs : z.cells.size = 1)
    (v : Value) (n : Nat) (xs : List Value) (hs : a.eval s = v) (hb : Begun w base e v n xs)
    (A : Option Addr) (m c : Nat) (news : List Value) (hx : a.eval x = .slice A m c) (hm : m = news.length) (h0 : 0 < m) (hsl : Sl w A c news) (h1 : ∀ u ∈ news, u.oneCell' = true)
    (h63 : n + m ≤ maxLen) (hbytes : (n + m) * bytes ≤ 140737488355328) (hbase : base ≤ w.heap.size)
    (h : ∀ v' w', w'.ownsRow base e 1 v' (n + m) (xs ++ news) → Below base w w' → K (a.put dst v') w') :
    if Region.wanted o (yielded ops a.tmps) = true then Oper.wp P o a w K Q else E := by
  subst hdst
  rw [if_pos hgd]
  obtain ⟨v', w', hrun, h2, h3⟩ := run_append_begun (P := P) w base t o.type e i z bytes ht hi hz hsize hby hzs v n xs hb A m c news hm h0 hsl h1 h63 hbytes hbase
  unfold Oper.wp execOp
  simp only [ho, resolve, invoke, builtin, Sem.run_bind, Sem.run_pure, Result.andThen_ok, List.map_toArray, List.map_cons, List.map_nil, hs, hx, hrun]
  exact h v' w' h2 h3
/-- In every world that turned block g alone, and made more, these bytes are turned into the same string. -/
theorem conv_grown {w : World} {A : Option Addr} {c g : Nat} {l : List UInt8} (h : Sl w A c (byts l)) (n : Nat) (hn : n = l.length) (hne : 0 < l.length → ∀ a, A = some a → a.block ≠ g) :
    ∀ w' : World, w.grownBy w' (some g) → (convert 48 9 (.slice A n c)).run Tryd.prog w' = .ok (.string (bstr l)) w' :=
  fun _ hg => conv_bytes (h.apart hg (by rw [length_byts]; exact hne)) n hn
/-- Two new rows. -/
theorem two_rows {w w1 : World} {A B : List Value} {tA tB : TypeId} (h : (w.alloc (.cells A.toArray tA)).alloc (.cells B.toArray tB) = w1) :
    Row w1 w.heap.size tA A ∧ Row w1 (w.heap.size + 1) tB B ∧ Below w.heap.size w w1 ∧ w1.heap.size = w.heap.size + 2 := by
  subst h
  have s1 : (w.alloc (.cells A.toArray tA)).heap.size = w.heap.size + 1 := World.size_alloc _ _
  exact ⟨heap_alloc2_old w _ _, heap_alloc2_new w _ _, ((Below.refl _ w).alloc (Nat.le_refl _) _).alloc (by omega) _, by rw [World.size_alloc, s1]⟩
end Go.Proofs.YtbngnmhbnhpbeaaDoor
