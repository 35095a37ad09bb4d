/- WORDS ON MEMORY: a block that is one row; a slice that reads as a list of numbers. No Go function is spoken of here. -/
import Derived.Test.YtbngnmhbnhpbeaaDoorRows
import Derived.Handy
import Derived.Lib.Hide
import Derived.Laws.AppendOwnNone
import Derived.Laws.CopyOwn
import Derived.Deep.AppendLies
import Derived.Deep.RegionHeld3
namespace Go.Proofs.YtbngnmhbnhpbeaaDoor
open Go Go.RowKit

/-- Block g is a row of elements of type t that holds just xs, and may be written. -/
def Row (w : World) (g : Nat) (t : TypeId) (xs : List Value) : Prop := w.heap[g]? = some (.cells xs.toArray t (0, 0))
theorem Row.lt {w : World} {g t : Nat} {xs : List Value} (h : Row w g t xs) : g < w.heap.size := by
  unfold Row at h
  exact (Array.getElem?_eq_some_iff.1 h).1
theorem Row.cell {w : World} {g t : Nat} {xs : List Value} (h : Row w g t xs) (i : Nat) : w.cell? ⟨g, i, none⟩ = xs[i]? := by
  rw [cell_of_row w g i _ t (0, 0) h]; simp
theorem Row.free {w : World} {g t : Nat} {xs : List Value} (h : Row w g t xs) (i : Nat) : w.frozen? ⟨g, i, none⟩ = false :=
  frozen_of_row w g i _ t h
theorem Row.set {w : World} {g t : Nat} {xs : List Value} (h : Row w g t xs) (i : Nat) (v : Value) : Row (w.setCell ⟨g, i, none⟩ v) g t (xs.set i v) := by
  unfold Row at h ⊢
  rw [heap_setCell_same w g i _ t v h]
  simp
theorem Row.far {w : World} {g t : Nat} {xs : List Value} (h : Row w g t xs) (a : Addr) (v : Value) (hne : g ≠ a.block) : Row (w.setCell a v) g t xs := by
  unfold Row at h ⊢
  rw [heap_setCell_other w a g v hne]; exact h
theorem Row.drew {w : World} {g t : Nat} {xs : List Value} (h : Row w g t xs) : Row w.drew g t xs := h
theorem Row.new (w : World) (t : TypeId) (xs : List Value) : Row (w.alloc (.cells xs.toArray t)) w.heap.size t xs := heap_alloc_new w _
theorem Row.later {w w' : World} {g t : Nat} {xs : List Value} {B : Nat} (h : Row w g t xs) (hb : Below B w w') (hg : g < B) : Row w' g t xs := by
  unfold Row at h ⊢
  rw [hb.block g hg]; exact h
/-- A row that a slice owns whole. -/
theorem Row.of_own {w : World} {base t g n cap : Nat} {xs : List Value} (h : w.ownsRow base t 1 (.slice (some ⟨g, 0, none⟩) n cap) n xs) : ∃ ys, Row w g t (xs ++ ys) := by
  rcases h.2 with ⟨h1, _⟩ | ⟨g', cap', cur, hv, _, hg, _, _, _, htake⟩
  · cases h1
  · injection hv with h1 h2 h3
    injection h1 with h1
    injection h1 with h1
    subst h1
    refine ⟨cur.toList.drop n, ?_⟩
    unfold Row
    rw [hg, ← htake, Nat.mul_one, List.take_append_drop]

/-- The slice's value reads as the list: the address A, where there is anything to be read. -/
def Rd (w : World) (A : Option Addr) (xs : List Value) : Prop :=
  xs = [] ∨ ∃ b o, A = some ⟨b, o, none⟩ ∧ b < w.heap.size ∧ ∀ i, i < xs.length → w.cell? ⟨b, o + i, none⟩ = xs[i]?
theorem Rd.later {w w' : World} {A : Option Addr} {xs : List Value} {B : Nat} (h : Rd w A xs) (hB : w.heap.size ≤ B) (hb : Below B w w') : Rd w' A xs := by
  rcases h with h | ⟨b, o, rfl, hlt, hc⟩
  · exact .inl h
  · refine .inr ⟨b, o, rfl, by have := hb.size; omega, fun i hi => ?_⟩
    rw [hb.cell (p := ⟨b, o + i, none⟩) (by show b < B; omega)]; exact hc i hi
theorem Rd.row {w : World} {g t : Nat} {xs ys : List Value} (h : Row w g t (xs ++ ys)) : Rd w (some ⟨g, 0, none⟩) xs :=
  .inr ⟨g, 0, rfl, h.lt, fun i hi => by rw [Nat.zero_add, h.cell, List.getElem?_append_left hi]⟩
theorem Rd.get {w : World} {A : Option Addr} {xs : List Value} (h : Rd w A xs) {i : Nat} (hi : i < xs.length) : ∃ b o, A = some ⟨b, o, none⟩ ∧ b < w.heap.size ∧ w.cell? ⟨b, o + i, none⟩ = xs[i]? := by
  rcases h with h | ⟨b, o, rfl, hlt, hc⟩
  · subst h; simp at hi
  · exact ⟨b, o, rfl, hlt, hc i hi⟩

def ints (xs : List Int) : List Value := xs.map (Value.int .i64)
theorem length_ints (xs : List Int) : (ints xs).length = xs.length := by unfold ints; simp
theorem get_ints (xs : List Int) (i : Nat) (h : i < xs.length) : (ints xs)[i]? = some (.int .i64 (xs.getD i 0)) := by
  unfold ints; simp [h]
theorem set_ints (xs : List Int) (i : Nat) (v : Int) : (ints xs).set i (.int .i64 v) = ints (xs.set i v) := by
  unfold ints; rw [List.map_set]
/-- The call gave a new slice that holds just xs; what was there before is as it was. -/
def GaveInts (xs : List Int) (w : World) (e : Ending) (w' : World) : Prop :=
  ∃ g cap ys, e = .returned (.slice (some ⟨g, 0, none⟩) xs.length cap) ∧ w.heap.size ≤ g ∧ Row w' g 3 (ints xs ++ ys) ∧ Below w.heap.size w w'

/-- The slice value '.slice A (length of xs) c' holds xs: nil let in. -/
structure Sl (w : World) (A : Option Addr) (c : Nat) (xs : List Value) : Prop where
  rd : Rd w A xs
  room : xs.length ≤ c
  bare : A = none → c = 0
theorem Sl.later {w w' : World} {A : Option Addr} {c : Nat} {xs : List Value} {B : Nat} (h : Sl w A c xs) (hB : w.heap.size ≤ B) (hb : Below B w w') : Sl w' A c xs :=
  ⟨h.rd.later hB hb, h.room, h.bare⟩
/-- The slice from place k on, where a place is left. -/
theorem Sl.cut {w : World} {b o c k : Nat} {xs : List Value} (h : Sl w (some ⟨b, o, none⟩) c xs) (hk : k ≤ xs.length) : Sl w (some ⟨b, o + k, none⟩) (c - k) (xs.drop k) := by
  refine ⟨?_, by have := h.room; rw [List.length_drop]; omega, fun h => by cases h⟩
  rcases h.rd with hn | ⟨b', o', hA, hlt, hc⟩
  · subst hn; exact .inl (by simp)
  · injection hA with hA
    injection hA with h1 h2
    subst h1 h2
    refine .inr ⟨b, o + k, rfl, hlt, fun i hi => ?_⟩
    rw [List.length_drop] at hi
    rw [Nat.add_assoc, hc (k + i) (by omega), List.getElem?_drop]
/-- What a slice of the call's own holds. -/
theorem Sl.of_own {w : World} {base t n : Nat} {v : Value} {xs : List Value} (h : w.ownsRow base t 1 v n xs) : ∃ A c, v = .slice A n c ∧ xs.length = n ∧ Sl w A c xs := by
  have hn : xs.length = n := by have := h.1; omega
  rcases h.2 with ⟨rfl, rfl⟩ | ⟨g, cap, cur, rfl, _, hg, hle, _, hs, htake⟩
  · exact ⟨none, 0, rfl, hn, ⟨.inl (List.eq_nil_of_length_eq_zero hn), by omega, fun _ => rfl⟩⟩
  · refine ⟨some ⟨g, 0, none⟩, cap, rfl, hn, ⟨.inr ⟨g, 0, rfl, (Array.getElem?_eq_some_iff.1 hg).1, fun i hi => ?_⟩, by omega, fun h => by cases h⟩⟩
    rw [Nat.zero_add, cell_of_row w g i cur t (0, 0) hg, ← htake, List.getElem?_take, if_pos (by omega)]
    simp
theorem Rd.at_add {w : World} {ad : Addr} {xs : List Value} (h : Rd w (some ad) xs) : ∀ j v, xs[j]? = some v → w.cell? (ad.add j) = some v := by
  intro j v hv
  have hj : j < xs.length := (List.getElem?_eq_some_iff.1 hv).1
  obtain ⟨b, o, hA, _, hc⟩ := h.get hj
  injection hA with hA
  subst hA
  rw [Addr.add_lit, hc]; exact hv

theorem cells_new (w : World) (t : TypeId) (xs : List Value) : ∀ j u, xs[j]? = some u → (w.alloc (.cells xs.toArray t)).cell? ((⟨w.heap.size, 0, none⟩ : Addr).add j) = some u := by
  intro j u hu
  rw [Addr.add_lit, Nat.zero_add, (Row.new w t xs).cell]; exact hu
theorem own_later {w w' : World} {base t n B : Nat} {v : Value} {xs : List Value} (h : w.ownsRow base t 1 v n xs) (hb : Below B w w') (hB : w.heap.size ≤ B) : w'.ownsRow base t 1 v n xs := by
  refine ⟨h.1, ?_⟩
  rcases h.2 with hn | ⟨g, cap, cur, rfl, hbg, hg, rest⟩
  · exact .inl hn
  · exact .inr ⟨g, cap, cur, rfl, hbg, (hb.block g (Nat.lt_of_lt_of_le (Array.getElem?_eq_some_iff.1 hg).1 hB)).trans hg, rest⟩
theorem run_append_sl {P : Program} (w : World) (base : Nat) (t ty e : TypeId) (i : TypeInfo) (z : Value) (bytes : Nat) (ht : P.underlying t = some (.slice e)) (hi : P.info? e = some i) (hz : i.zero = some z)
    (hsize : i.size = 1) (hby : i.bytes = bytes) (hzs : z.cells.size = 1) (v : Value) (n : Nat) (xs : List Value) (hown : w.ownsRow base e 1 v n xs)
    (A : Option Addr) (m c : Nat) (news : List Value) (hm : m = news.length) (hsl : Sl w A c news) (h1 : ∀ u ∈ news, u.oneCell' = true)
    (h63 : n + m ≤ maxLen) (hbytes : (n + m) * bytes ≤ 140737488355328) (hbase : base ≤ w.heap.size) :
    ∃ v' w', (Builtin.append_ #[t, t] ty #[v, .slice A m c]).run P w = .ok v' w' ∧ w'.ownsRow base e 1 v' (n + m) (xs ++ news) ∧ w.grownBy w' v.ownBlock := by
  subst hm
  cases A with
  | none =>
    have hc := hsl.bare rfl
    have hl := hsl.room
    obtain rfl : news = [] := List.eq_nil_of_length_eq_zero (by omega)
    subst hc
    exact ⟨v, w, run_append_owned_none (P := P) (w := w) base t ty e i 1 ht hi v n xs hown, by simpa using hown, World.grownBy.refl w _⟩
  | some ad =>
    obtain ⟨v', w', h1', h2, h3, _⟩ := run_append_own (P := P) w base t ty e i z 1 bytes ht hi hz hsize hby hzs (by omega) v n xs hown ad news.length c news (by omega) hsl.rd.at_add h1 h63 hbytes hbase
    exact ⟨v', w', h1', h2, h3⟩
theorem below_step {a b c : World} (h : Below a.heap.size a b) (k : Below b.heap.size b c) : Below a.heap.size a c := h.trans (k.mono h.size)
theorem below_size {a b : World} (h : Below a.heap.size a b) : a.heap.size ≤ b.heap.size := h.size
theorem Sl.grown {w w' : World} {g k c : Nat} {xs : List Value} (h : Sl w (some ⟨g, 0, none⟩) c xs) (hg : w.grownBy w' (some k)) (hne : g ≠ k) : Sl w' (some ⟨g, 0, none⟩) c xs := by
  refine ⟨?_, h.room, h.bare⟩
  rcases h.rd with hn | ⟨b, o, hA, hlt, hc⟩
  · exact .inl hn
  · injection hA with hA
    injection hA with h1 h2
    subst h1 h2
    refine .inr ⟨g, 0, rfl, Nat.lt_of_lt_of_le hlt hg.size, fun i hi => ?_⟩
    rw [World.cell?_of_block (w := w) (hg.block g hlt (fun e => hne (Option.some.inj e)))]
    exact hc i hi
/-- The same as one step of a region that draws its order. -/
theorem step_append_sl {P : Program} {w : World} {ops : Array Oper} {o : Oper} {a : Act} {K : Act → World → Prop} {Q : Exit → Act → World → Prop} {E : Prop} (hgd : Region.wanted o (yielded ops a.tmps) = true) (s x : Operand) (t : TypeId)
    (ho : o.op = .call { callee := .builtin .append, args := #[s, x], argTypes := #[t, t] })
    (base : Nat) (e : TypeId) (i : TypeInfo) (z : Value) (bytes : Nat) (ht : P.underlying t = some (.slice e)) (hi : P.info? e = some i) (hz : i.zero = some z)
    (hsize : i.size = 1) (hby : i.bytes = bytes) (hzs : z.cells.size = 1)
    (v : Value) (n : Nat) (xs : List Value) (hs : a.eval s = v) (hown : w.ownsRow base e 1 v n xs)
    (A : Option Addr) (m c : Nat) (news : List Value) (hx : a.eval x = .slice A m c) (hm : m = news.length) (hsl : Sl w A c news) (h1 : ∀ u ∈ news, u.oneCell' = true)
    (h63 : n + m ≤ maxLen) (hbytes : (n + m) * bytes ≤ 140737488355328) (W0 : World) (hb0 : base = W0.heap.size) (hbel : Below W0.heap.size W0 w)
    (h : ∀ v' w', w'.ownsRow base e 1 v' (n + m) (xs ++ news) → w.grownBy w' v.ownBlock → Below W0.heap.size W0 w' → K (a.put o.dst v') w') :
    if Region.wanted o (yielded ops a.tmps) = true then Oper.wp P o a w K Q else E := by
  rw [if_pos hgd]
  obtain ⟨v', w', hrun, h2, h3⟩ := run_append_sl (P := P) w base t o.type e i z bytes ht hi hz hsize hby hzs v n xs hown A m c news hm hsl h1 h63 hbytes (by rw [hb0]; exact hbel.size)
  unfold Oper.wp execOp
  simp only [ho, resolve, invoke, builtin, Sem.run_bind, Sem.run_pure, Result.andThen_ok, List.map_toArray, List.map_cons, List.map_nil, hs, hx, hrun]
  exact h v' w' h2 h3 (hbel.grown h3 hbel.size (fun k hk => by rw [← hb0]; exact (hown.lt k hk).1))
/-- 'append' onto a slice of the call's own, whatever is appended. -/
theorem wpList_append_sl {P : Program} {w : World} {ops : Array Oper} {rest : List Oper} {o : Oper} {a : Act} {Q : Exit → Act → World → Prop} (hgd : o.guard = none) (s x : Operand) (t : TypeId)
    (ho : o.op = .call { callee := .builtin .append, args := #[s, x], argTypes := #[t, t] })
    (base : Nat) (e : TypeId) (i : TypeInfo) (z : Value) (bytes : Nat) (ht : P.underlying t = some (.slice e)) (hi : P.info? e = some i) (hz : i.zero = some z)
    (hsize : i.size = 1) (hby : i.bytes = bytes) (hzs : z.cells.size = 1)
    (v : Value) (n : Nat) (xs : List Value) (hs : a.eval s = v) (hown : w.ownsRow base e 1 v n xs)
    (A : Option Addr) (m c : Nat) (news : List Value) (hx : a.eval x = .slice A m c) (hm : m = news.length) (hsl : Sl w A c news) (h1 : ∀ u ∈ news, u.oneCell' = true)
    (h63 : n + m ≤ maxLen) (hbytes : (n + m) * bytes ≤ 140737488355328) (hbase : base ≤ w.heap.size)
    (h : ∀ v' w', w'.ownsRow base e 1 v' (n + m) (xs ++ news) → w.grownBy w' v.ownBlock → wpList P ops Q rest (a.put o.dst v') w') : wpList P ops Q (o :: rest) a w := by
  subst hm
  cases A with
  | none =>
    have hc := hsl.bare rfl
    have hl := hsl.room
    obtain rfl : news = [] := List.eq_nil_of_length_eq_zero (by omega)
    subst hc
    refine wpList_append_own_none hgd s x t ho base e i 1 ht hi v n xs hs hown hx (h v w ?_ (World.grownBy.refl w _))
    simpa using hown
  | some ad => exact wpList_append_own w hgd s x t ho base e i z 1 bytes ht hi hz hsize hby hzs (by omega) v n xs hs hown ad news.length c news hx (by omega) hsl.rd.at_add h1 h63 hbytes hbase fun v' w' h2 h3 _ => h v' w' h2 h3

def byts (xs : List UInt8) : List Value := xs.map fun b => Value.int .u8 (b.toNat : Int)
theorem length_byts (xs : List UInt8) : (byts xs).length = xs.length := by unfold byts; simp
theorem get_byts (xs : List UInt8) (i : Nat) (h : i < xs.length) : (byts xs)[i]? = some (.int .u8 ((xs.getD i 0).toNat : Int)) := by
  unfold byts; simp [h]
theorem byts_append (xs ys : List UInt8) : byts (xs ++ ys) = byts xs ++ byts ys := by unfold byts; simp
theorem byts_one (xs : List UInt8) : ∀ v ∈ byts xs, v.oneCell' = true := by
  intro v hv
  obtain ⟨_, _, rfl⟩ := List.mem_map.1 hv
  rfl
theorem byte_bd (b : UInt8) : 0 ≤ (b.toNat : Int) ∧ (b.toNat : Int) < 256 := by have := b.toNat_lt; omega
/-- The call gave a slice of its own that holds just these bytes; what was there before is as it was. -/
def GaveBytes (xs : List UInt8) (w : World) (e : Ending) (w' : World) : Prop :=
  ∃ v, e = .returned v ∧ w'.ownsRow w.heap.size 5 1 v xs.length (byts xs) ∧ Below w.heap.size w w'

/-! ### A region that draws its order, step by step -/
theorem put_some (l : List Value) (d : List Deferred) (i : Nat) (v : Value) : ({ tmps := l.toArray, defers := d } : Act).put (some i) v = { tmps := (l.set i v).toArray, defers := d } := by
  simp [Act.put]
/-- What is kept in a region may be narrowed on the way: behind a call that made memory, to what keeps that. -/
theorem wpAnyH_narrow {P : Program} {md : Region.Mode} {ops : Array Oper} {Q : Exit → Act → World → Prop} {S S' : World → Prop} (hS : ∀ w, S' w → S w) :
    ∀ (fuel : Nat) (listed : Array Bool) (a : Act) (w : World), wpAnyH P md ops Q S' fuel listed a w → wpAnyH P md ops Q S fuel listed a w
  | 0, _, _, _, h => h
  | fuel + 1, _, _, _, h => ⟨h.1, fun i hi => wpOp_mono (fun a' w' h' => ⟨hS _ h'.1, wpAnyH_narrow hS fuel _ a' w' h'.2⟩) (h.2 i hi)⟩
section
variable {P : Program} {md : Region.Mode} {ops : Array Oper} {Q : Exit → Act → World → Prop} {S : World → Prop} {fuel : Nat} {listed : Array Bool} {a : Act} {w : World}
theorem rtake (i : Nat) (o : Oper) (d : Option Tmp) (v : Value) (hi : ops[i]? = some o) (hd : o.dst = d) (hs : Region.noSelect ops = true) (hf : Region.free md ops listed i = true) (hr : (Region.ready md ops listed).contains i = true)
    (hQ : ∀ c a w, Q (.panic c) (a.put d v) w → Q (.panic c) a w) (hw : Region.wanted o (yielded ops a.tmps) = true) (hS : S w) (hy : ∀ w, S w → (execOp a.eval o).run P w = .ok (.value v) w)
    (h : wpAnyH P md ops Q S fuel (listed.setIfInBounds i true) (a.put d v) w) : wpAnyH P md ops Q S (fuel + 1) listed a w := by
  subst hd
  exact wpAnyH_take hi hs hf hr hQ (Or.inl ⟨hw, hy⟩) hS h
end
end Go.Proofs.YtbngnmhbnhpbeaaDoor
