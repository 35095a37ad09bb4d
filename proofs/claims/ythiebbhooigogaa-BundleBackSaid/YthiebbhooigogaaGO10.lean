/- Texts of this claim, one behind the other. -/
import Derived.Test.YthiebbhooigogaaK
import Derived.Test.YthiebbhooigogaaGr
import Derived.Test.YthiebbhooigogaaO6
import Derived.Deep.Slices
import Derived.ChangeSame
import Derived.Test.YthiebbhooigogaaGEl
import Derived.Test.YthiebbhooigogaaGEj
/- AN ARGUMENT THAT IS A TOKEN (a number, a string, a slice of caveats, a truth value, 32 bytes), opened, its strings' sizes out of the row's reach. -/
namespace Go.Proofs.Ythiebbhooigogaa
open Go.ChangeShapes Go.WideShapes Go.ChangeAt Go.RowKit

instance : Inhabited Cav := ⟨⟨false, [], 0, [], []⟩⟩
theorem cells_cav : Try.prog.cellsOf 51 = 5 := by kernel_rfl
theorem cells_tok : Try.prog.cellsOf 27 = 36 := by kernel_rfl
theorem cells_tag : Try.prog.cellsOf 25 = 32 := by kernel_rfl
theorem cells_u8 : Try.prog.cellsOf 5 = 1 := by kernel_rfl
theorem cells_u64 : Try.prog.cellsOf 22 = 1 := by kernel_rfl
theorem cells_bool : Try.prog.cellsOf 4 = 1 := by kernel_rfl
theorem cells_cavs : Try.prog.cellsOf 23 = 1 := by kernel_rfl
section
variable {H : Type} {enc : TypeId × Value → H} {W : World} {held : Bool} {b1 : Nat}
theorem weights_each_all {P : Program} {e : TypeId} {ds : List (DataW H)} {d : DataW H} (h : d ∈ ds) : ∀ n ∈ d.weights P e, n ∈ DataW.weightsAll P e ds := by
  induction ds with
  | nil => cases h
  | cons q ds ih =>
    intro n hn
    show n ∈ DataW.weights P e q ++ DataW.weightsAll P e ds
    rcases List.mem_cons.1 h with rfl | h
    · exact List.mem_append_left _ hn
    · exact List.mem_append_right _ (ih h n hn)
theorem len5 {α : Type} (l : List α) (h : l.length = 5) : ∃ a b c d e, l = [a, b, c, d, e] := by
  match l, h with
  | [a, b, c, d, e], _ => exact ⟨a, b, c, d, e, rfl⟩
/-- Five cells that are a caveat. -/
theorem open_cav {n : Nat} {cs : List Value} {x : DataW H × List MemPlace} (h : DataW.trod enc Try.prog W b1 (fun _ => true) held n 51 cs = some x) :
    ∃ cv : Cav, cs = cavV cv ∧ cv.party < 18446744073709551616 ∧ cv.text.length ∈ x.1.weights Try.prog 51 ∧ cv.id.length ∈ x.1.weights Try.prog 51 ∧ cv.vault.length ∈ x.1.weights Try.prog 51 := by
  obtain ⟨xs, m, _, rfl, hcl, hxl, hf⟩ := DataW.trod_struct Try.underlying51 h
  rw [cells_cav] at hcl
  obtain ⟨v0, v1, v2, v3, v4, rfl⟩ := len5 cs hcl
  obtain ⟨y0, y1, y2, y3, y4, rfl⟩ := len5 xs hxl
  have g0 : DataW.trod enc Try.prog W b1 (fun _ => true) held m 4 (([v0, v1, v2, v3, v4].drop 0).take (Try.prog.cellsOf 4)) = some y0 := hf 0 _ rfl
  rw [cells_bool] at g0
  have g1 : DataW.trod enc Try.prog W b1 (fun _ => true) held m 9 (([v0, v1, v2, v3, v4].drop 1).take (Try.prog.cellsOf 9)) = some y1 := hf 1 _ rfl
  rw [cells_str] at g1
  have g2 : DataW.trod enc Try.prog W b1 (fun _ => true) held m 22 (([v0, v1, v2, v3, v4].drop 2).take (Try.prog.cellsOf 22)) = some y2 := hf 2 _ rfl
  rw [cells_u64] at g2
  have g3 : DataW.trod enc Try.prog W b1 (fun _ => true) held m 9 (([v0, v1, v2, v3, v4].drop 3).take (Try.prog.cellsOf 9)) = some y3 := hf 3 _ rfl
  rw [cells_str] at g3
  have g4 : DataW.trod enc Try.prog W b1 (fun _ => true) held m 9 (([v0, v1, v2, v3, v4].drop 4).take (Try.prog.cellsOf 9)) = some y4 := hf 4 _ rfl
  rw [cells_str] at g4
  clear hf hcl hxl h
  obtain ⟨b, e0, _⟩ := DataW.trod_bool Try.underlying4 g0
  obtain ⟨s1, e1, q1, _⟩ := DataW.trod_string Try.underlying9 g1
  obtain ⟨z, e2, _, hwf⟩ := DataW.trod_int Try.underlying22 g2
  obtain ⟨s3, e3, q3, _⟩ := DataW.trod_string Try.underlying9 g3
  obtain ⟨s4, e4, q4, _⟩ := DataW.trod_string Try.underlying9 g4
  have hb := bounds_u64 hwf
  simp at e0 e1 e2 e3 e4
  subst e0 e1 e2 e3 e4 q1 q3 q4
  refine ⟨⟨b, s1.data.toList, z.toNat, s3.data.toList, s4.data.toList⟩, ?_, ?_, ?_, ?_, ?_⟩
  · unfold cavV
    dsimp only
    rw [bstr_data, bstr_data, bstr_data, show ((z.toNat : Nat) : Int) = z by omega]
  · show z.toNat < _; omega
  all_goals
    simp only [DataW.weights, Try.underlying51, List.map_cons, List.map_nil, DataW.weightsEach, List.mem_append, List.mem_singleton]
    simp
theorem cut5 {α : Type} (l : List α) : l = (l.drop 0).take 1 ++ ((l.drop 1).take 1 ++ ((l.drop 2).take 1 ++ ((l.drop 3).take 1 ++ l.drop 4))) := by
  match l with
  | [] => rfl
  | [_] => rfl
  | [_, _] => rfl
  | [_, _, _] => rfl
  | _ :: _ :: _ :: _ :: _ => rfl
/-- One cell that is a slice of caveats. -/
theorem open_cavs {n : Nat} {cs : List Value} {x : DataW H × List MemPlace} (h : DataW.trod enc Try.prog W b1 (fun _ => true) held n 23 cs = some x) (hsz : ∀ k ∈ x.1.weights Try.prog 23, k ≤ reachBytes) :
    ∃ (A : Option Addr) (c : Nat) (cvs : List Cav), cs = [.slice A cvs.length c] ∧ Sl W A (c * 5) (cvs.flatMap cavV) ∧ cvs.length ≤ 9223372036854775807 ∧ (∀ cv ∈ cvs, cv.party < 18446744073709551616) ∧
      ∀ cv ∈ cvs, cv.text.length ≤ 140737488351232 ∧ cv.id.length ≤ 140737488351232 ∧ cv.vault.length ≤ 140737488351232 := by
  rcases Deep.open_slice Try.underlying23 h with ⟨rfl, rfl⟩ | ⟨a, len, cap, m, k, D, Pl, rfl, _, hl, hm, hmm, rfl, hx⟩
  · exact ⟨none, 0, [], rfl, ⟨.inl rfl, Nat.le_refl _, fun _ => rfl⟩, by simp, (fun _ h => by cases h), (fun _ h => by cases h)⟩
  · have hmc : m = cap := by simpa using hmm
    unfold maxLen at hm
    have each : ∀ i, i < m → ∃ cv : Cav, (∀ j, j < 5 → W.cell? (a.add (i * 5 + j)) = (cavV cv)[j]?) ∧ cv.party < 18446744073709551616 ∧ cv.text.length ∈ (D i).weights Try.prog 51 ∧ cv.id.length ∈ (D i).weights Try.prog 51 ∧ cv.vault.length ∈ (D i).weights Try.prog 51 := by
      intro i hi
      obtain ⟨cs', h1, h2⟩ := hx i hi
      rw [cells_cav] at h1
      obtain ⟨cv, rfl, p1, p2, p3, p4⟩ := open_cav h2
      obtain ⟨_, _, hcell⟩ := World.cells?_some h1
      refine ⟨cv, fun j hj => ?_, p1, p2, p3, p4⟩
      have := hcell j hj
      rwa [Deep.add_add] at this
    obtain ⟨Q, hQ⟩ := Deep.choose_lt each
    have hlen : ((List.range len).map Q).length = len := by simp
    refine ⟨some a, cap, (List.range len).map Q, by rw [hlen], ⟨?_, by rw [length_cavsV, hlen]; omega, fun h => by cases h⟩, by rw [hlen]; omega, fun cv hcv => ?_, fun cv hcv => ?_⟩
    · by_cases h0 : len = 0
      · subst h0; exact .inl rfl
      · obtain ⟨b, off, spot⟩ := a
        have hc0 := (hQ 0 (by omega)).1 0 (by omega)
        have hc0 : W.cell? ((⟨b, off, spot⟩ : Addr).add (0 * 5 + 0)) = some (.bool (Q 0).third) := hc0
        have hspot : spot = none := by simpa [Addr.add] using World.cell?_spot hc0
        subst hspot
        refine .inr ⟨b, off, rfl, ?_, fun i hi => ?_⟩
        · have := World.block_lt_of_cell? W _ hc0
          rw [Addr.add_lit] at this; exact this
        · rw [length_cavsV, hlen] at hi
          have hi5 : i / 5 < len := by omega
          have hk := (hQ (i / 5) (by omega)).1 (i % 5) (by omega)
          rw [Addr.add_lit, show off + (i / 5 * 5 + i % 5) = off + i by omega] at hk
          have hfl := flat_at cavV 5 ((List.range len).map Q) (fun _ _ => rfl) (i / 5) (Q (i / 5)) (by simp [hi5]) (i % 5) (by omega)
          rw [show i / 5 * 5 + i % 5 = i by omega] at hfl
          rw [hfl]; exact hk
    · obtain ⟨i, hi, rfl⟩ := List.mem_map.1 hcv
      have hir := List.mem_range.1 hi
      exact (hQ i (by omega)).2.1
    · obtain ⟨i, hi, rfl⟩ := List.mem_map.1 hcv
      have hir := List.mem_range.1 hi
      have key : ∀ n ∈ (D i).weights Try.prog 51, n ≤ 140737488351232 := by
        intro n hn
        have := hsz n (by
          simp only [DataW.weights, Try.underlying23]
          exact List.mem_cons_of_mem _ (List.mem_append_left _ (weights_each_all (List.mem_map.2 ⟨i, hi, rfl⟩) n hn)))
        unfold reachBytes at this
        exact this
      obtain ⟨_, _, w1, w2, w3⟩ := hQ i (by omega)
      exact ⟨key _ w1, key _ w2, key _ w3⟩
/-- The cells of 32 bytes. -/
theorem open_tag {n : Nat} {cs : List Value} {x : DataW H × List MemPlace} (h : DataW.trod enc Try.prog W b1 (fun _ => true) held n 25 cs = some x) : ∃ l : List UInt8, l.length = 32 ∧ cs = byts l := by
  obtain ⟨xs, m, _, _, hcl, hxl, hf⟩ := DataW.trod_array Try.underlying25 h
  rw [cells_tag] at hcl
  have hel : ∀ i, i < cs.length → ∃ z, cs[i]? = some (.int .u8 z) ∧ (Lit.int .u8 z).wf = true := by
    intro i hi
    have h1 := hf i (by omega)
    rw [cells_u8, List.getElem?_eq_getElem (by omega)] at h1
    obtain ⟨z, hc, _, hw⟩ := DataW.trod_int Try.underlying5 h1
    refine ⟨z, ?_, hw⟩
    have := congrArg (·[0]?) hc
    simpa [List.getElem?_take, List.getElem?_drop] using this
  obtain ⟨zs, h1, h2, h3⟩ := ints_of_list (k := .u8) cs hel
  obtain ⟨l, q1, q2⟩ := bytes_of_ints zs (fun j hj => bounds_u8 (h3 j (by omega)))
  exact ⟨l, by omega, by rw [h2, q2]⟩
/-- 36 cells that are a token. -/
theorem open_tok {n : Nat} {cs : List Value} {x : DataW H × List MemPlace} (h : DataW.trod enc Try.prog W b1 (fun _ => true) held n 27 cs = some x) (hsz : ∀ k ∈ x.1.weights Try.prog 27, k ≤ reachBytes) :
    ∃ (t : Tok) (A : Option Addr) (c : Nat), cs = tokV t A c ∧ t.Ok ∧ t.Fit ∧ Sl W A (c * 5) (t.cavs.flatMap cavV) := by
  obtain ⟨xs, m, _, rfl, hcl, hxl, hf⟩ := DataW.trod_struct Try.underlying27 h
  rw [cells_tok] at hcl
  obtain ⟨y0, y1, y2, y3, y4, rfl⟩ := len5 xs hxl
  have g0 : DataW.trod enc Try.prog W b1 (fun _ => true) held m 22 ((cs.drop 0).take (Try.prog.cellsOf 22)) = some y0 := hf 0 _ rfl
  have g1 : DataW.trod enc Try.prog W b1 (fun _ => true) held m 9 ((cs.drop 1).take (Try.prog.cellsOf 9)) = some y1 := hf 1 _ rfl
  have g2 : DataW.trod enc Try.prog W b1 (fun _ => true) held m 23 ((cs.drop 2).take (Try.prog.cellsOf 23)) = some y2 := hf 2 _ rfl
  have g3 : DataW.trod enc Try.prog W b1 (fun _ => true) held m 4 ((cs.drop 3).take (Try.prog.cellsOf 4)) = some y3 := hf 3 _ rfl
  have g4 : DataW.trod enc Try.prog W b1 (fun _ => true) held m 25 ((cs.drop 4).take (Try.prog.cellsOf 25)) = some y4 := hf 4 _ rfl
  rw [cells_u64] at g0
  rw [cells_str] at g1
  rw [cells_cavs] at g2
  rw [cells_bool] at g3
  rw [cells_tag, List.take_of_length_le (by rw [List.length_drop]; omega)] at g4
  have hwe : ∀ k, (k ∈ y1.1.weights Try.prog 9 ∨ k ∈ y2.1.weights Try.prog 23) → k ≤ reachBytes := by
    intro k hk
    refine hsz k ?_
    simp only [DataW.weights, Try.underlying27, List.map_cons, List.map_nil, DataW.weightsEach, List.mem_append]
    rcases hk with hk | hk
    · exact .inr (.inl hk)
    · exact .inr (.inr (.inl hk))
  obtain ⟨z, e0, _, hwf⟩ := DataW.trod_int Try.underlying22 g0
  obtain ⟨s1, e1, q1, _⟩ := DataW.trod_string Try.underlying9 g1
  obtain ⟨A, c, cvs, e2, hsl, hmany, hparty, hfit⟩ := open_cavs g2 (fun k hk => hwe k (.inr hk))
  obtain ⟨b, e3, _⟩ := DataW.trod_bool Try.underlying4 g3
  obtain ⟨l, hl, e4⟩ := open_tag g4
  have hb := bounds_u64 hwf
  refine ⟨⟨z.toNat, s1.data.toList, cvs, b, l⟩, A, c, ?_, ⟨by show z.toNat < _; omega, hparty, hl⟩, ⟨?_, hmany, hfit⟩, hsl⟩
  · rw [cut5 cs, e0, e1, e2, e3, e4]
    unfold tokV tokH
    dsimp only
    rw [bstr_data, show ((z.toNat : Nat) : Int) = z by omega]
    rfl
  · have := hwe s1.data.toList.length (.inl (by rw [q1]; simp [DataW.weights]))
    unfold reachBytes at this
    exact this
end
set_option maxRecDepth 100000 in
/-- An argument that is a token. -/
theorem open_tokArg {H : Type} {enc : TypeId × Value → H} {W : World} {held : Bool} {b0 b1 : Nat} {r : Reach} {v : Value} {d : DataW H} {p : List MemPlace} {ts : List TypeId} {ds : List (DataW H)}
    (hv : Value.okWide Try.prog W r b0 27 v) (h : DataW.Trod enc Try.prog W b1 (fun _ => true) held 27 v d p) (hsz : (DataW.weightsEach Try.prog ts ds).all (· ≤ reachBytes) = true) {j : Nat} (ht : ts[j]? = some 27) (hd : ds[j]? = some d) :
    ∃ (t : Tok) (A : Option Addr) (c : Nat), v = .agg (tokV t A c).toArray ∧ t.Ok ∧ t.Fit ∧ Sl W A (c * 5) (t.cavs.flatMap cavV) := by
  simp only [Value.okWide, Try.underlying27] at hv
  obtain ⟨cs, rfl, _, _⟩ := hv
  obtain ⟨fuel, hf⟩ := h
  obtain ⟨t, A, c, e, h1, h2, h3⟩ := open_tok hf (fun k hk => of_decide_eq_true (List.all_eq_true.1 hsz k (DataW.weights_mem_each ht hd k hk)))
  refine ⟨t, A, c, ?_, h1, h2, h3⟩
  have e : cs.toList = tokV t A c := e
  rw [← e]
/-- A zero token, as a value and as data. -/
def zTokV : Value := .agg (#[.int .u64 0, .string { data := #[] }, .slice none 0 0, .bool false] ++ Array.replicate 32 (.int .u8 0))
def zTokD {H : Type} : DataW H := .agg [.lit (.int .u64 0), .lit (.string []), .nil, .lit (.bool false), .agg (List.replicate 32 (.lit (.int .u8 0)))]
end Go.Proofs.Ythiebbhooigogaa

/- AN ARGUMENT THAT IS A BUNDLE (a token, and a slice of tokens), opened. -/
namespace Go.Proofs.Ythiebbhooigogaa
open Go.ChangeShapes Go.WideShapes Go.ChangeAt Go.RowKit

instance : Inhabited Tok := ⟨zeroK⟩
theorem cells_bun : Try.prog.cellsOf 30 = 37 := by kernel_rfl
theorem cells_toks : Try.prog.cellsOf 28 = 1 := by kernel_rfl
section
variable {H : Type} {enc : TypeId × Value → H} {W : World} {held : Bool} {b1 : Nat}
theorem len2 {α : Type} (l : List α) (h : l.length = 2) : ∃ a b, l = [a, b] := by
  match l, h with
  | [a, b], _ => exact ⟨a, b, rfl⟩
/-- One cell that is a slice of tokens. -/
theorem open_toks {n : Nat} {cs : List Value} {x : DataW H × List MemPlace} (h : DataW.trod enc Try.prog W b1 (fun _ => true) held n 28 cs = some x) (hsz : ∀ k ∈ x.1.weights Try.prog 28, k ≤ reachBytes) :
    ∃ (A : Option Addr) (c : Nat) (ds : List Dis), cs = [.slice A ds.length c] ∧ Bs W A c ds ∧ ds.length ≤ 9223372036854775807 ∧ (∀ d ∈ toks ds, d.Ok) ∧ ∀ d ∈ toks ds, d.Fit := by
  rcases Deep.open_slice Try.underlying28 h with ⟨rfl, rfl⟩ | ⟨a, len, cap, m, k, D, Pl, rfl, _, hl, hm, hmm, rfl, hx⟩
  · exact ⟨none, 0, [], rfl, Bs.nil W, by simp, (fun _ h => by cases h), (fun _ h => by cases h)⟩
  · have hmc : m = cap := by simpa using hmm
    unfold maxLen at hm
    have each : ∀ i, i < len → ∃ dd : Dis, (∀ j, j < 36 → W.cell? (a.add (i * 36 + j)) = (disV dd)[j]?) ∧ dd.1.Ok ∧ dd.1.Fit ∧ Sl W dd.2.1 (dd.2.2 * 5) (dd.1.cavs.flatMap cavV) := by
      intro i hi
      obtain ⟨cs', h1, h2⟩ := hx i (by omega)
      rw [cells_tok] at h1
      obtain ⟨t, A, c, rfl, p1, p2, p3⟩ := open_tok h2 (fun k hk => hsz k (by
        simp only [DataW.weights, Try.underlying28]
        exact List.mem_cons_of_mem _ (List.mem_append_left _ (weights_each_all (List.mem_map.2 ⟨i, List.mem_range.2 hi, rfl⟩) k hk))))
      obtain ⟨_, _, hcell⟩ := World.cells?_some h1
      refine ⟨(t, A, c), fun j hj => ?_, p1, p2, p3⟩
      have := hcell j hj
      rwa [Deep.add_add] at this
    obtain ⟨Q, hQ⟩ := Deep.choose_lt each
    have hlen : ((List.range len).map Q).length = len := by simp
    have hmem : ∀ d ∈ (List.range len).map Q, ∃ i, i < len ∧ Q i = d := fun d hd => by
      obtain ⟨i, hi, rfl⟩ := List.mem_map.1 hd
      exact ⟨i, List.mem_range.1 hi, rfl⟩
    have hok : ∀ d ∈ toks ((List.range len).map Q), d.Ok := fun d hd => by
      obtain ⟨e, he, rfl⟩ := List.mem_map.1 hd
      obtain ⟨i, hi, rfl⟩ := hmem e he
      exact (hQ i hi).2.1
    have hfit : ∀ d ∈ toks ((List.range len).map Q), d.Fit := fun d hd => by
      obtain ⟨e, he, rfl⟩ := List.mem_map.1 hd
      obtain ⟨i, hi, rfl⟩ := hmem e he
      exact (hQ i hi).2.2.1
    refine ⟨some a, cap, (List.range len).map Q, by rw [hlen], ⟨⟨?_, by rw [length_dissV hok, hlen]; omega, fun h => by cases h⟩, fun d hd => ?_⟩, by rw [hlen]; omega, hok, hfit⟩
    · by_cases h0 : len = 0
      · subst h0; exact .inl rfl
      · obtain ⟨b, off, spot⟩ := a
        have hc0 := (hQ 0 (by omega)).1 0 (by omega)
        have hc0 : W.cell? ((⟨b, off, spot⟩ : Addr).add (0 * 36 + 0)) = some (.int .u64 (Q 0).1.key) := hc0
        have hspot : spot = none := by simpa [Addr.add] using World.cell?_spot hc0
        subst hspot
        refine .inr ⟨b, off, rfl, ?_, fun i hi => ?_⟩
        · have := World.block_lt_of_cell? W _ hc0
          rw [Addr.add_lit] at this; exact this
        · rw [length_dissV hok, hlen] at hi
          have hi36 : i / 36 < len := by omega
          have hk := (hQ (i / 36) (by omega)).1 (i % 36) (by omega)
          rw [Addr.add_lit, show off + (i / 36 * 36 + i % 36) = off + i by omega] at hk
          have hfl := flat_at disV 36 ((List.range len).map Q) (dis_ok hok) (i / 36) (Q (i / 36)) (by simp [hi36]) (i % 36) (by omega)
          rw [show i / 36 * 36 + i % 36 = i by omega] at hfl
          rw [hfl]; exact hk
    · obtain ⟨i, hi, rfl⟩ := hmem d hd
      exact (hQ i hi).2.2.2
/-- 37 cells that are a bundle. -/
theorem open_bun {n : Nat} {cs : List Value} {x : DataW H × List MemPlace} (h : DataW.trod enc Try.prog W b1 (fun _ => true) held n 30 cs = some x) (hsz : ∀ k ∈ x.1.weights Try.prog 30, k ≤ reachBytes) :
    ∃ b : Bun, b.Ok ∧ b.Fit ∧ BunV 0 b W (.agg cs.toArray) := by
  obtain ⟨xs, m, _, rfl, hcl, hxl, hf⟩ := DataW.trod_struct Try.underlying30 h
  rw [cells_bun] at hcl
  obtain ⟨y0, y1, rfl⟩ := len2 xs hxl
  have g0 : DataW.trod enc Try.prog W b1 (fun _ => true) held m 27 ((cs.drop 0).take (Try.prog.cellsOf 27)) = some y0 := hf 0 _ rfl
  have g1 : DataW.trod enc Try.prog W b1 (fun _ => true) held m 28 ((cs.drop 36).take (Try.prog.cellsOf 28)) = some y1 := hf 1 _ rfl
  rw [cells_tok] at g0
  rw [cells_toks] at g1
  have hwe : ∀ k, (k ∈ y0.1.weights Try.prog 27 ∨ k ∈ y1.1.weights Try.prog 28) → k ≤ reachBytes := by
    intro k hk
    refine hsz k ?_
    simp only [DataW.weights, Try.underlying30, List.map_cons, List.map_nil, DataW.weightsEach, List.mem_append]
    rcases hk with hk | hk
    · exact .inl hk
    · exact .inr (.inl hk)
  obtain ⟨t, A, c, e0, hok, hfit, hsl⟩ := open_tok g0 (fun k hk => hwe k (.inl hk))
  obtain ⟨B, d, ds, e1, hbs, hmany, hdok, hdfit⟩ := open_toks g1 (fun k hk => hwe k (.inr hk))
  refine ⟨⟨t, toks ds⟩, ⟨hok, hdok⟩, ⟨hfit, hdfit, by rw [toks_len]; exact hmany⟩, A, c, B, d, ds, ?_, rfl, hbs.sl, fun e he => ?_, fun _ _ => Nat.zero_le _⟩
  · have ec : cs = bunV t A c B ds.length d := by
      unfold bunV
      rw [← e0, ← e1, List.drop_zero]
      have h2 : (cs.drop 36).take 1 = cs.drop 36 := List.take_of_length_le (by rw [List.length_drop]; omega)
      rw [h2, List.take_append_drop]
    rw [ec]
  · rcases List.mem_cons.1 he with rfl | he
    · exact ⟨hsl, fun _ _ _ => Nat.zero_le _⟩
    · exact ⟨hbs.each e he, fun _ _ _ => Nat.zero_le _⟩
end
set_option maxRecDepth 100000 in
/-- An argument that is a bundle. -/
theorem open_bunArg {H : Type} {enc : TypeId × Value → H} {W : World} {held : Bool} {b0 b1 : Nat} {r : Reach} {v : Value} {d : DataW H} {p : List MemPlace} {ts : List TypeId} {ds : List (DataW H)}
    (hv : Value.okWide Try.prog W r b0 30 v) (h : DataW.Trod enc Try.prog W b1 (fun _ => true) held 30 v d p) (hsz : (DataW.weightsEach Try.prog ts ds).all (· ≤ reachBytes) = true) {j : Nat} (ht : ts[j]? = some 30) (hd : ds[j]? = some d) :
    ∃ b : Bun, b.Ok ∧ b.Fit ∧ BunV 0 b W v := by
  simp only [Value.okWide, Try.underlying30] at hv
  obtain ⟨cs, rfl, _, _⟩ := hv
  obtain ⟨fuel, hf⟩ := h
  obtain ⟨b, h1, h2, h3⟩ := open_bun hf (fun k hk => of_decide_eq_true (List.all_eq_true.1 hsz k (DataW.weights_mem_each ht hd k hk)))
  refine ⟨b, h1, h2, ?_⟩
  have e : (Value.agg cs.toList.toArray) = .agg cs := by rw [Array.toArray_toList]
  rw [← e]; exact h3
def zBunV : Value := .agg (#[.int .u64 0, .string { data := #[] }, .slice none 0 0, .bool false] ++ Array.replicate 32 (.int .u8 0) ++ #[.slice none 0 0])
def zBunD {H : Type} : DataW H := .agg [zTokD, .nil]
end Go.Proofs.Ythiebbhooigogaa

/- LAYER 11, BundleTells: what the walks share. -/
namespace Go.Proofs.Ythiebbhooigogaa
open Go Go.RowKit

theorem small_of {b : Bun} (h : largeB b = false) : capT b.root ≤ 10000 ∧ b.dis.length ≤ 40 ∧ ∀ d ∈ b.dis, capT d ≤ 10000 := by
  unfold largeB at h
  rw [Bool.or_eq_false_iff, Bool.or_eq_false_iff] at h
  obtain ⟨⟨h1, h2⟩, h3⟩ := h
  refine ⟨by have := of_decide_eq_false h1; omega, by have := of_decide_eq_false h2; omega, fun d hd => ?_⟩
  have h4 := List.any_eq_false.1 h3 d hd
  simp only [decide_eq_true_eq] at h4
  omega
theorem cavs_cap (t : Tok) (h : capT t ≤ 10000) : t.cavs.length ≤ 1000000 := by
  have h1 := capT_len t.cavs
  unfold capT at h
  omega
theorem small_len {b : Bun} (hb : b.Ok) (h : capT b.root ≤ 10000 ∧ b.dis.length ≤ 40 ∧ ∀ d ∈ b.dis, capT d ≤ 10000) : (∀ e ∈ b.root :: b.dis, e.cavs.length ≤ 1000000) ∧ b.dis.length ≤ 1000000 ∧ (checkB b = true → (bytesB b).length ≤ 1000000) := by
  refine ⟨fun e he => ?_, by omega, fun hc => bytesB_small hb hc h.1 h.2.2⟩
  rcases List.mem_cons.1 he with rfl | he
  · exact cavs_cap _ h.1
  · exact cavs_cap _ (h.2.2 e he)
theorem bunD_fit (l : List UInt8) (h : l.length ≤ 1000000) : (bunD l).Fit := by
  unfold bunD
  split
  · exact zeroB_fit
  · cases hq : decB l with
    | none => exact zeroB_fit
    | some b =>
      rw [decB_okL] at hq
      split at hq
      · injection hq with hq
        rw [← hq]; exact bunL_fit l h
      · cases hq
end Go.Proofs.Ythiebbhooigogaa
