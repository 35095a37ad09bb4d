/- Texts of this claim, one behind the other. -/
import Derived.Test.YthiebbhooigogaaBt
import Derived.Test.YthiebbhooigogaaPe
import Derived.Test.YthiebbhooigogaaGr
import Derived.Test.YthiebbhooigogaaDc0
import Derived.Test.YthiebbhooigogaaPc
/- LAYER 11: bundles: lists alone; a slice of tokens in memory. -/
namespace Go.Proofs.Ythiebbhooigogaa
open Go Go.RowKit

structure Bun where
  root : Tok
  dis : List Tok
theorem Bun.ext_iff' (a b : Bun) : a = b ↔ a.root = b.root ∧ a.dis = b.dis := by cases a; cases b; simp
instance : DecidableEq Bun := fun a b => decidable_of_iff _ (Bun.ext_iff' a b).symm
structure Bun.Ok (b : Bun) : Prop where
  root : b.root.Ok
  dis : ∀ d ∈ b.dis, d.Ok
structure Bun.Fit (b : Bun) : Prop where
  root : b.root.Fit
  dis : ∀ d ∈ b.dis, d.Fit
  many : b.dis.length ≤ 9223372036854775807
def fitD (d : Tok) : Bool := checkT d && decide (d.key = 0)
def checkB (b : Bun) : Bool := checkT b.root && !b.root.bound && decide (b.dis.length ≤ 16) && b.dis.all fitD
def disF (d : Tok) : Fd := (17, bytesT d)
def bunF (b : Bun) : List Fd := (16, bytesT b.root) :: b.dis.map disF
def bytesB (b : Bun) : List UInt8 := joinL (bunF b)
def errB (b : Bun) : Int := if checkB b then (if 65536 < (bytesB b).length then 3 else 0) else 1
def encB (b : Bun) : List UInt8 := if checkB b ∧ (bytesB b).length ≤ 65536 then bytesB b else []
def zeroB : Bun := ⟨zeroK, []⟩
def tkF (f : Fd) : Tok := (decT f.2).getD zeroK
def readB (fs : List Fd) : Bun := match fs with | [] => zeroB | f :: fs => ⟨tkF f, fs.map tkF⟩
def okF (f : Fd) : Bool := (decT f.2).isSome
def decB (s : List UInt8) : Option Bun :=
  match allF s with
  | none => none
  | some fs => if fs.all okF = true ∧ checkB (readB fs) = true ∧ bytesB (readB fs) = s then some (readB fs) else none
theorem zeroB_ok : zeroB.Ok := ⟨zeroK_ok, fun _ h => by cases h⟩
theorem tkF_ok (f : Fd) : (tkF f).Ok := by
  unfold tkF
  cases h : decT f.2 with
  | none => exact zeroK_ok
  | some t => exact (decT_back _ _ h).2.2
theorem readB_ok (fs : List Fd) : (readB fs).Ok := by
  cases fs with
  | nil => exact zeroB_ok
  | cons f fs => exact ⟨tkF_ok f, fun d hd => by obtain ⟨g, _, rfl⟩ := List.mem_map.1 hd; exact tkF_ok g⟩
theorem okF_bytes {f : Fd} (h : okF f = true) : bytesT (tkF f) = f.2 := by
  unfold okF at h
  unfold tkF
  cases hq : decT f.2 with
  | none => rw [hq] at h; cases h
  | some t => exact (decT_back _ _ hq).2.1
theorem tkF_bytes {t : Tok} (k : UInt8) (h : t.Ok) (hc : checkT t = true) : tkF (k, bytesT t) = t ∧ okF (k, bytesT t) = true := by
  unfold tkF okF
  rw [decT_bytesT t h hc]
  exact ⟨rfl, rfl⟩
theorem checkB_parts {b : Bun} (h : checkB b = true) : checkT b.root = true ∧ b.root.bound = false ∧ b.dis.length ≤ 16 ∧ ∀ d ∈ b.dis, checkT d = true ∧ d.key = 0 := by
  unfold checkB at h
  simp only [Bool.and_eq_true, decide_eq_true_eq, Bool.not_eq_true'] at h
  refine ⟨h.1.1.1, h.1.1.2, h.1.2, fun d hd => ?_⟩
  have := List.all_eq_true.1 h.2 d hd
  unfold fitD at this
  simpa only [Bool.and_eq_true, decide_eq_true_eq] using this
theorem bunF_len {b : Bun} (hb : b.Ok) (h : checkB b = true) : ∀ f ∈ bunF b, f.2.length ≤ 1000000 := by
  obtain ⟨h1, _, _, h4⟩ := checkB_parts h
  intro f hf
  rcases List.mem_cons.1 hf with rfl | hf
  · exact bytesT_len hb.root h1
  · obtain ⟨d, hd, rfl⟩ := List.mem_map.1 hf
    exact bytesT_len (hb.dis d hd) (h4 d hd).1
theorem allF_bytesB {b : Bun} (hb : b.Ok) (h : checkB b = true) : allF (bytesB b) = some (bunF b) :=
  allF_joinL (bunF b) (fun f hf => Nat.lt_of_le_of_lt (bunF_len hb h f hf) (by decide))
theorem readB_bunF {b : Bun} (hb : b.Ok) (h : checkB b = true) : readB (bunF b) = b ∧ (bunF b).all okF = true := by
  obtain ⟨h1, _, _, h4⟩ := checkB_parts h
  obtain ⟨root, dis⟩ := b
  have hr := tkF_bytes 16 hb.root h1
  have hd : ∀ ds : List Tok, (∀ d ∈ ds, d.Ok ∧ checkT d = true) → (ds.map disF).map tkF = ds ∧ (ds.map disF).all okF = true := by
    intro ds
    induction ds with
    | nil => intro _; exact ⟨rfl, rfl⟩
    | cons d ds ih =>
      intro hh
      have h0 := hh d List.mem_cons_self
      have h5 := tkF_bytes 17 h0.1 h0.2
      have h6 := ih (fun e he => hh e (List.mem_cons_of_mem _ he))
      rw [List.map_cons, List.map_cons, List.all_cons, h6.1, h6.2]
      unfold disF
      rw [h5.1, h5.2]
      exact ⟨rfl, rfl⟩
  have h7 := hd dis (fun d hdm => ⟨hb.dis d hdm, (h4 d hdm).1⟩)
  constructor
  · show Bun.mk (tkF (16, bytesT root)) ((dis.map disF).map tkF) = _
    rw [hr.1, h7.1]
  · show (okF (16, bytesT root) && (dis.map disF).all okF) = true
    rw [hr.2, h7.2]; rfl
theorem decB_bytesB {b : Bun} (hb : b.Ok) (h : checkB b = true) : decB (bytesB b) = some b := by
  unfold decB
  rw [allF_bytesB hb h]
  have h1 := readB_bunF hb h
  dsimp only
  rw [h1.1, if_pos ⟨h1.2, h, rfl⟩]
theorem decB_back (s : List UInt8) (b : Bun) (h : decB s = some b) : checkB b = true ∧ bytesB b = s ∧ b.Ok := by
  unfold decB at h
  split at h
  · cases h
  · rename_i fs _
    split at h
    · rename_i hh
      injection h with h
      subst h
      exact ⟨hh.2.1, hh.2.2, readB_ok _⟩
    · cases h
theorem decB_iff (s : List UInt8) (b : Bun) : decB s = some b ↔ checkB b = true ∧ bytesB b = s ∧ b.Ok :=
  ⟨decB_back s b, fun h => by rw [← h.2.1]; exact decB_bytesB h.2.2 h.1⟩
theorem bytesB_inj {a b : Bun} (ha : a.Ok) (hc : checkB a = true) (hb : b.Ok) (hd : checkB b = true) (h : bytesB a = bytesB b) : a = b := by
  have h1 := decB_bytesB ha hc
  rw [h, decB_bytesB hb hd] at h1
  exact (Option.some.inj h1).symm
/-! What the program's reading comes to: the kinds asked first. -/
def kindsB (fs : List Fd) : Bool := match fs with | [] => false | f :: fs => decide (f.1 = 16) && fs.all (fun g => decide (g.1 = 17))
theorem kinds_map : ∀ fs : List Fd, fs.all okF = true → fs.all (fun g => decide (g.1 = 17)) = true → (fs.map tkF).map disF = fs
  | [], _, _ => rfl
  | f :: fs, h1, h2 => by
    rw [List.all_cons, Bool.and_eq_true] at h1 h2
    rw [List.map_cons, List.map_cons, kinds_map fs h1.2 h2.2]
    have h3 := okF_bytes h1.1
    have h4 : f.1 = 17 := by simpa using h2.1
    unfold disF
    rw [h3, ← h4]
theorem bunF_read {fs : List Fd} (hk : kindsB fs = true) (ho : fs.all okF = true) : bunF (readB fs) = fs := by
  cases fs with
  | nil => cases hk
  | cons f fs =>
    rw [List.all_cons, Bool.and_eq_true] at ho
    unfold kindsB at hk
    simp only [Bool.and_eq_true, decide_eq_true_eq] at hk
    show (16, bytesT (tkF f)) :: (fs.map tkF).map disF = _
    rw [okF_bytes ho.1, kinds_map fs ho.2 hk.2, ← hk.1]
/-- Decode by kinds. -/
theorem decB_kinds (s : List UInt8) (fs : List Fd) (h : allF s = some fs) :
    decB s = if kindsB fs = true ∧ fs.all okF = true ∧ checkB (readB fs) = true then some (readB fs) else none := by
  have hj := (allF_back s fs h).1
  unfold decB
  rw [h]
  dsimp only
  by_cases h1 : kindsB fs = true ∧ fs.all okF = true ∧ checkB (readB fs) = true
  · rw [if_pos h1, if_pos ⟨h1.2.1, h1.2.2, by unfold bytesB; rw [bunF_read h1.1 h1.2.1]; exact hj⟩]
  · rw [if_neg h1, if_neg]
    rintro ⟨h2, h3, h4⟩
    refine h1 ⟨?_, h2, h3⟩
    have h5 := allF_bytesB (readB_ok fs) h3
    rw [h4, h] at h5
    have h6 := Option.some.inj h5
    rw [h6]
    show (decide ((16 : UInt8) = 16) && ((readB fs).dis.map disF).all (fun g => decide (g.1 = 17))) = true
    rw [decide_eq_true rfl, Bool.true_and, List.all_map]
    exact List.all_eq_true.2 (fun d _ => by show decide ((17 : UInt8) = 17) = true; exact decide_eq_true rfl)
/-! How many bytes -/
theorem joinL_kinds : ∀ (fs gs : List Fd), fs.map (·.2) = gs.map (·.2) → (joinL fs).length = (joinL gs).length
  | [], [], _ => rfl
  | [], _ :: _, h => by simp at h
  | _ :: _, [], h => by simp at h
  | f :: fs, g :: gs, h => by
    rw [List.map_cons, List.map_cons, List.cons.injEq] at h
    have ih := joinL_kinds fs gs h.2
    have e1 : joinL (f :: fs) = fieldL f ++ joinL fs := by unfold joinL; rw [List.flatMap_cons]
    have e2 : joinL (g :: gs) = fieldL g ++ joinL gs := by unfold joinL; rw [List.flatMap_cons]
    rw [e1, e2, List.length_append, List.length_append, length_fieldL, length_fieldL, h.1, ih]
theorem read_values : ∀ fs : List Fd, fs.all okF = true → ((fs.map tkF).map disF).map (·.2) = fs.map (·.2)
  | [], _ => rfl
  | f :: fs, h => by
    rw [List.all_cons, Bool.and_eq_true] at h
    rw [List.map_cons, List.map_cons, List.map_cons, List.map_cons, read_values fs h.2]
    show bytesT (tkF f) :: _ = _
    rw [okF_bytes h.1]
theorem bytesB_read {s : List UInt8} {fs : List Fd} (h : allF s = some fs) (ho : fs.all okF = true) (h0 : fs ≠ []) : (bytesB (readB fs)).length = s.length := by
  have hj := (allF_back s fs h).1
  cases fs with
  | nil => exact absurd rfl h0
  | cons f fs =>
    rw [← hj]
    rw [List.all_cons, Bool.and_eq_true] at ho
    refine joinL_kinds _ _ ?_
    show bytesT (tkF f) :: ((fs.map tkF).map disF).map (·.2) = f.2 :: fs.map (·.2)
    rw [okF_bytes ho.1, read_values fs ho.2]
theorem cavF_sum (c : Cav) : (joinL (cavF c)).length ≤ 50 + capC c := by
  have hv := length_varL c.party
  have h1 := length_fieldL (4, varL c.party)
  have h2 := length_fieldL (5, c.id)
  have h3 := length_fieldL (6, c.vault)
  have h4 := length_fieldL (3, c.text)
  have l1 := length_varL (varL c.party).length
  have l2 := length_varL c.id.length
  have l3 := length_varL c.vault.length
  have l4 := length_varL c.text.length
  dsimp only at h1 h2 h3 h4
  unfold cavF capC
  split
  · show (fieldL (4, varL c.party) ++ (fieldL (5, c.id) ++ (fieldL (6, c.vault) ++ []))).length ≤ _
    rw [List.length_append, List.length_append, List.length_append, List.length_nil]; omega
  · show (fieldL (3, c.text) ++ []).length ≤ _
    rw [List.length_append, List.length_nil]; omega
theorem cavsF_sum : ∀ cs : List Cav, (joinL (cs.flatMap cavF)).length ≤ 50 * cs.length + (cs.map capC).sum
  | [] => by simp [joinL]
  | c :: cs => by
    have h1 := cavF_sum c
    have h2 := cavsF_sum cs
    rw [List.flatMap_cons, joinL_append, List.length_append, List.map_cons, List.sum_cons, List.length_cons]; omega
theorem bytesT_sum (t : Tok) (h : t.Ok) : (bytesT t).length ≤ 200 + 50 * t.cavs.length + capT t := by
  have hv := length_varL t.key
  have h1 := length_fieldL (1, varL t.key)
  have h2 := length_fieldL (2, t.id)
  have h3 := length_fieldL (7, [if t.bound then 1 else 0])
  have h4 := length_fieldL (8, t.tag)
  have l1 := length_varL (varL t.key).length
  have l2 := length_varL t.id.length
  have l3 := length_varL [if t.bound then (1 : UInt8) else 0].length
  have l4 := length_varL t.tag.length
  have h5 := cavsF_sum t.cavs
  have h6 := h.tag
  have h7 : [if t.bound then (1 : UInt8) else 0].length = 1 := rfl
  dsimp only at h1 h2 h3 h4
  unfold bytesT tokF
  rw [joinL_append, joinL_append, List.length_append, List.length_append]
  have e1 : (joinL [(1, varL t.key), (2, t.id)]).length = (fieldL (1, varL t.key)).length + (fieldL (2, t.id)).length := by
    show (fieldL (1, varL t.key) ++ (fieldL (2, t.id) ++ [])).length = _
    rw [List.append_nil, List.length_append]
  have e2 : (joinL [(7, [if t.bound then 1 else 0]), (8, t.tag)]).length = (fieldL (7, [if t.bound then 1 else 0])).length + (fieldL (8, t.tag)).length := by
    show (fieldL (7, _) ++ (fieldL (8, t.tag) ++ [])).length = _
    rw [List.append_nil, List.length_append]
  unfold capT
  rw [e1, e2]
  omega
/-- How much there is of a bundle that can be, its tokens not great. -/
theorem bytesB_small {b : Bun} (hb : b.Ok) (h : checkB b = true) (hr : capT b.root ≤ 10000) (hd : ∀ d ∈ b.dis, capT d ≤ 10000) : (bytesB b).length ≤ 1000000 := by
  obtain ⟨h1, _, h3, h4⟩ := checkB_parts h
  have hf : ∀ f ∈ bunF b, f.2.length ≤ 14000 := by
    intro f hf
    have key : ∀ t : Tok, t.Ok → checkT t = true → capT t ≤ 10000 → (bytesT t).length ≤ 14000 := by
      intro t ht hc hk
      have := bytesT_sum t ht
      have h5 : t.cavs.length ≤ 64 := by
        unfold checkT at hc
        simp only [Bool.and_eq_true, decide_eq_true_eq] at hc
        exact hc.1.2
      omega
    rcases List.mem_cons.1 hf with rfl | hf
    · exact key _ hb.root h1 hr
    · obtain ⟨d, hdm, rfl⟩ := List.mem_map.1 hf
      exact key _ (hb.dis d hdm) (h4 d hdm).1 (hd d hdm)
  have h6 := fieldsL_len 14000 (bunF b) hf
  have h7 : (bunF b).length ≤ 17 := by show (b.dis.map disF).length + 1 ≤ 17; rw [List.length_map]; omega
  have h8 : (bunF b).length * (14000 + 11) ≤ 17 * (14000 + 11) := Nat.mul_le_mul_right _ h7
  show (joinL (bunF b)).length ≤ 1000000
  omega
/-! Tokens in memory: each with the place of its caveats. -/
abbrev Dis := Tok × Option Addr × Nat
def disV (d : Dis) : List Value := tokV d.1 d.2.1 d.2.2
def toks (ds : List Dis) : List Tok := ds.map (·.1)
theorem toks_len (ds : List Dis) : (toks ds).length = ds.length := by unfold toks; rw [List.length_map]
theorem toks_get {ds : List Dis} {k : Nat} {d : Dis} (h : ds[k]? = some d) : (toks ds)[k]? = some d.1 := by unfold toks; rw [List.getElem?_map, h]; rfl
theorem toks_append (ds es : List Dis) : toks (ds ++ es) = toks ds ++ toks es := List.map_append ..
theorem toks_take (ds : List Dis) (k : Nat) : toks (ds.take k) = (toks ds).take k := List.map_take ..
structure Bs (w : World) (A : Option Addr) (c : Nat) (ds : List Dis) : Prop where
  sl : Sl w A (c * 36) (ds.flatMap disV)
  each : ∀ d ∈ ds, Sl w d.2.1 (d.2.2 * 5) (d.1.cavs.flatMap cavV)
theorem Bs.later {w w' : World} {A : Option Addr} {c : Nat} {ds : List Dis} {B : Nat} (h : Bs w A c ds) (hB : w.heap.size ≤ B) (hb : Below B w w') : Bs w' A c ds :=
  ⟨h.sl.later hB hb, fun d hd => (h.each d hd).later hB hb⟩
theorem Bs.nil (w : World) : Bs w none 0 [] := ⟨⟨.inl rfl, Nat.le_refl _, fun _ => rfl⟩, fun _ h => by cases h⟩
theorem disV_one (ds : List Dis) : ∀ v ∈ ds.flatMap disV, v.oneCell' = true := by
  intro v hv
  obtain ⟨d, _, hd⟩ := List.mem_flatMap.1 hv
  exact tokV_one d.1 d.2.1 d.2.2 v hd
theorem length_disV {d : Dis} (h : d.1.Ok) : (disV d).length = 36 := length_tokV h _ _
theorem dis_ok {ds : List Dis} (h : ∀ d ∈ toks ds, d.Ok) : ∀ d ∈ ds, (disV d).length = 36 := fun d hd => length_disV (h d.1 (List.mem_map_of_mem hd))
theorem length_dissV {ds : List Dis} (h : ∀ d ∈ toks ds, d.Ok) : (ds.flatMap disV).length = ds.length * 36 := flat_length disV 36 ds (dis_ok h)
theorem Bs.nonil {w : World} {A : Option Addr} {c k : Nat} {ds : List Dis} (h : Bs w A c ds) (hok : ∀ d ∈ toks ds, d.Ok) (hlt : k < ds.length) : ∃ b o, A = some ⟨b, o, none⟩ := by
  obtain ⟨b, o, h1, _⟩ := h.sl.rd.get (i := 0) (by rw [length_dissV hok]; omega)
  exact ⟨b, o, h1⟩
theorem Bs.none_nil {w : World} {c : Nat} {ds : List Dis} (h : Bs w none c ds) (hok : ∀ d ∈ toks ds, d.Ok) : ds = [] := by
  cases ds with
  | nil => rfl
  | cons d ds =>
    obtain ⟨b, o, h1⟩ := h.nonil (k := 0) hok (by rw [List.length_cons]; omega)
    cases h1
def bunV (t : Tok) (A : Option Addr) (c : Nat) (B : Option Addr) (n d : Nat) : List Value := tokV t A c ++ [.slice B n d]
theorem bunV_one (t : Tok) (A : Option Addr) (c : Nat) (B : Option Addr) (n d : Nat) : ∀ v ∈ bunV t A c B n d, v.oneCell' = true := by
  intro v hv
  rcases List.mem_append.1 hv with h | h
  · exact tokV_one t A c v h
  · rw [List.mem_singleton.1 h]; rfl
theorem length_bunV {t : Tok} (h : t.Ok) (A : Option Addr) (c : Nat) (B : Option Addr) (n d : Nat) : (bunV t A c B n d).length = 37 := by
  unfold bunV; rw [List.length_append, length_tokV h]; rfl
theorem bunV_dis {t : Tok} (h : t.Ok) (A : Option Addr) (c : Nat) (B : Option Addr) (n d : Nat) : (bunV t A c B n d)[36]? = some (.slice B n d) := by
  have := length_tokV h A c
  unfold bunV
  rw [List.getElem?_append_right (by omega), this]; rfl
end Go.Proofs.Ythiebbhooigogaa

/- LAYER 11: a bundle's row in memory; the law's Large. -/
namespace Go.Proofs.Ythiebbhooigogaa
open Go Go.RowKit

theorem size_bun : (Try.prog.info? 30).map (·.size) = some 37 := by kernel_rfl
theorem index_tok (A : Option Addr) (b o n c k : Nat) (hA : A = some ⟨b, o, none⟩) (hk : k < n) (w : World) :
    (Instr.indexAt 28 (.slice A n c) (.int .i64 k)).run Try.prog w = .ok (.pointer (some ⟨b, o + k * 36, none⟩)) w := by
  subst hA
  have h : (k : Int) < (n : Int) := by omega
  go_simp
theorem row_bun_tok {w : World} {g : Nat} {t : Tok} {A : Option Addr} {c : Nat} {B : Option Addr} {n d : Nat} (h : Row w g 30 (bunV t A c B n d)) : w.rangeAt g 0 (tokV t A c) := by
  intro j v hj
  rw [Nat.zero_add, h.cell]
  have := (List.getElem?_eq_some_iff.1 hj).1
  unfold bunV
  rw [List.getElem?_append_left this, hj]
theorem row_bun_dis {w : World} {g : Nat} {t : Tok} {A : Option Addr} {c : Nat} {B : Option Addr} {n d : Nat} (ht : t.Ok) (h : Row w g 30 (bunV t A c B n d)) : w.cell? ⟨g, 36, none⟩ = some (.slice B n d) := by
  rw [h.cell]; exact bunV_dis ht A c B n d
theorem row_bun_bound {w : World} {g : Nat} {t : Tok} {A : Option Addr} {c : Nat} {B : Option Addr} {n d : Nat} (h : Row w g 30 (bunV t A c B n d)) : w.cell? ⟨g, 3, none⟩ = some (.bool t.bound) := by
  rw [h.cell]; rfl
abbrev bunOf (t : Tok) (ds : List Dis) : Bun := ⟨t, toks ds⟩
def largeB (b : Bun) : Bool := decide (10000 < capT b.root) || decide (40 < b.dis.length) || b.dis.any (fun d => decide (10000 < capT d))
theorem any_take {α : Type} {f : α → Bool} {cs : List α} {k : Nat} {c : α} (h : (cs.take k).any f = false) (hc : cs[k]? = some c) (hf : f c = false) : (cs.take (k + 1)).any f = false := by
  rw [List.take_add_one, List.any_append, h, hc]; simp [hf]
theorem any_bad {α : Type} {f : α → Bool} {cs : List α} {k : Nat} {c : α} (hc : cs[k]? = some c) (hf : f c = true) : cs.any f = true :=
  List.any_eq_true.2 ⟨c, List.mem_of_getElem? hc, hf⟩
theorem all_take_of {α : Type} {f : α → Bool} {cs : List α} {k : Nat} {c : α} (h : (cs.take k).all f = true) (hc : cs[k]? = some c) (hf : f c = true) : (cs.take (k + 1)).all f = true := by
  rw [List.take_add_one, List.all_append, h, hc]; simp [hf]
theorem all_bad_of {α : Type} {f : α → Bool} {cs : List α} {k : Nat} {c : α} (hc : cs[k]? = some c) (hf : f c = false) : cs.all f = false := by
  cases h : cs.all f with
  | false => rfl
  | true => have := List.all_eq_true.1 h c (List.mem_of_getElem? hc); rw [hf] at this; cases this
set_option maxRecDepth 20000 in
set_option maxHeartbeats 2000000 in
theorem rlarge_any (t : Tok) (ds : List Dis) (ht : t.Ok) (hf : t.Fit) (hok : ∀ d ∈ toks ds, d.Ok) (hfit : ∀ d ∈ toks ds, d.Fit) (A : Option Addr) (c : Nat) (B : Option Addr) (d : Nat) (w : World) (hs : Sl w A (c * 5) (t.cavs.flatMap cavV)) (hp : Bs w B d ds) (hcl : ds.length ≤ 9223372036854775807) :
    Calls Try.prog 7 #[.agg (bunV t A c B ds.length d).toArray] w fun e w' => e = .returned (.int .i64 (if largeB (bunOf t ds) then 1 else 0)) ∧ Below w.heap.size w w' := by
  have hb1 : Below w.heap.size w (w.alloc (.cells (bunV t A c B ds.length d).toArray 30)) := (Below.refl _ _).alloc (Nat.le_refl _) _
  have hr : Row (w.alloc (.cells (bunV t A c B ds.length d).toArray 30)) w.heap.size 30 (bunV t A c B ds.length d) := Row.new w 30 _
  have hlt := hr.lt
  have hT := fun w' (h : Below _ _ w') => row_bun_tok (hr.later h hlt)
  have hD := fun w' (h : Below _ _ w') => row_bun_dis ht (hr.later h hlt)
  have hlen : (toks ds).length = ds.length := toks_len ds
  obtain ⟨R, hR⟩ : ∃ R : Int, R = if largeB (bunOf t ds) then 1 else 0 := ⟨_, rfl⟩
  rw [← hR]
  have HR := Lib.hid hR
  clear hR
  obtain ⟨V, hV⟩ : ∃ V, V = bunV t A c B ds.length d := ⟨_, rfl⟩
  obtain ⟨VT, hVT⟩ : ∃ V, V = tokV t A c := ⟨_, rfl⟩
  have hlT : VT.length = 36 := by rw [hVT]; exact length_tokV ht A c
  have hzT := Lib.hid (show (Try.prog.info? 27).map (·.size) = some VT.length by rw [size_tok, hlT])
  have hgr := Lib.hid (show ∀ w', Sl w' A (c * 5) (t.cavs.flatMap cavV) → Calls Try.prog 18 #[.agg VT.toArray] w' fun e w'' => e = .returned (.int .i64 (if 10000 < capT t then 1 else 0)) ∧ Below w'.heap.size w' w'' by rw [hVT]; exact fun w' h => rgreatT_any t hf A c w' h)
  rw [← hVT] at hT
  rw [← hV] at hb1 hr hlt hT hD ⊢
  clear hV hVT hlT hr hlt
  have hs1 := hs.later (Nat.le_refl _) hb1
  have hT1 := hT _ (Below.refl _ _)
  have hd1 := hD _ (Below.refl _ _)
  by_cases h1 : 10000 < capT t
  · have HE := Lib.hid (HR.out.trans (if_pos (by unfold largeB; rw [decide_eq_true h1]; rfl)))
    rw [if_pos h1] at hgr
    clear h1 HR hD hT hs hp hlen hd1
    go_enter Try.func7, Try.ntmps7
    go_wp2_with (first
      | (with_reducible refine wpList_load_mid rfl 27 (.tmp 5) rfl w.heap.size 0 rfl VT _ hT1 Try.underlying27 rfl hzT.out ?_)
      | (go_at_call 18; refine (hgr.out _ hs1).mono ?_; rintro e w6 ⟨rfl, hb6⟩; have hbw6 := hb1.trans (hb6.mono hb1.size)))
    go_ret
    exact ⟨by rw [HE.out]; rfl, hbw6⟩
  · rw [if_neg h1] at hgr
    by_cases h2 : 40 < ds.length
    · have HE := Lib.hid (HR.out.trans (if_pos (by unfold largeB; rw [decide_eq_false h1, show decide (40 < (toks ds).length) = true from decide_eq_true (by omega)]; rfl)))
      have h2' : (40 : Int) < (ds.length : Int) := by omega
      clear h1 HR hT hs hp hlen h2
      go_enter Try.func7, Try.ntmps7
      go_wp2_with (first
        | (with_reducible refine wpList_load_mid rfl 27 (.tmp 5) rfl w.heap.size 0 rfl VT _ hT1 Try.underlying27 rfl hzT.out ?_)
        | (go_at_call 18; refine (hgr.out _ hs1).mono ?_; rintro e w6 ⟨rfl, hb6⟩; have hbw6 := hb1.trans (hb6.mono hb1.size); have hd6 := hD _ hb6))
      go_ret
      exact ⟨by rw [HE.out]; rfl, hbw6⟩
    · have HE := Lib.hid (show R = if (toks ds).any (fun d => decide (10000 < capT d)) then 1 else 0 by rw [HR.out]; unfold largeB; rw [decide_eq_false h1, show decide (40 < (toks ds).length) = false from decide_eq_false (by omega)]; rfl)
      have h2' : (ds.length : Int) ≤ 40 := by omega
      clear h1 HR hT hs h2
      go_enter Try.func7, Try.ntmps7
      go_wp2_with (first
        | (with_reducible refine wpList_load_mid rfl 27 (.tmp 5) rfl w.heap.size 0 rfl VT _ hT1 Try.underlying27 rfl hzT.out ?_)
        | (go_at_call 18; refine (hgr.out _ hs1).mono ?_; rintro e w6 ⟨rfl, hb6⟩; have hbw6 := hb1.trans (hb6.mono hb1.size); have hd6 := hD _ hb6))
      clear hT1 hd1 hs1 hD hb6 hgr
      go_loopw [18] (fun i wr => ∃ k : Nat, k ≤ ds.length ∧ i = .int .i64 k ∧ ((toks ds).take k).any (fun d => decide (10000 < capT d)) = false ∧ Below w.heap.size w wr) (fun i _ => ds.length - (intOf i).toNat)
      case atStart => exact ⟨0, by omega, rfl, rfl, hbw6⟩
      case round =>
        clear hbw6 hd6 hb1
        obtain ⟨k, hk, rfl, hall, hb⟩ := hrel
        by_cases hlt : k < ds.length
        · obtain ⟨dd, hdd⟩ : ∃ dd, ds[k]? = some dd := ⟨_, List.getElem?_eq_getElem hlt⟩
          obtain ⟨b, o, rfl⟩ := hp.nonil hok hlt
          have hix := index_tok (some ⟨b, o, none⟩) b o ds.length d k rfl hlt
          have hgt := Lib.hid (rgreatT_any dd.1 (hfit dd.1 (List.mem_of_getElem? (toks_get hdd))) dd.2.1 dd.2.2)
          have HA := Lib.hid (any_take (f := fun d => decide (10000 < capT d)) hall (toks_get hdd))
          have HB := Lib.hid (any_bad (f := fun d => decide (10000 < capT d)) (toks_get hdd))
          have hlV := length_disV (hok dd.1 (List.mem_of_getElem? (toks_get hdd)))
          have hrg := (hp.sl.later (Nat.le_refl _) hb).thing (k := 36) (dis_ok hok) k dd hdd
          have hsd := (hp.each dd (List.mem_of_getElem? hdd)).later (Nat.le_refl _) hb
          have hofn : ∀ v ∈ disV dd, v.oneCell' = true := fun v hv => disV_one [dd] v (by simpa using hv)
          obtain ⟨V2, hV2q⟩ : ∃ V, V = disV dd := ⟨_, rfl⟩
          rw [← hV2q] at hlV hrg hofn
          have hzf := Lib.hid (show (Try.prog.info? 27).map (·.size) = some V2.length by rw [size_tok, hlV])
          have hzf2 := Lib.hid (show (Try.prog.info? 27).map (·.size) = some V2.toArray.size by rw [size_tok, List.size_toArray, hlV])
          have hof := Lib.hid (all_one hofn)
          have hV2 := Lib.hid (show (36 : Nat) = V2.toArray.size by rw [List.size_toArray, hlV])
          rw [show tokV dd.1 dd.2.1 dd.2.2 = V2 from hV2q.symm] at hgt
          clear hV2q hdd hall hlen hp hok hfit hlV hofn
          go_wp2_with (first
            | (with_reducible refine wpList_load_mid rfl 27 (.tmp 20) rfl b (o + k * 36) rfl V2 _ hrg Try.underlying27 rfl hzf.out ?_)
            | (with_reducible refine wpList_store_row rfl 27 (.tmp 4) (.tmp 21) rfl wr.heap.size V2.toArray rfl rfl 27 _ (heap_alloc_new wr _) hzf2.out (Eq.trans (by kernel_rfl) hV2.out) hof.out ?_; refine Hid.out ?_))
          refine Lib.hid ?_
          generalize hw5 : World.setRow _ _ _ = w5
          obtain ⟨r5, hb5⟩ := row_new_set (xs := V2) hw5
          have R5 := Lib.hid (show w5.heap[wr.heap.size]? = some (.cells V2.toArray 27 (0, 0)) from r5)
          have hbw5 := hb.trans (hb5.mono hb.size)
          have hsd5 := hsd.later (Nat.le_refl _) hb5
          clear hw5 r5 hb5 hrg hsd
          by_cases hg : 10000 < capT dd.1
          · rw [if_pos hg] at hgt
            have HF := Lib.hid (HB.out (decide_eq_true hg))
            clear hg HA HB
            go_wp2_with (first
              | (with_reducible refine wpList_load_row rfl 27 (.tmp 4) rfl wr.heap.size rfl 27 V2.toArray (0, 0) _ R5.out Try.underlying27 rfl hzf2.out ?_)
              | (go_at_call 18; refine (hgt.out _ hsd5).mono ?_; rintro e w6 ⟨rfl, hb6⟩; have hbw6 := hbw5.trans (hb6.mono hbw5.size)))
            go_ret
            exact ⟨by rw [HE.out, HF.out]; rfl, hbw6⟩
          · rw [if_neg hg] at hgt
            have HF := Lib.hid (HA.out (decide_eq_false hg))
            clear hg HA HB
            go_wp2_with (first
              | (with_reducible refine wpList_load_row rfl 27 (.tmp 4) rfl wr.heap.size rfl 27 V2.toArray (0, 0) _ R5.out Try.underlying27 rfl hzf2.out ?_)
              | (go_at_call 18; refine (hgt.out _ hsd5).mono ?_; rintro e w6 ⟨rfl, hb6⟩; have hbw6 := hbw5.trans (hb6.mono hbw5.size)))
            go_roundw
            case rel => exact ⟨k + 1, by omega, by go_num, HF.out, hbw6⟩
            case measure => simp [intOf]; omega
        · obtain rfl : k = ds.length := by omega
          rw [← hlen, List.take_length] at hall
          have HF := Lib.hid (HE.out.trans (if_neg (by rw [hall]; exact Bool.false_ne_true)))
          clear hlt hk hp hall h2' hok hfit hlen HE
          generalize ds.length = n at *
          go_wp2
          go_ret
          exact ⟨by rw [HF.out]; rfl, hb⟩
end Go.Proofs.Ythiebbhooigogaa

/- LAYER 11: the document's Check, Bytes, Encode. -/
namespace Go.Proofs.Ythiebbhooigogaa
open Go Go.RowKit

set_option maxRecDepth 20000 in
set_option maxHeartbeats 2000000 in
theorem rbcheck_any (t : Tok) (ds : List Dis) (ht : t.Ok) (hok : ∀ d ∈ toks ds, d.Ok) (A : Option Addr) (c : Nat) (B : Option Addr) (d : Nat) (w : World) (hs : Sl w A (c * 5) (t.cavs.flatMap cavV)) (hp : Bs w B d ds) :
    Calls Try.prog 13 #[.agg (bunV t A c B ds.length d).toArray] w fun e w' => e = .returned (.bool (checkB (bunOf t ds))) ∧ Below w.heap.size w w' := by
  have hb1 : Below w.heap.size w (w.alloc (.cells (bunV t A c B ds.length d).toArray 30)) := (Below.refl _ _).alloc (Nat.le_refl _) _
  have hr : Row (w.alloc (.cells (bunV t A c B ds.length d).toArray 30)) w.heap.size 30 (bunV t A c B ds.length d) := Row.new w 30 _
  have hlt := hr.lt
  have hT := fun w' (h : Below _ _ w') => row_bun_tok (hr.later h hlt)
  have hD := fun w' (h : Below _ _ w') => row_bun_dis ht (hr.later h hlt)
  have hBd := fun w' (h : Below _ _ w') => row_bun_bound (hr.later h hlt)
  have hlB := length_bunV ht A c B ds.length d
  have hlen : (toks ds).length = ds.length := toks_len ds
  obtain ⟨V, hV⟩ : ∃ V, V = bunV t A c B ds.length d := ⟨_, rfl⟩
  obtain ⟨VT, hVT⟩ : ∃ V, V = tokV t A c := ⟨_, rfl⟩
  have hlT : VT.length = 36 := by rw [hVT]; exact length_tokV ht A c
  have hzT := Lib.hid (show (Try.prog.info? 27).map (·.size) = some VT.length by rw [size_tok, hlT])
  have hck := Lib.hid (show ∀ w', Sl w' A (c * 5) (t.cavs.flatMap cavV) → Calls Try.prog 28 #[.agg VT.toArray] w' fun e w'' => e = .returned (.bool (checkT t)) ∧ Below w'.heap.size w' w'' by rw [hVT]; exact fun w' h => rcheck_any t A c w' h)
  obtain ⟨R, hR0⟩ : ∃ R, R = checkB (bunOf t ds) := ⟨_, rfl⟩
  rw [← hR0]
  have HR := Lib.hid (show R = (checkT t && !t.bound && decide (ds.length ≤ 16) && (toks ds).all fitD) by rw [hR0]; unfold checkB; dsimp only; rw [hlen])
  clear hR0
  rw [← hVT] at hT
  rw [← hV] at hb1 hr hlt hT hD hBd hlB ⊢
  clear hV hVT hlT
  have hzB := Lib.hid (show (Try.prog.info? 30).map (·.size) = some V.toArray.size by rw [size_bun, List.size_toArray, hlB])
  have hR := Lib.hid (show (w.alloc (.cells V.toArray 30)).heap[w.heap.size]? = some (.cells V.toArray 30 (0, 0)) from hr)
  have hs1 := hs.later (Nat.le_refl _) hb1
  have hT1 := hT _ (Below.refl _ _)
  have hd1 := hD _ (Below.refl _ _)
  have hbd1 := hBd _ (Below.refl _ _)
  clear hs hr hlt hT hlB hzB hR
  cases h1 : checkT t with
  | false =>
    have HE := Lib.hid (show R = false by rw [HR.out, h1]; rfl)
    rw [h1] at hck
    clear h1 HR hp hlen
    go_enter Try.func13, Try.ntmps13
    go_wp2_with (first
      | (with_reducible refine wpList_load_mid rfl 27 (.tmp 5) rfl w.heap.size 0 rfl VT _ hT1 Try.underlying27 rfl hzT.out ?_)
      | (go_at_call 28; refine (hck.out _ hs1).mono ?_; rintro e w6 ⟨rfl, hb6⟩; have hbw6 := hb1.trans (hb6.mono hb1.size); have hd6 := hD _ hb6; have hbd6 := hBd _ hb6))
    go_ret
    exact ⟨by rw [HE.out]; rfl, hbw6⟩
  | true =>
    rw [h1] at hck
    cases h2 : t.bound with
    | true =>
      have HE := Lib.hid (show R = false by rw [HR.out, h1, h2]; rfl)
      rw [h2] at hBd hbd1
      clear h1 h2 HR hp hlen
      go_enter Try.func13, Try.ntmps13
      go_wp2_with (first
        | (with_reducible refine wpList_load_mid rfl 27 (.tmp 5) rfl w.heap.size 0 rfl VT _ hT1 Try.underlying27 rfl hzT.out ?_)
        | (go_at_call 28; refine (hck.out _ hs1).mono ?_; rintro e w6 ⟨rfl, hb6⟩; have hbw6 := hb1.trans (hb6.mono hb1.size); have hd6 := hD _ hb6; have hbd6 := hBd _ hb6))
      go_ret
      exact ⟨by rw [HE.out]; rfl, hbw6⟩
    | false =>
      rw [h2] at hBd hbd1
      by_cases h3 : 16 < ds.length
      · have HE := Lib.hid (show R = false by rw [HR.out, h1, h2, show decide (ds.length ≤ 16) = false from decide_eq_false (by omega)]; rfl)
        have h3' : (16 : Int) < (ds.length : Int) := by omega
        clear h1 h2 h3 HR hp hlen
        go_enter Try.func13, Try.ntmps13
        go_wp2_with (first
          | (with_reducible refine wpList_load_mid rfl 27 (.tmp 5) rfl w.heap.size 0 rfl VT _ hT1 Try.underlying27 rfl hzT.out ?_)
          | (go_at_call 28; refine (hck.out _ hs1).mono ?_; rintro e w6 ⟨rfl, hb6⟩; have hbw6 := hb1.trans (hb6.mono hb1.size); have hd6 := hD _ hb6; have hbd6 := hBd _ hb6))
        go_ret
        exact ⟨by rw [HE.out]; rfl, hbw6⟩
      · have HE := Lib.hid (show R = (toks ds).all fitD by rw [HR.out, h1, h2, show decide (ds.length ≤ 16) = true from decide_eq_true (by omega)]; rfl)
        have h3' : (ds.length : Int) ≤ 16 := by omega
        clear h1 h2 h3 HR
        go_enter Try.func13, Try.ntmps13
        go_wp2_with (first
          | (with_reducible refine wpList_load_mid rfl 27 (.tmp 5) rfl w.heap.size 0 rfl VT _ hT1 Try.underlying27 rfl hzT.out ?_)
          | (go_at_call 28; refine (hck.out _ hs1).mono ?_; rintro e w6 ⟨rfl, hb6⟩; have hbw6 := hb1.trans (hb6.mono hb1.size); have hd6 := hD _ hb6; have hbd6 := hBd _ hb6))
        clear hT1 hd1 hs1 hD hb6 hck hbd1 hBd hbd6
        go_loopw [23] (fun i wr => ∃ k : Nat, k ≤ ds.length ∧ i = .int .i64 k ∧ ((toks ds).take k).all fitD = true ∧ Below w.heap.size w wr) (fun i _ => ds.length - (intOf i).toNat)
        case atStart => exact ⟨0, by omega, rfl, rfl, hbw6⟩
        case round =>
          clear hbw6 hd6 hb1
          obtain ⟨k, hk, rfl, hall, hb⟩ := hrel
          by_cases hlt : k < ds.length
          · obtain ⟨dd, hdd⟩ : ∃ dd, ds[k]? = some dd := ⟨_, List.getElem?_eq_getElem hlt⟩
            obtain ⟨b, o, rfl⟩ := hp.nonil hok hlt
            have hix := index_tok (some ⟨b, o, none⟩) b o ds.length d k rfl hlt
            have hcd := Lib.hid (rcheck_any dd.1 dd.2.1 dd.2.2)
            have HA := Lib.hid (all_take_of (f := fitD) hall (toks_get hdd))
            have HB := Lib.hid (all_bad_of (f := fitD) (toks_get hdd))
            have hkey := (tokV_get dd.1 dd.2.1 dd.2.2).1
            have hlV := length_disV (hok dd.1 (List.mem_of_getElem? (toks_get hdd)))
            have hrg := (hp.sl.later (Nat.le_refl _) hb).thing (k := 36) (dis_ok hok) k dd hdd
            have hsd := (hp.each dd (List.mem_of_getElem? hdd)).later (Nat.le_refl _) hb
            have hofn : ∀ v ∈ disV dd, v.oneCell' = true := fun v hv => disV_one [dd] v (by simpa using hv)
            obtain ⟨V2, hV2q⟩ : ∃ V, V = disV dd := ⟨_, rfl⟩
            rw [← hV2q] at hlV hrg hofn
            have hzf := Lib.hid (show (Try.prog.info? 27).map (·.size) = some V2.length by rw [size_tok, hlV])
            have hzf2 := Lib.hid (show (Try.prog.info? 27).map (·.size) = some V2.toArray.size by rw [size_tok, List.size_toArray, hlV])
            have hof := Lib.hid (all_one hofn)
            have hV2 := Lib.hid (show (36 : Nat) = V2.toArray.size by rw [List.size_toArray, hlV])
            rw [show tokV dd.1 dd.2.1 dd.2.2 = V2 from hV2q.symm] at hcd hkey
            clear hV2q hdd hall hlen hp hok hlV hofn
            go_wp2_with (first
              | (with_reducible refine wpList_load_mid rfl 27 (.tmp 25) rfl b (o + k * 36) rfl V2 _ hrg Try.underlying27 rfl hzf.out ?_)
              | (with_reducible refine wpList_store_row rfl 27 (.tmp 4) (.tmp 26) rfl wr.heap.size V2.toArray rfl rfl 27 _ (heap_alloc_new wr _) hzf2.out (Eq.trans (by kernel_rfl) hV2.out) hof.out ?_; refine Hid.out ?_))
            refine Lib.hid ?_
            generalize hw5 : World.setRow _ _ _ = w5
            obtain ⟨r5, hb5⟩ := row_new_set (xs := V2) hw5
            have R5 := Lib.hid (show w5.heap[wr.heap.size]? = some (.cells V2.toArray 27 (0, 0)) from r5)
            have hbw5 := hb.trans (hb5.mono hb.size)
            have hsd5 := hsd.later (Nat.le_refl _) hb5
            have hk0 := hkey
            clear hw5 hb5 hrg hsd
            cases hg : checkT dd.1 with
            | false =>
              rw [hg] at hcd
              have HF := Lib.hid (HB.out (by unfold fitD; rw [hg]; rfl))
              clear hg HA HB
              go_wp2_with (first
                | (with_reducible refine wpList_load_row rfl 27 (.tmp 4) rfl wr.heap.size rfl 27 V2.toArray (0, 0) _ R5.out Try.underlying27 rfl hzf2.out ?_)
                | (go_at_call 28; refine (hcd.out _ hsd5).mono ?_; rintro e w6 ⟨rfl, hb6⟩; have hbw6 := hbw5.trans (hb6.mono hbw5.size); have c6 : w6.cell? ⟨wr.heap.size, 0, none⟩ = some (.int .u64 dd.1.key) := (by rw [(r5.later hb6 r5.lt).cell]; exact hk0)))
              go_ret
              exact ⟨by rw [HE.out, HF.out]; rfl, hbw6⟩
            | true =>
              rw [hg] at hcd
              by_cases hz : dd.1.key = 0
              · have HF := Lib.hid (HA.out (by unfold fitD; rw [hg, decide_eq_true hz]; rfl))
                have hz' : (dd.1.key : Int) = 0 := by omega
                clear hg HA HB hz
                go_wp2_with (first
                  | (with_reducible refine wpList_load_row rfl 27 (.tmp 4) rfl wr.heap.size rfl 27 V2.toArray (0, 0) _ R5.out Try.underlying27 rfl hzf2.out ?_)
                  | (go_at_call 28; refine (hcd.out _ hsd5).mono ?_; rintro e w6 ⟨rfl, hb6⟩; have hbw6 := hbw5.trans (hb6.mono hbw5.size); have c6 : w6.cell? ⟨wr.heap.size, 0, none⟩ = some (.int .u64 dd.1.key) := (by rw [(r5.later hb6 r5.lt).cell]; exact hk0)))
                go_roundw
                case rel => exact ⟨k + 1, by omega, by go_num, HF.out, hbw6⟩
                case measure => simp [intOf]; omega
              · have HF := Lib.hid (HB.out (by unfold fitD; rw [hg, decide_eq_false hz]; rfl))
                have hz' : ¬ (dd.1.key : Int) = 0 := by omega
                clear hg HA HB hz
                go_wp2_with (first
                  | (with_reducible refine wpList_load_row rfl 27 (.tmp 4) rfl wr.heap.size rfl 27 V2.toArray (0, 0) _ R5.out Try.underlying27 rfl hzf2.out ?_)
                  | (go_at_call 28; refine (hcd.out _ hsd5).mono ?_; rintro e w6 ⟨rfl, hb6⟩; have hbw6 := hbw5.trans (hb6.mono hbw5.size); have c6 : w6.cell? ⟨wr.heap.size, 0, none⟩ = some (.int .u64 dd.1.key) := (by rw [(r5.later hb6 r5.lt).cell]; exact hk0)))
                go_ret
                exact ⟨by rw [HE.out, HF.out]; rfl, hbw6⟩
          · obtain rfl : k = ds.length := by omega
            rw [← hlen, List.take_length] at hall
            have HF := Lib.hid (HE.out.trans hall)
            clear hlt hk hp hall h3' hok hlen HE
            generalize ds.length = n at *
            go_wp2
            go_ret
            exact ⟨by rw [HF.out]; rfl, hb⟩
end Go.Proofs.Ythiebbhooigogaa

/- LAYER 11: the document's Bytes, Encode. -/
namespace Go.Proofs.Ythiebbhooigogaa
open Go Go.RowKit

theorem dis_take {ds : List Dis} {k : Nat} {dd : Dis} (h : ds[k]? = some dd) : ((toks ds).take (k + 1)).map disF = ((toks ds).take k).map disF ++ [disF dd.1] := by
  rw [List.take_add_one, List.map_append, toks_get h]; rfl
theorem fd_lit (w : World) (base : Nat) (k : Int) (n : Nat) (l : List UInt8) (h : base ≤ w.heap.size) :
    (w.alloc (.cells #[Value.int .u8 k, .string (bstr l)] n)).ownsRow base n 2 (.slice (some ⟨w.heap.size, 0, none⟩) 1 1) 1 [Value.int .u8 k, .string (bstr l)] :=
  World.ownsRow_lit w #[_, _] 1 h (by decide) rfl
theorem fd_sl (w : World) (k : Int) (n : Nat) (l : List UInt8) :
    Sl (w.alloc (.cells #[Value.int .u8 k, .string (bstr l)] n)) (some ⟨w.heap.size, 0, none⟩) (1 * 2) [Value.int .u8 k, .string (bstr l)] :=
  ⟨Rd.block (Go.heap_alloc_new w _), Nat.le_refl _, fun h => by cases h⟩
theorem check_tok_len {t : Tok} (ht : t.Ok) (h : checkT t = true) : (bytesT t).length ≤ 1000000 ∧ t.cavs.length ≤ 1000000 := by
  refine ⟨bytesT_len ht h, ?_⟩
  unfold checkT at h
  simp only [Bool.and_eq_true, decide_eq_true_eq] at h
  omega
theorem check_bun_len {t : Tok} {ds : List Dis} (ht : t.Ok) (hok : ∀ d ∈ toks ds, d.Ok) (h : checkB (bunOf t ds) = true) : ∀ e ∈ t :: toks ds, (bytesT e).length ≤ 1000000 ∧ e.cavs.length ≤ 1000000 := by
  obtain ⟨h1, _, _, h4⟩ := checkB_parts h
  intro e he
  rcases List.mem_cons.1 he with rfl | he
  · exact check_tok_len ht h1
  · exact check_tok_len (hok e he) (h4 e he).1
set_option maxRecDepth 20000 in
set_option maxHeartbeats 2000000 in
theorem rbbytes_any (t : Tok) (ds : List Dis) (ht : t.Ok) (hok : ∀ d ∈ toks ds, d.Ok) (A : Option Addr) (c : Nat) (B : Option Addr) (d : Nat) (w : World) (hs : Sl w A (c * 5) (t.cavs.flatMap cavV)) (hp : Bs w B d ds) (hfit : ∀ e ∈ t :: toks ds, (bytesT e).length ≤ 1000000 ∧ e.cavs.length ≤ 1000000) (hm : (bytesB (bunOf t ds)).length ≤ 1000000) :
    Calls Try.prog 21 #[.agg (bunV t A c B ds.length d).toArray] w (GaveBytes (bytesB (bunOf t ds)) w) := by
  obtain ⟨i0, hi, hz0, hz1, hz2⟩ := info_fd
  have hb1 : Below w.heap.size w (w.alloc (.cells (bunV t A c B ds.length d).toArray 30)) := (Below.refl _ _).alloc (Nat.le_refl _) _
  have hr : Row (w.alloc (.cells (bunV t A c B ds.length d).toArray 30)) w.heap.size 30 (bunV t A c B ds.length d) := Row.new w 30 _
  have hlt := hr.lt
  have hT := fun w' (h : Below _ _ w') => row_bun_tok (hr.later h hlt)
  have hD := fun w' (h : Below _ _ w') => row_bun_dis ht (hr.later h hlt)
  have hBd := fun w' (h : Below _ _ w') => row_bun_bound (hr.later h hlt)
  have hlB := length_bunV ht A c B ds.length d
  have hlen : (toks ds).length = ds.length := toks_len ds
  obtain ⟨V, hV⟩ : ∃ V, V = bunV t A c B ds.length d := ⟨_, rfl⟩
  obtain ⟨VT, hVT⟩ : ∃ V, V = tokV t A c := ⟨_, rfl⟩
  have hlT : VT.length = 36 := by rw [hVT]; exact length_tokV ht A c
  have hzT := Lib.hid (show (Try.prog.info? 27).map (·.size) = some VT.length by rw [size_tok, hlT])
  have hby := Lib.hid (show ∀ w', Sl w' A (c * 5) (t.cavs.flatMap cavV) → Calls Try.prog 35 #[.agg VT.toArray] w' (GaveBytes (bytesT t) w') by rw [hVT]; exact fun w' h => rbytesT_any t ht A c w' h (hfit t List.mem_cons_self).1 (hfit t List.mem_cons_self).2)
  have hjoin := Lib.hid (show ∀ A6 c6 n w1, Sl w1 A6 (c6 * 2) ((bunF (bunOf t ds)).flatMap fdV) → n = (bunF (bunOf t ds)).length → Calls Try.prog 36 #[.slice A6 n c6] w1 (GaveBytes (bytesB (bunOf t ds)) w1) from fun A6 c6 n w1 h hn => rjoin_any A6 n c6 (bunF (bunOf t ds)) w1 h hn hm)
  have hbl : ds.length ≤ 1000000 := by
    have h := joinL_len (bunF (bunOf t ds))
    have e : (bunF (bunOf t ds)).length = (toks ds).length + 1 := by show ((toks ds).map disF).length + 1 = _; rw [List.length_map]
    unfold bytesB at hm
    omega
  obtain ⟨J, hJ⟩ : ∃ J, J = bytesB (bunOf t ds) := ⟨_, rfl⟩
  rw [← hJ] at hjoin ⊢
  obtain ⟨F0, hF0⟩ : ∃ F0 : Fd, F0 = (16, bytesT t) := ⟨_, rfl⟩
  have HB := Lib.hid (show bunF (bunOf t ds) = F0 :: (toks ds).map disF by rw [hF0]; rfl)
  rw [HB.out] at hjoin
  obtain ⟨E, hE⟩ : ∃ E, E = bytesT t := ⟨_, rfl⟩
  rw [← hE] at hby hF0
  have hfl : ([F0] : List Fd).flatMap fdV = [Value.int .u8 16, .string (bstr E)] := by rw [hF0]; rfl
  rw [← hVT] at hT
  rw [← hV] at hb1 hr hlt hT hD hBd hlB ⊢
  clear hV hVT hlT
  have hzB := Lib.hid (show (Try.prog.info? 30).map (·.size) = some V.toArray.size by rw [size_bun, List.size_toArray, hlB])
  have hR := Lib.hid (show (w.alloc (.cells V.toArray 30)).heap[w.heap.size]? = some (.cells V.toArray 30 (0, 0)) from hr)
  have hs1 := hs.later (Nat.le_refl _) hb1
  have hT1 := hT _ (Below.refl _ _)
  have hd1 := hD _ (Below.refl _ _)
  have hbd1 := hBd _ (Below.refl _ _)
  clear hs hr hlt hT hBd hlB hzB hR hJ hE hF0 HB hbd1 hm
  go_enter Try.func21, Try.ntmps21
  go_wp2_with (first
    | (with_reducible refine wpList_load_mid rfl 27 (.tmp 6) rfl w.heap.size 0 rfl VT _ hT1 Try.underlying27 rfl hzT.out ?_)
    | (go_at_call 35; refine (hby.out _ hs1).mono ?_; rintro e w6 ⟨v6, rfl, hown6, hb6⟩; obtain ⟨A6, c6, rfl, _, hsl6⟩ := Sl.of_own hown6; have hcv := conv_bytes hsl6 E.length rfl; have hbw6 := hb1.trans (hb6.mono hb1.size); have hd6 : (w6.alloc (.cells #[Value.int .u8 16, .string (bstr E)] 65)).cell? ⟨w.heap.size, 36, none⟩ = some (.slice B ds.length d) := hD _ (hb6.alloc hb6.size _); have hown7 := fd_lit w6 w.heap.size 16 65 E hbw6.size; have hbw7 := hbw6.alloc hbw6.size (.cells #[Value.int .u8 16, .string (bstr E)] 65); clear hown6 hsl6 hb6))
  have HF0 := Lib.hid hfl
  clear hT1 hd1 hs1 hD hby hfl hcv hd6
  go_loopw [3, 15] (fun v i wr => ∃ k : Nat, k ≤ ds.length ∧ i = .int .i64 k ∧ wr.ownsRow w.heap.size 65 2 v (k + 1) ((F0 :: ((toks ds).take k).map disF).flatMap fdV) ∧ Below w.heap.size w wr) (fun _ i _ => ds.length - (intOf i).toNat)
  case atStart =>
    refine ⟨0, by omega, rfl, ?_, hbw7⟩
    show World.ownsRow _ _ _ _ _ 1 (([F0] : List Fd).flatMap fdV)
    rw [HF0.out]; exact hown7
  case round =>
    clear hown7 hbw7 hbw6
    obtain ⟨k, hk, rfl, hown, hb⟩ := hrel
    by_cases hlt : k < ds.length
    · obtain ⟨dd, hdd⟩ : ∃ dd, ds[k]? = some dd := ⟨_, List.getElem?_eq_getElem hlt⟩
      obtain ⟨b, o, rfl⟩ := hp.nonil hok hlt
      have hix := index_tok (some ⟨b, o, none⟩) b o ds.length d k rfl hlt
      have hme : dd.1 ∈ toks ds := List.mem_of_getElem? (toks_get hdd)
      have hbd := Lib.hid (fun w1 h => rbytesT_any dd.1 (hok dd.1 hme) dd.2.1 dd.2.2 w1 h (hfit dd.1 (List.mem_cons_of_mem _ hme)).1 (hfit dd.1 (List.mem_cons_of_mem _ hme)).2)
      have HD := Lib.hid (show F0 :: ((toks ds).take (k + 1)).map disF = (F0 :: ((toks ds).take k).map disF) ++ [disF dd.1] by rw [dis_take hdd]; rfl)
      generalize F0 :: ((toks ds).take k).map disF = ks at *
      have hfl : ([disF dd.1] : List Fd).flatMap fdV = [Value.int .u8 17, .string (bstr (bytesT dd.1))] := rfl
      obtain ⟨E2, hE2⟩ : ∃ E, E = bytesT dd.1 := ⟨_, rfl⟩
      rw [← hE2] at hbd hfl
      have HFL := Lib.hid hfl
      have n1 : k + 1 + 1 ≤ maxLen := by unfold maxLen; omega
      have n2 : (k + 1 + 1) * 24 ≤ 140737488355328 := by omega
      have hlV := length_disV (hok dd.1 (List.mem_of_getElem? (toks_get hdd)))
      have hrg := (hp.sl.later (Nat.le_refl _) hb).thing (k := 36) (dis_ok hok) k dd hdd
      have hsd := (hp.each dd (List.mem_of_getElem? hdd)).later (Nat.le_refl _) hb
      have hofn : ∀ v ∈ disV dd, v.oneCell' = true := fun v hv => disV_one [dd] v (by simpa using hv)
      obtain ⟨V2, hV2q⟩ : ∃ V, V = disV dd := ⟨_, rfl⟩
      rw [← hV2q] at hlV hrg hofn
      have hzf := Lib.hid (show (Try.prog.info? 27).map (·.size) = some V2.length by rw [size_tok, hlV])
      have hzf2 := Lib.hid (show (Try.prog.info? 27).map (·.size) = some V2.toArray.size by rw [size_tok, List.size_toArray, hlV])
      have hof := Lib.hid (all_one hofn)
      have hV2 := Lib.hid (show (36 : Nat) = V2.toArray.size by rw [List.size_toArray, hlV])
      rw [show tokV dd.1 dd.2.1 dd.2.2 = V2 from hV2q.symm] at hbd
      clear hV2q hdd hlen hp hok hlV hofn hfl hE2 hme hfit
      go_wp2_with (first
        | (with_reducible refine wpList_load_mid rfl 27 (.tmp 17) rfl b (o + k * 36) rfl V2 _ hrg Try.underlying27 rfl hzf.out ?_)
        | (with_reducible refine wpList_store_row rfl 27 (.tmp 5) (.tmp 18) rfl wr.heap.size V2.toArray rfl rfl 27 _ (heap_alloc_new wr _) hzf2.out (Eq.trans (by kernel_rfl) hV2.out) hof.out ?_; refine Hid.out ?_))
      refine Lib.hid ?_
      generalize hw5 : World.setRow _ _ _ = w5
      obtain ⟨r5, hb5⟩ := row_new_set (xs := V2) hw5
      have R5 := Lib.hid (show w5.heap[wr.heap.size]? = some (.cells V2.toArray 27 (0, 0)) from r5)
      have hbw5 := hb.trans (hb5.mono hb.size)
      have hsd5 := hsd.later (Nat.le_refl _) hb5
      have hown5 := ownk_later hown hb5 (Nat.le_refl _)
      clear hw5 hb5 hrg hsd r5 hown
      go_wp2_with (first
        | (with_reducible refine wpList_load_row rfl 27 (.tmp 5) rfl wr.heap.size rfl 27 V2.toArray (0, 0) _ R5.out Try.underlying27 rfl hzf2.out ?_)
        | (go_at_call 35; refine (hbd.out _ hsd5).mono ?_; rintro e w6 ⟨v6, rfl, hown6, hb6⟩; obtain ⟨A6, c6, rfl, _, hsl6⟩ := Sl.of_own hown6; have hcv := conv_bytes hsl6 E2.length rfl; have hbw6 := hbw5.trans (hb6.mono hbw5.size); have hs7 := fd_sl w6 17 65 E2; have hown7 := ownk_later hown5 (hb6.alloc hb6.size (.cells #[Value.int .u8 17, .string (bstr E2)] 65)) (Nat.le_refl _); have hbw7 := hbw6.alloc hbw6.size (.cells #[Value.int .u8 17, .string (bstr E2)] 65); clear hown6 hsl6 hb6 hown5)
        | (at_builtin; refine wpList_append_k rfl (.tmp 19) (.tmp 24) 62 rfl w.heap.size 65 i0 _ 2 24 Try.underlying62 hi hz0 hz1 (by omega) hz2 rfl _ (k + 1) (ks.flatMap fdV) rfl hown7 (some ⟨w6.heap.size, 0, none⟩) 1 1 [Value.int .u8 17, .string (bstr E2)] rfl rfl hs7 (fun v hv => fdV_one [(17, E2)] v hv) n1 n2 hbw7.size ?_; intro v8 w8 hown8 hg8; have hb8 := hbw7.grown hg8 hbw7.size (fun k hk => (hown7.lt k hk).1)))
      rw [← HFL.out, ← List.flatMap_append, ← HD.out] at hown8
      go_roundw
      case rel => exact ⟨k + 1, by omega, by go_num, hown8, hb8⟩
      case measure => simp [intOf]; omega
    · obtain rfl : k = ds.length := by omega
      rw [← hlen, List.take_length] at hown
      rw [hlen] at hown
      have hLn := Lib.hid (show ds.length + 1 = (F0 :: (toks ds).map disF).length by rw [List.length_cons, List.length_map, hlen])
      obtain ⟨A6, c6, rfl, _, hsl6⟩ := Sl.of_ownk hown
      clear hlt hk hp hok hlen hown hfit hbl
      generalize ds.length = n at *
      go_wp2_with (go_at_call 36; refine (hjoin.out A6 c6 _ _ hsl6 hLn.out).mono ?_; rintro e w7 ⟨v7, rfl, hown7, hb7⟩)
      go_ret
      exact ⟨v7, rfl, own_mono hown7 hb.size, hb.trans (hb7.mono hb.size)⟩
set_option maxRecDepth 20000 in
set_option maxHeartbeats 2000000 in
theorem rbenc_any (t : Tok) (ds : List Dis) (ht : t.Ok) (hok : ∀ d ∈ toks ds, d.Ok) (A : Option Addr) (c : Nat) (B : Option Addr) (d : Nat) (w : World) (hs : Sl w A (c * 5) (t.cavs.flatMap cavV)) (hp : Bs w B d ds) (hm : checkB (bunOf t ds) = true → (bytesB (bunOf t ds)).length ≤ 1000000) :
    Calls Try.prog 9 #[.agg (bunV t A c B ds.length d).toArray] w fun e w' => ∃ B d, e = .returned (.tuple #[.slice B (encB (bunOf t ds)).length d, .int .i64 (errB (bunOf t ds))]) ∧ Sl w' B d (byts (encB (bunOf t ds))) ∧ Below w.heap.size w w' := by
  have hck := Lib.hid (fun w' h1 h2 => rbcheck_any t ds ht hok A c B d w' h1 h2)
  have hby := Lib.hid (fun (hc : checkB (bunOf t ds) = true) w' h1 h2 => rbbytes_any t ds ht hok A c B d w' h1 h2 (check_bun_len ht hok hc) (hm hc))
  obtain ⟨X, hX⟩ : ∃ X, X = encB (bunOf t ds) := ⟨_, rfl⟩
  obtain ⟨e0, he0⟩ : ∃ e, e = errB (bunOf t ds) := ⟨_, rfl⟩
  rw [← hX, ← he0]
  have hb1 : Below w.heap.size w (w.alloc (.cells (bunV t A c B ds.length d).toArray 30)) := (Below.refl _ _).alloc (Nat.le_refl _) _
  have hr : Row (w.alloc (.cells (bunV t A c B ds.length d).toArray 30)) w.heap.size 30 (bunV t A c B ds.length d) := Row.new w 30 _
  have hlt := hr.lt
  have hlB := length_bunV ht A c B ds.length d
  have hlen : (toks ds).length = ds.length := toks_len ds
  obtain ⟨V, hV⟩ : ∃ V, V = bunV t A c B ds.length d := ⟨_, rfl⟩
  rw [← hV] at hb1 hr hlt hlB hck hby ⊢
  have hzB := Lib.hid (show (Try.prog.info? 30).map (·.size) = some V.toArray.size by rw [size_bun, List.size_toArray, hlB])
  have hR := Lib.hid (show (w.alloc (.cells V.toArray 30)).heap[w.heap.size]? = some (.cells V.toArray 30 (0, 0)) from hr)
  have hs1 := hs.later (Nat.le_refl _) hb1
  have hp1 := hp.later (Nat.le_refl _) hb1
  clear hV hs hp hlB hlen
  cases hc : checkB (bunOf t ds) with
  | false =>
    have HX := Lib.hid (show X = [] by rw [hX]; unfold encB; rw [hc]; rfl)
    have HE := Lib.hid (show e0 = 1 by rw [he0]; unfold errB; rw [hc]; rfl)
    rw [hc] at hck
    clear hby hX he0 hc hm hr
    go_enter Try.func9, Try.ntmps9
    go_wp2_with (first
      | (with_reducible refine wpList_load_row rfl 30 (.tmp 1) rfl w.heap.size rfl 30 V.toArray (0, 0) _ hR.out Try.underlying30 rfl hzB.out ?_)
      | (go_at_call 13; refine (hck.out _ hs1 hp1).mono ?_; rintro e w6 ⟨rfl, hb6⟩; have hbw6 := hb1.trans (hb6.mono hb1.size)))
    go_ret2
    exact ⟨none, 0, by rw [HX.out, HE.out]; rfl, by rw [HX.out]; exact ⟨.inl rfl, Nat.le_refl _, fun _ => rfl⟩, hbw6⟩
  | true =>
    rw [hc] at hck
    have hbyc := Lib.hid (hby.out hc)
    have hm1 := hm hc
    obtain ⟨J, hJ⟩ : ∃ J, J = bytesB (bunOf t ds) := ⟨_, rfl⟩
    rw [← hJ] at hbyc hm1
    by_cases hl : 65536 < J.length
    · have HX := Lib.hid (show X = [] by rw [hX]; unfold encB; rw [if_neg (by rw [← hJ]; omega)])
      have HE := Lib.hid (show e0 = 3 by rw [he0]; unfold errB; rw [hc, ← hJ, if_pos rfl, if_pos hl])
      have hl' : (65536 : Int) < (J.length : Int) := by omega
      clear hby hX he0 hc hm hJ hl
      go_enter Try.func9, Try.ntmps9
      go_wp2_with (first
        | (with_reducible refine wpList_load_row rfl 30 (.tmp 1) rfl w.heap.size rfl 30 V.toArray (0, 0) _ hR.out Try.underlying30 rfl hzB.out ?_)
        | (go_at_call 13; refine (hck.out _ hs1 hp1).mono ?_; rintro e w6 ⟨rfl, hb6⟩; have hbw6 := hb1.trans (hb6.mono hb1.size); have hs6 := hs1.later (Nat.le_refl _) hb6; have hp6 := hp1.later (Nat.le_refl _) hb6; have hR := Lib.hid (show w6.heap[w.heap.size]? = some (.cells V.toArray 30 (0, 0)) from hr.later hb6 hlt); clear hb6)
        | (go_at_call 21; refine (hbyc.out _ hs6 hp6).mono ?_; rintro e w7 ⟨v7, rfl, hown7, hb7⟩; obtain ⟨A7, c7, rfl, _, hsl7⟩ := Sl.of_own hown7; have hbw7 := hbw6.trans (hb7.mono hbw6.size)))
      go_ret2
      exact ⟨none, 0, by rw [HX.out, HE.out]; rfl, by rw [HX.out]; exact ⟨.inl rfl, Nat.le_refl _, fun _ => rfl⟩, hbw7⟩
    · have HX := Lib.hid (show X = J by rw [hX]; unfold encB; rw [if_pos ⟨hc, by rw [← hJ]; omega⟩, hJ])
      have HE := Lib.hid (show e0 = 0 by rw [he0]; unfold errB; rw [hc, ← hJ, if_pos rfl, if_neg hl])
      have hl' : (J.length : Int) ≤ 65536 := by omega
      clear hby hX he0 hc hm hJ hl
      go_enter Try.func9, Try.ntmps9
      go_wp2_with (first
        | (with_reducible refine wpList_load_row rfl 30 (.tmp 1) rfl w.heap.size rfl 30 V.toArray (0, 0) _ hR.out Try.underlying30 rfl hzB.out ?_)
        | (go_at_call 13; refine (hck.out _ hs1 hp1).mono ?_; rintro e w6 ⟨rfl, hb6⟩; have hbw6 := hb1.trans (hb6.mono hb1.size); have hs6 := hs1.later (Nat.le_refl _) hb6; have hp6 := hp1.later (Nat.le_refl _) hb6; have hR := Lib.hid (show w6.heap[w.heap.size]? = some (.cells V.toArray 30 (0, 0)) from hr.later hb6 hlt); clear hb6)
        | (go_at_call 21; refine (hbyc.out _ hs6 hp6).mono ?_; rintro e w7 ⟨v7, rfl, hown7, hb7⟩; obtain ⟨A7, c7, rfl, _, hsl7⟩ := Sl.of_own hown7; have hbw7 := hbw6.trans (hb7.mono hbw6.size)))
      go_ret2
      exact ⟨A7, c7, by rw [HX.out, HE.out]; rfl, by rw [HX.out]; exact hsl7, hbw7⟩
end Go.Proofs.Ythiebbhooigogaa

/- LAYER 11: package bundle: unfit, Check. -/
namespace Go.Proofs.Ythiebbhooigogaa
open Go Go.RowKit

set_option maxRecDepth 20000 in
set_option maxHeartbeats 2000000 in
theorem punfit_any (t : Tok) (ht : t.Ok) (hf : t.Fit) (A : Option Addr) (c : Nat) (w : World) (hs : Sl w A (c * 5) (t.cavs.flatMap cavV)) :
    Calls Try.prog 27 #[.agg (tokV t A c).toArray] w fun e w' => e = .returned (.bool (!fitD t)) ∧ Below w.heap.size w w' := by
  have hb1 : Below w.heap.size w (w.alloc (.cells (tokV t A c).toArray 27)) := (Below.refl _ _).alloc (Nat.le_refl _) _
  have hr : Row (w.alloc (.cells (tokV t A c).toArray 27)) w.heap.size 27 (tokV t A c) := Row.new w 27 _
  have hk := (tokV_get t A c).1
  have hl := length_tokV ht A c
  have hck := Lib.hid (fun w' h => pcheck_any t ht hf A c w' h)
  obtain ⟨V, hV⟩ : ∃ V, V = tokV t A c := ⟨_, rfl⟩
  rw [← hV] at hb1 hr hk hl hck ⊢
  clear hV
  have hzV := Lib.hid (show (Try.prog.info? 27).map (·.size) = some V.toArray.size by rw [size_tok, List.size_toArray, hl])
  have R0 := Lib.hid (show (w.alloc (.cells V.toArray 27)).heap[w.heap.size]? = some (.cells V.toArray 27 (0, 0)) from hr)
  have c0 : (w.alloc (.cells V.toArray 27)).cell? ⟨w.heap.size, 0, none⟩ = some (.int .u64 t.key) := by rw [hr.cell]; exact hk
  have hs1 := hs.later (Nat.le_refl _) hb1
  obtain ⟨R, hR⟩ : ∃ R, R = (!fitD t) := ⟨_, rfl⟩
  rw [← hR]
  have HR := Lib.hid (show R = !(checkT t && decide (t.key = 0)) from hR)
  clear hs hr hk hl hR
  by_cases hz : t.key = 0
  · have hz' : (t.key : Int) = 0 := by omega
    cases hc : checkT t with
    | true =>
      have HE := Lib.hid (show R = false by rw [HR.out, hc, decide_eq_true hz]; rfl)
      rw [show errT t = 0 from if_pos hc] at hck
      clear hz hc HR
      go_enter Try.func27, Try.ntmps27
      go_wp2_with (first
        | (refine wpList_step fun K hK => ?_; refine step_load_mid (some 7) rfl (by rfl) 27 (.tmp 1) rfl w.heap.size 0 rfl V _ (row_range (show Row _ w.heap.size 27 V from R0.out)) Try.underlying27 rfl (Eq.trans hzV.out (by rw [List.size_toArray])) ?_; refine hK _ _ ?_; clear hK)
        | (go_at_call 25; refine (hck.out _ hs1).mono ?_; rintro e w6 ⟨rfl, hb6⟩; have hbw6 := hb1.trans (hb6.mono hb1.size)))
      go_ret
      exact ⟨by rw [HE.out]; rfl, hbw6⟩
    | false =>
      have HE := Lib.hid (show R = true by rw [HR.out, hc]; rfl)
      rw [show errT t = 1 by unfold errT; rw [hc]; rfl] at hck
      clear hz hc HR
      go_enter Try.func27, Try.ntmps27
      go_wp2_with (first
        | (refine wpList_step fun K hK => ?_; refine step_load_mid (some 7) rfl (by rfl) 27 (.tmp 1) rfl w.heap.size 0 rfl V _ (row_range (show Row _ w.heap.size 27 V from R0.out)) Try.underlying27 rfl (Eq.trans hzV.out (by rw [List.size_toArray])) ?_; refine hK _ _ ?_; clear hK)
        | (go_at_call 25; refine (hck.out _ hs1).mono ?_; rintro e w6 ⟨rfl, hb6⟩; have hbw6 := hb1.trans (hb6.mono hb1.size)))
      go_ret
      exact ⟨by rw [HE.out]; rfl, hbw6⟩
  · have hz' : ((t.key : Int) != 0) = true := by rw [bne_iff_ne]; omega
    have HE := Lib.hid (show R = true by rw [HR.out, decide_eq_false hz, Bool.and_false]; rfl)
    clear hz HR
    go_enter Try.func27, Try.ntmps27
    go_wp2
    go_ret
    exact ⟨by rw [HE.out]; rfl, hb1⟩
set_option maxRecDepth 20000 in
set_option maxHeartbeats 2000000 in
theorem bindex_any (ds : List Dis) (hok : ∀ d ∈ toks ds, d.Ok) (hfit : ∀ d ∈ toks ds, d.Fit) (B : Option Addr) (d : Nat) (w : World) (hp : Bs w B d ds) (hm : ds.length ≤ 1000000) :
    Calls Try.prog 44 #[.slice B ds.length d, .func (.func 27) #[] #[]] w fun e w' => ∃ r : Int, e = .returned (.int .i64 r) ∧ (r = -1 ∧ (toks ds).all fitD = true ∨ 0 ≤ r ∧ (toks ds).all fitD = false) ∧ Below w.heap.size w w' := by
  have h2' : (ds.length : Int) ≤ 1000000 := by omega
  have hlen : (toks ds).length = ds.length := toks_len ds
  go_enter Try.func44, Try.ntmps44
  go_wp2_with fail
  go_loopw [8] (fun i wr => ∃ k : Nat, k ≤ ds.length ∧ i = .int .i64 k ∧ ((toks ds).take k).all fitD = true ∧ Below w.heap.size w wr) (fun i _ => ds.length - (intOf i).toNat)
  case atStart => exact ⟨0, by omega, rfl, rfl, Below.refl _ _⟩
  case round =>
    obtain ⟨k, hk, rfl, hall, hb⟩ := hrel
    by_cases hlt : k < ds.length
    · obtain ⟨dd, hdd⟩ : ∃ dd, ds[k]? = some dd := ⟨_, List.getElem?_eq_getElem hlt⟩
      obtain ⟨b, o, rfl⟩ := hp.nonil hok hlt
      have hix := index_tok (some ⟨b, o, none⟩) b o ds.length d k rfl hlt
      have hme : dd.1 ∈ toks ds := List.mem_of_getElem? (toks_get hdd)
      have HA := Lib.hid (all_take_of (f := fitD) hall (toks_get hdd))
      have HB := Lib.hid (all_bad_of (f := fitD) (toks_get hdd))
      have hcan := Lib.hid (fun w' h => punfit_any dd.1 (hok _ hme) (hfit _ hme) dd.2.1 dd.2.2 w' h)
      have hlV := length_disV (hok dd.1 (List.mem_of_getElem? (toks_get hdd)))
      have hrg := (hp.sl.later (Nat.le_refl _) hb).thing (k := 36) (dis_ok hok) k dd hdd
      have hsd := (hp.each dd (List.mem_of_getElem? hdd)).later (Nat.le_refl _) hb
      have hofn : ∀ v ∈ disV dd, v.oneCell' = true := fun v hv => disV_one [dd] v (by simpa using hv)
      obtain ⟨V2, hV2q⟩ : ∃ V, V = disV dd := ⟨_, rfl⟩
      rw [← hV2q] at hlV hrg hofn
      have hzf := Lib.hid (show (Try.prog.info? 27).map (·.size) = some V2.length by rw [size_tok, hlV])
      have hzf2 := Lib.hid (show (Try.prog.info? 27).map (·.size) = some V2.toArray.size by rw [size_tok, List.size_toArray, hlV])
      have hof := Lib.hid (all_one hofn)
      have hV2 := Lib.hid (show (36 : Nat) = V2.toArray.size by rw [List.size_toArray, hlV])
      rw [show tokV dd.1 dd.2.1 dd.2.2 = V2 from hV2q.symm] at hcan
      clear hV2q hdd hall hlV hofn hp hme hok hfit hlen
      generalize fitD dd.1 = r at *
      go_wp2_with (first
        | (with_reducible refine wpList_load_mid rfl 27 (.tmp 14) rfl b (o + k * 36) rfl V2 _ hrg Try.underlying27 rfl hzf.out ?_)
        | (go_at_call 27; refine (hcan.out _ hsd).mono ?_; rintro e w6 ⟨rfl, hb6⟩; have hbw6 := hb.trans (hb6.mono hb.size); cases r))
      · go_ret
        exact ⟨k, rfl, .inr ⟨by omega, HB.out (by first | rfl | trivial)⟩, hbw6⟩
      · go_roundw
        case rel => exact ⟨k + 1, by omega, by go_num, HA.out (by first | rfl | trivial), hbw6⟩
        case measure => simp [intOf]; omega
    · obtain rfl : k = ds.length := by omega
      rw [← hlen, List.take_length] at hall
      clear hlt hk hp hok hfit hlen
      generalize ds.length = n at *
      go_wp2
      go_ret
      exact ⟨-1, rfl, .inl ⟨rfl, hall⟩, hb⟩
theorem bhas_any (ds : List Dis) (hok : ∀ d ∈ toks ds, d.Ok) (hfit : ∀ d ∈ toks ds, d.Fit) (B : Option Addr) (d : Nat) (w : World) (hp : Bs w B d ds) (hm : ds.length ≤ 1000000) :
    Calls Try.prog 26 #[.slice B ds.length d, .func (.func 27) #[] #[]] w fun e w' => e = .returned (.bool (!(toks ds).all fitD)) ∧ Below w.heap.size w w' := by
  have hi := Lib.hid (bindex_any ds hok hfit B d w hp hm)
  generalize (toks ds).all fitD = r at *
  generalize ds.length = n at *
  clear hp hok hfit
  go_enter Try.func26, Try.ntmps26
  go_wp2_with (go_at_call 44; refine hi.out.mono ?_; rintro e w6 ⟨x, rfl, hx, hb6⟩)
  · rcases hx with ⟨rfl, rfl⟩ | ⟨h1, rfl⟩
    all_goals go_wp2
    all_goals go_ret
    all_goals first | exact ⟨rfl, hb6⟩ | (exfalso; omega) | trace_state
def chkB (b : Bun) : Int := if checkB b then 0 else 1
set_option maxRecDepth 20000 in
set_option maxHeartbeats 2000000 in
theorem bcheck_any (t : Tok) (ds : List Dis) (ht : t.Ok) (hok : ∀ d ∈ toks ds, d.Ok) (A : Option Addr) (c : Nat) (B : Option Addr) (d : Nat) (w : World) (hs : Sl w A (c * 5) (t.cavs.flatMap cavV)) (hp : Bs w B d ds) (hf : t.Fit) (hfit : ∀ d ∈ toks ds, d.Fit) :
    Calls Try.prog 12 #[.agg (bunV t A c B ds.length d).toArray] w fun e w' => e = .returned (.int .i64 (chkB (bunOf t ds))) ∧ Below w.heap.size w w' := by
  have hb1 : Below w.heap.size w (w.alloc (.cells (bunV t A c B ds.length d).toArray 30)) := (Below.refl _ _).alloc (Nat.le_refl _) _
  have hr : Row (w.alloc (.cells (bunV t A c B ds.length d).toArray 30)) w.heap.size 30 (bunV t A c B ds.length d) := Row.new w 30 _
  have hlt := hr.lt
  have hT := fun w' (h : Below _ _ w') => row_bun_tok (hr.later h hlt)
  have hD := fun w' (h : Below _ _ w') => row_bun_dis ht (hr.later h hlt)
  have hBd := fun w' (h : Below _ _ w') => row_bun_bound (hr.later h hlt)
  have hlB := length_bunV ht A c B ds.length d
  have hlen : (toks ds).length = ds.length := toks_len ds
  obtain ⟨V, hV⟩ : ∃ V, V = bunV t A c B ds.length d := ⟨_, rfl⟩
  obtain ⟨VT, hVT⟩ : ∃ V, V = tokV t A c := ⟨_, rfl⟩
  have hlT : VT.length = 36 := by rw [hVT]; exact length_tokV ht A c
  have hzT := Lib.hid (show (Try.prog.info? 27).map (·.size) = some VT.length by rw [size_tok, hlT])
  have hck := Lib.hid (show ∀ w', Sl w' A (c * 5) (t.cavs.flatMap cavV) → Calls Try.prog 25 #[.agg VT.toArray] w' fun e w'' => e = .returned (.int .i64 (errT t)) ∧ Below w'.heap.size w' w'' by rw [hVT]; exact fun w' h => pcheck_any t ht hf A c w' h)
  obtain ⟨R, hR0⟩ : ∃ R, R = chkB (bunOf t ds) := ⟨_, rfl⟩
  rw [← hR0]
  have HR := Lib.hid (show R = if (checkT t && !t.bound && decide (ds.length ≤ 16) && (toks ds).all fitD) = true then 0 else 1 by rw [hR0]; unfold chkB checkB; dsimp only; rw [hlen])
  clear hR0
  rw [← hVT] at hT
  rw [← hV] at hb1 hr hlt hT hD hBd hlB ⊢
  clear hV hVT hlT
  have hzB := Lib.hid (show (Try.prog.info? 30).map (·.size) = some V.toArray.size by rw [size_bun, List.size_toArray, hlB])
  have hR := Lib.hid (show (w.alloc (.cells V.toArray 30)).heap[w.heap.size]? = some (.cells V.toArray 30 (0, 0)) from hr)
  have hs1 := hs.later (Nat.le_refl _) hb1
  have hT1 := hT _ (Below.refl _ _)
  have hd1 := hD _ (Below.refl _ _)
  have hbd1 := hBd _ (Below.refl _ _)
  have hp1 := hp.later (Nat.le_refl _) hb1
  clear hs hr hlt hT hlB hzB hR
  by_cases h3 : 16 < ds.length
  · have HE := Lib.hid (HR.out.trans (if_neg (by rw [show decide (ds.length ≤ 16) = false from decide_eq_false (by omega)]; simp)))
    have h3' : (16 : Int) < (ds.length : Int) := by omega
    clear h3 HR hp hlen
    go_enter Try.func12, Try.ntmps12
    go_wp2
    go_ret
    exact ⟨by rw [HE.out]; rfl, hb1⟩
  · have h3' : decide ((16 : Int) < (ds.length : Int)) = false := decide_eq_false (by omega)
    cases h2 : t.bound with
    | true =>
      have HE := Lib.hid (HR.out.trans (if_neg (by rw [h2]; simp)))
      rw [h2] at hBd hbd1
      clear h2 HR hp hlen
      go_enter Try.func12, Try.ntmps12
      go_wp2
      go_ret
      exact ⟨by rw [HE.out]; rfl, hb1⟩
    | false =>
      rw [h2] at hBd hbd1
      cases h1 : checkT t with
      | false =>
        have HE := Lib.hid (HR.out.trans (if_neg (by rw [h1]; simp)))
        rw [show errT t = 1 by unfold errT; rw [h1]; rfl] at hck
        clear h1 h2 HR hp hlen h3
        go_enter Try.func12, Try.ntmps12
        go_wp2_with (first
          | (refine wpList_step fun K hK => ?_; refine step_load_mid (some 14) rfl (by rfl) 27 (.tmp 13) rfl w.heap.size 0 rfl VT _ hT1 Try.underlying27 rfl hzT.out ?_; refine hK _ _ ?_; clear hK)
          | (go_at_call 25; refine (hck.out _ hs1).mono ?_; rintro e w6 ⟨rfl, hb6⟩; have hbw6 := hb1.trans (hb6.mono hb1.size); have hd6 := hD _ hb6; have hp6 := hp1.later (Nat.le_refl _) hb6))
        go_ret
        exact ⟨by rw [HE.out]; rfl, hbw6⟩
      | true =>
        have HE := Lib.hid (show R = if (toks ds).all fitD = true then 0 else 1 by rw [HR.out, h1, h2, show decide (ds.length ≤ 16) = true from decide_eq_true (by omega)]; rfl)
        rw [show errT t = 0 from if_pos h1] at hck
        have hhas := Lib.hid (fun w' h => bhas_any ds hok hfit B d w' h (by omega))
        clear h1 h2 HR hp hlen h3 hok hfit
        generalize (toks ds).all fitD = r at *
        go_enter Try.func12, Try.ntmps12
        go_wp2_with (first
          | (refine wpList_step fun K hK => ?_; refine step_load_mid (some 14) rfl (by rfl) 27 (.tmp 13) rfl w.heap.size 0 rfl VT _ hT1 Try.underlying27 rfl hzT.out ?_; refine hK _ _ ?_; clear hK)
          | (go_at_call 25; refine (hck.out _ hs1).mono ?_; rintro e w6 ⟨rfl, hb6⟩; have hbw6 := hb1.trans (hb6.mono hb1.size); have hd6 := hD _ hb6; have hp6 := hp1.later (Nat.le_refl _) hb6)
          | (go_at_call 26; refine (hhas.out _ hp6).mono ?_; rintro e w7 ⟨rfl, hb7⟩; have hbw7 := hbw6.trans (hb7.mono hbw6.size); cases r))
        all_goals go_ret
        all_goals exact ⟨by rw [HE.out]; rfl, hbw7⟩
end Go.Proofs.Ythiebbhooigogaa

/- LAYER 11: package bundle: laid, Encode. -/
namespace Go.Proofs.Ythiebbhooigogaa
open Go Go.RowKit

set_option maxRecDepth 20000 in
set_option maxHeartbeats 2000000 in
theorem plaid_any (kind : UInt8) (t : Tok) (ht : t.Ok) (hf : t.Fit) (A : Option Addr) (c : Nat) (w : World) (hs : Sl w A (c * 5) (t.cavs.flatMap cavV)) :
    Calls Try.prog 19 #[.int .u8 (kind.toNat : Int), .agg (tokV t A c).toArray] w fun e w' => e = .returned (.agg #[.int .u8 (kind.toNat : Int), .string (bstr (encT t))]) ∧ Below w.heap.size w w' := by
  have hen := Lib.hid (fun w' h => penc_any t ht hf A c w' h)
  have hl := length_tokV ht A c
  obtain ⟨V, hV⟩ : ∃ V, V = tokV t A c := ⟨_, rfl⟩
  rw [← hV] at hen hl ⊢
  clear hV
  obtain ⟨E, hE⟩ : ∃ E, E = encT t := ⟨_, rfl⟩
  rw [← hE] at hen ⊢
  clear hE
  have hzV := Lib.hid (show (Try.prog.info? 27).map (·.size) = some V.toArray.size by rw [size_tok, List.size_toArray, hl])
  obtain ⟨r0, r1, hb1, _⟩ := two_rows (w := w) (A := V) (B := [Value.int .u8 0, .string { data := #[] }]) (tA := 27) (tB := 55) rfl
  have R0 := Lib.hid (show ((w.alloc (.cells V.toArray 27)).alloc (.cells [Value.int .u8 0, .string { data := #[] }].toArray 55)).heap[w.heap.size]? = some (.cells V.toArray 27 (0, 0)) from r0)
  have hs1 := hs.later (Nat.le_refl _) hb1
  have hk := byte_bd kind
  obtain ⟨kd, hkd⟩ : ∃ kd : Int, kd = (kind.toNat : Int) := ⟨_, rfl⟩
  rw [← hkd] at hk ⊢
  clear hkd hl hs
  go_enter Try.func19, Try.ntmps19
  go_wp2_with (first
    | (with_reducible refine wpList_load_row rfl 27 (.tmp 3) rfl w.heap.size rfl 27 V.toArray (0, 0) _ R0.out Try.underlying27 rfl hzV.out ?_)
    | (go_at_call 33; refine (hen.out _ hs1).mono ?_; rintro e w6 ⟨B6, d6, rfl, hsl6, hb6⟩; have r6 := r1.later hb6 r1.lt; have f0 := r6.free 0; have f1 := r6.free 1; have k0 : w6.cell? ⟨w.heap.size + 1, 0, none⟩ = some (.int .u8 0) := (by rw [r6.cell]; rfl); have k1 : w6.cell? ⟨w.heap.size + 1, 1, none⟩ = some (.string { data := #[] }) := (by rw [r6.cell]; rfl); have hcv := conv_bytes hsl6 E.length rfl; have hbw6 := hb1.trans (hb6.mono hb1.size)))
  have rF : Row ((w6.setCell ⟨w.heap.size + 1, 0, none⟩ (.int .u8 kd)).setCell ⟨w.heap.size + 1, 1, none⟩ (.string (bstr E))) (w.heap.size + 1) 55 [.int .u8 kd, .string (bstr E)] := (r6.set 0 _).set 1 _
  have hg := grown_trans (grown_setCell w6 (w.heap.size + 1) 0 (.int .u8 kd)) (grown_setCell (w6.setCell ⟨w.heap.size + 1, 0, none⟩ (.int .u8 kd)) (w.heap.size + 1) 1 (.string (bstr E)))
  have hbf := hbw6.grown hg hbw6.size (fun k h => by cases h; exact Nat.le_succ _)
  refine bodyPost_ret (results_cell_row rfl _ _ (w.heap.size + 1) 55 #[.int .u8 kd, .string (bstr E)] (0, 0) _ rfl rF Try.underlying55 rfl size_ff) rfl ?_
  exact ⟨rfl, hbf⟩
set_option maxRecDepth 20000 in
set_option maxHeartbeats 2000000 in
theorem benc_any (t : Tok) (ds : List Dis) (ht : t.Ok) (hok : ∀ d ∈ toks ds, d.Ok) (A : Option Addr) (c : Nat) (B : Option Addr) (d : Nat) (w : World) (hs : Sl w A (c * 5) (t.cavs.flatMap cavV)) (hp : Bs w B d ds) (hf : t.Fit) (hfit : ∀ d ∈ toks ds, d.Fit) (hm : checkB (bunOf t ds) = true → (bytesB (bunOf t ds)).length ≤ 1000000) :
    Calls Try.prog 8 #[.agg (bunV t A c B ds.length d).toArray] w fun e w' => ∃ B d, e = .returned (.tuple #[.slice B (encB (bunOf t ds)).length d, .int .i64 (errB (bunOf t ds))]) ∧ Sl w' B d (byts (encB (bunOf t ds))) ∧ Below w.heap.size w w' := by
  obtain ⟨i0, hi, hz0, hz1, hz2⟩ := info_ff
  have hb1 : Below w.heap.size w (w.alloc (.cells (bunV t A c B ds.length d).toArray 30)) := (Below.refl _ _).alloc (Nat.le_refl _) _
  have hr : Row (w.alloc (.cells (bunV t A c B ds.length d).toArray 30)) w.heap.size 30 (bunV t A c B ds.length d) := Row.new w 30 _
  have hlt := hr.lt
  have hT := fun w' (h : Below _ _ w') => row_bun_tok (hr.later h hlt)
  have hD := fun w' (h : Below _ _ w') => row_bun_dis ht (hr.later h hlt)
  have hBd := fun w' (h : Below _ _ w') => row_bun_bound (hr.later h hlt)
  have hlB := length_bunV ht A c B ds.length d
  have hlen : (toks ds).length = ds.length := toks_len ds
  obtain ⟨V, hV⟩ : ∃ V, V = bunV t A c B ds.length d := ⟨_, rfl⟩
  obtain ⟨VT, hVT⟩ : ∃ V, V = tokV t A c := ⟨_, rfl⟩
  have hlT : VT.length = 36 := by rw [hVT]; exact length_tokV ht A c
  have hzT := Lib.hid (show (Try.prog.info? 27).map (·.size) = some VT.length by rw [size_tok, hlT])
  have hck := Lib.hid (fun w' h1 h2 => bcheck_any t ds ht hok A c B d w' h1 h2 hf hfit)
  rw [← hV] at hck
  have hla := Lib.hid (show ∀ w', Sl w' A (c * 5) (t.cavs.flatMap cavV) → Calls Try.prog 19 #[.int .u8 16, .agg VT.toArray] w' fun e w'' => e = .returned (.agg #[.int .u8 16, .string (bstr (encT t))]) ∧ Below w'.heap.size w' w'' by rw [hVT]; exact fun w' h => plaid_any 16 t ht hf A c w' h)
  obtain ⟨X, hX⟩ : ∃ X, X = encB (bunOf t ds) := ⟨_, rfl⟩
  obtain ⟨e0, he0⟩ : ∃ e, e = errB (bunOf t ds) := ⟨_, rfl⟩
  rw [← hX, ← he0]
  rw [← hVT] at hT
  rw [← hV] at hb1 hr hlt hT hD hBd hlB ⊢
  clear hV hVT hlT
  have hzB := Lib.hid (show (Try.prog.info? 30).map (·.size) = some V.toArray.size by rw [size_bun, List.size_toArray, hlB])
  have hR := Lib.hid (show (w.alloc (.cells V.toArray 30)).heap[w.heap.size]? = some (.cells V.toArray 30 (0, 0)) from hr)
  have hs1 := hs.later (Nat.le_refl _) hb1
  have hT1 := hT _ (Below.refl _ _)
  have hd1 := hD _ (Below.refl _ _)
  have hbd1 := hBd _ (Below.refl _ _)
  have hp1 := hp.later (Nat.le_refl _) hb1
  clear hs hr hlt hBd hlB hbd1 hT1 hd1
  cases hc : checkB (bunOf t ds) with
  | false =>
    have HX := Lib.hid (show X = [] by rw [hX]; unfold encB; rw [hc]; rfl)
    have HE := Lib.hid (show e0 = 1 by rw [he0]; unfold errB; rw [hc]; rfl)
    rw [show chkB (bunOf t ds) = 1 by unfold chkB; rw [hc]; rfl] at hck
    clear hX he0 hc hm hla hT hD hp
    go_enter Try.func8, Try.ntmps8
    go_wp2_with (first
      | (with_reducible refine wpList_load_row rfl 30 (.tmp 1) rfl w.heap.size rfl 30 V.toArray (0, 0) _ hR.out Try.underlying30 rfl hzB.out ?_)
      | (go_at_call 12; refine (hck.out _ hs1 hp1).mono ?_; rintro e w6 ⟨rfl, hb6⟩; have hbw6 := hb1.trans (hb6.mono hb1.size)))
    go_ret2
    exact ⟨none, 0, by rw [HX.out, HE.out]; rfl, by rw [HX.out]; exact ⟨.inl rfl, Nat.le_refl _, fun _ => rfl⟩, hbw6⟩
  | true =>
    rw [show chkB (bunOf t ds) = 0 from if_pos hc] at hck
    have hm1 := hm hc
    have hpt := checkB_parts hc
    rw [show encT t = bytesT t from if_pos hpt.1] at hla
    have hcl : ds.length ≤ 16 := by have := hpt.2.2.1; show ds.length ≤ 16; rw [← hlen]; exact this
    have hpd := hpt.2.2.2
    have hjoin := Lib.hid (show ∀ A6 c6 n w1, Sl w1 A6 (c6 * 2) ((bunF (bunOf t ds)).flatMap fdV) → n = (bunF (bunOf t ds)).length → Calls Try.prog 20 #[.slice A6 n c6] w1 (GaveBytes (bytesB (bunOf t ds)) w1) from fun A6 c6 n w1 h hn => fjoin_any A6 n c6 (bunF (bunOf t ds)) w1 h hn hm1)
    have HB := Lib.hid (show bunF (bunOf t ds) = (16, bytesT t) :: (toks ds).map disF from rfl)
    rw [HB.out] at hjoin
    obtain ⟨E, hE⟩ : ∃ E, E = bytesT t := ⟨_, rfl⟩
    rw [← hE] at hla hjoin
    have hfl : ([(16, E)] : List Fd).flatMap fdV = [Value.int .u8 16, .string (bstr E)] := rfl
    have HF0 := Lib.hid hfl
    obtain ⟨F0, hF0⟩ : ∃ F0 : Fd, F0 = (16, E) := ⟨_, rfl⟩
    rw [← hF0] at hjoin HF0
    have HX := Lib.hid (show X = if (bytesB (bunOf t ds)).length ≤ 65536 then bytesB (bunOf t ds) else [] by rw [hX]; unfold encB; rw [hc]; simp)
    have HE := Lib.hid (show e0 = if 65536 < (bytesB (bunOf t ds)).length then 3 else 0 by rw [he0]; unfold errB; rw [hc]; rfl)
    obtain ⟨J, hJ⟩ : ∃ J, J = bytesB (bunOf t ds) := ⟨_, rfl⟩
    rw [← hJ] at hjoin hm1 HX HE
    clear hX he0 hc hm hE hfl hF0 HB hpt hJ
    go_enter Try.func8, Try.ntmps8
    go_wp2_with (first
      | (with_reducible refine wpList_load_row rfl 30 (.tmp 1) rfl w.heap.size rfl 30 V.toArray (0, 0) _ hR.out Try.underlying30 rfl hzB.out ?_)
      | (go_at_call 12; refine (hck.out _ hs1 hp1).mono ?_; rintro e w6 ⟨rfl, hb6⟩; have hbw6 := hb1.trans (hb6.mono hb1.size); have hs6 := hs1.later (Nat.le_refl _) hb6; have hp6 := hp1.later (Nat.le_refl _) hb6; have hT6 := hT _ hb6; have hb6' := hb6; clear hb6)
      | (with_reducible refine wpList_load_mid rfl 27 (.tmp 14) rfl w.heap.size 0 rfl VT _ hT6 Try.underlying27 rfl hzT.out ?_)
      | (go_at_call 19; refine (hla.out _ hs6).mono ?_; rintro e w7 ⟨rfl, hb7⟩; have hbw7 := hbw6.trans (hb7.mono hbw6.size); have hd7 : (w7.alloc (.cells #[Value.int .u8 16, .string (bstr E)] 55)).cell? ⟨w.heap.size, 36, none⟩ = some (.slice B ds.length d) := hD _ (hb6'.trans ((hb7.alloc hb7.size _).mono hb6'.size)); have hown7 := fd_lit w7 w.heap.size 16 55 E hbw7.size; have hbw8 := hbw7.alloc hbw7.size (.cells #[Value.int .u8 16, .string (bstr E)] 55); clear hb7))
    clear hs1 hD hT hla hck hT6 hs6 hp6 hb6' hd7 hbw7 hbw6 hzT hzB hR hp1
    go_loopw [5, 21] (fun v i wr => ∃ k : Nat, k ≤ ds.length ∧ i = .int .i64 k ∧ wr.ownsRow w.heap.size 55 2 v (k + 1) ((F0 :: ((toks ds).take k).map disF).flatMap fdV) ∧ Below w.heap.size w wr) (fun _ i _ => ds.length - (intOf i).toNat)
    case atStart =>
      refine ⟨0, by omega, rfl, ?_, hbw8⟩
      show World.ownsRow _ _ _ _ _ 1 (([F0] : List Fd).flatMap fdV)
      rw [HF0.out]; exact hown7
    case round =>
      clear hown7 hbw8 hb1
      obtain ⟨k, hk, rfl, hown, hb⟩ := hrel
      by_cases hlt : k < ds.length
      · obtain ⟨dd, hdd⟩ : ∃ dd, ds[k]? = some dd := ⟨_, List.getElem?_eq_getElem hlt⟩
        obtain ⟨b, o, rfl⟩ := hp.nonil hok hlt
        have hix := index_tok (some ⟨b, o, none⟩) b o ds.length d k rfl hlt
        have hme : dd.1 ∈ toks ds := List.mem_of_getElem? (toks_get hdd)
        have hbd := Lib.hid (show ∀ w', Sl w' dd.2.1 (dd.2.2 * 5) (dd.1.cavs.flatMap cavV) → Calls Try.prog 19 #[.int .u8 17, .agg (tokV dd.1 dd.2.1 dd.2.2).toArray] w' fun e w'' => e = .returned (.agg #[.int .u8 17, .string (bstr (bytesT dd.1))]) ∧ Below w'.heap.size w' w'' from fun w' h => by
          have h1 := plaid_any 17 dd.1 (hok _ hme) (hfit _ hme) dd.2.1 dd.2.2 w' h
          rw [show encT dd.1 = bytesT dd.1 from if_pos (hpd _ hme).1] at h1
          exact h1)
        have HD := Lib.hid (show F0 :: ((toks ds).take (k + 1)).map disF = (F0 :: ((toks ds).take k).map disF) ++ [disF dd.1] by rw [dis_take hdd]; rfl)
        generalize F0 :: ((toks ds).take k).map disF = ks at *
        have hfl : ([disF dd.1] : List Fd).flatMap fdV = [Value.int .u8 17, .string (bstr (bytesT dd.1))] := rfl
        obtain ⟨E2, hE2⟩ : ∃ E, E = bytesT dd.1 := ⟨_, rfl⟩
        rw [← hE2] at hbd hfl
        have HFL := Lib.hid hfl
        have n1 : k + 1 + 1 ≤ maxLen := by unfold maxLen; omega
        have n2 : (k + 1 + 1) * 24 ≤ 140737488355328 := by omega
        have hlV := length_disV (hok dd.1 (List.mem_of_getElem? (toks_get hdd)))
        have hrg := (hp.sl.later (Nat.le_refl _) hb).thing (k := 36) (dis_ok hok) k dd hdd
        have hsd := (hp.each dd (List.mem_of_getElem? hdd)).later (Nat.le_refl _) hb
        have hofn : ∀ v ∈ disV dd, v.oneCell' = true := fun v hv => disV_one [dd] v (by simpa using hv)
        obtain ⟨V2, hV2q⟩ : ∃ V, V = disV dd := ⟨_, rfl⟩
        rw [← hV2q] at hlV hrg hofn
        have hzf := Lib.hid (show (Try.prog.info? 27).map (·.size) = some V2.length by rw [size_tok, hlV])
        have hzf2 := Lib.hid (show (Try.prog.info? 27).map (·.size) = some V2.toArray.size by rw [size_tok, List.size_toArray, hlV])
        have hof := Lib.hid (all_one hofn)
        have hV2 := Lib.hid (show (36 : Nat) = V2.toArray.size by rw [List.size_toArray, hlV])
        rw [show tokV dd.1 dd.2.1 dd.2.2 = V2 from hV2q.symm] at hbd
        clear hV2q hdd hlen hp hok hlV hofn hfl hE2 hme hfit hpd
        go_wp2_with (first
          | (with_reducible refine wpList_load_mid rfl 27 (.tmp 23) rfl b (o + k * 36) rfl V2 _ hrg Try.underlying27 rfl hzf.out ?_)
          | (with_reducible refine wpList_store_row rfl 27 (.tmp 7) (.tmp 24) rfl wr.heap.size V2.toArray rfl rfl 27 _ (heap_alloc_new wr _) hzf2.out (Eq.trans (by kernel_rfl) hV2.out) hof.out ?_; refine Hid.out ?_))
        refine Lib.hid ?_
        generalize hw5 : World.setRow _ _ _ = w5
        obtain ⟨r5, hb5⟩ := row_new_set (xs := V2) hw5
        have R5 := Lib.hid (show w5.heap[wr.heap.size]? = some (.cells V2.toArray 27 (0, 0)) from r5)
        have hbw5 := hb.trans (hb5.mono hb.size)
        have hsd5 := hsd.later (Nat.le_refl _) hb5
        have hown5 := ownk_later hown hb5 (Nat.le_refl _)
        clear hw5 hb5 hrg hsd r5 hown
        go_wp2_with (first
          | (with_reducible refine wpList_load_row rfl 27 (.tmp 7) rfl wr.heap.size rfl 27 V2.toArray (0, 0) _ R5.out Try.underlying27 rfl hzf2.out ?_)
          | (go_at_call 19; refine (hbd.out _ hsd5).mono ?_; rintro e w6 ⟨rfl, hb6⟩; have hbw6 := hbw5.trans (hb6.mono hbw5.size); have hs7 := fd_sl w6 17 55 E2; have hown7 := ownk_later hown5 (hb6.alloc hb6.size (.cells #[Value.int .u8 17, .string (bstr E2)] 55)) (Nat.le_refl _); have hbw7 := hbw6.alloc hbw6.size (.cells #[Value.int .u8 17, .string (bstr E2)] 55); clear hb6 hown5)
          | (at_builtin; refine wpList_append_k rfl (.tmp 25) (.tmp 28) 57 rfl w.heap.size 55 i0 _ 2 24 Try.underlying57 hi hz0 hz1 (by omega) hz2 rfl _ (k + 1) (ks.flatMap fdV) rfl hown7 (some ⟨w6.heap.size, 0, none⟩) 1 1 [Value.int .u8 17, .string (bstr E2)] rfl rfl hs7 (fun v hv => fdV_one [(17, E2)] v hv) n1 n2 hbw7.size ?_; intro v8 w8 hown8 hg8; have hb8 := hbw7.grown hg8 hbw7.size (fun k hk => (hown7.lt k hk).1)))
        rw [← HFL.out, ← List.flatMap_append, ← HD.out] at hown8
        go_roundw
        case rel => exact ⟨k + 1, by omega, by go_num, hown8, hb8⟩
        case measure => simp [intOf]; omega
      · obtain rfl : k = ds.length := by omega
        rw [← hlen, List.take_length] at hown
        rw [hlen] at hown
        have hLn := Lib.hid (show ds.length + 1 = (F0 :: (toks ds).map disF).length by rw [List.length_cons, List.length_map, hlen])
        obtain ⟨A6, c6, rfl, _, hsl6⟩ := Sl.of_ownk hown
        clear hlt hk hp hok hlen hown hfit hpd hcl HF0
        generalize ds.length = n at *
        by_cases hl : 65536 < J.length
        · have HX2 := Lib.hid (HX.out.trans (if_neg (by omega)))
          have HE2 := Lib.hid (HE.out.trans (if_pos hl))
          have hl' : (65536 : Int) < (J.length : Int) := by omega
          clear hl
          go_wp2_with (go_at_call 20; refine (hjoin.out A6 c6 _ _ hsl6 hLn.out).mono ?_; rintro e w7 ⟨v7, rfl, hown7, hb7⟩; obtain ⟨A7, c7, rfl, _, hsl7⟩ := Sl.of_own hown7)
          go_ret2
          exact ⟨none, 0, by rw [HX2.out, HE2.out]; rfl, by rw [HX2.out]; exact ⟨.inl rfl, Nat.le_refl _, fun _ => rfl⟩, hb.trans (hb7.mono hb.size)⟩
        · have HX2 := Lib.hid (HX.out.trans (if_pos (by omega)))
          have HE2 := Lib.hid (HE.out.trans (if_neg hl))
          have hl' : (J.length : Int) ≤ 65536 := by omega
          clear hl
          go_wp2_with (go_at_call 20; refine (hjoin.out A6 c6 _ _ hsl6 hLn.out).mono ?_; rintro e w7 ⟨v7, rfl, hown7, hb7⟩; obtain ⟨A7, c7, rfl, _, hsl7⟩ := Sl.of_own hown7)
          go_ret2
          exact ⟨A7, c7, by rw [HX2.out, HE2.out]; rfl, by rw [HX2.out]; exact hsl7, hb.trans (hb7.mono hb.size)⟩
end Go.Proofs.Ythiebbhooigogaa

/- LAYER 11: 'append' of one thing onto a slice of the call's own, and where what comes of it lies; a bundle that is being built in memory. -/
namespace Go.Proofs.Ythiebbhooigogaa
open Go Go.RowKit

theorem run_append_one {P : Program} (w : World) (base : Nat) (t ty e : TypeId) (i : TypeInfo) (z : Value) (k bytes : Nat) (ht : P.underlying t = some (.slice e)) (hi : P.info? e = some i) (hz : i.zero = some z)
    (hsize : i.size = k) (hk : 0 < k) (hby : i.bytes = bytes) (hzs : z.cells.size = k) (v : Value) (n : Nat) (xs : List Value) (hown : w.ownsRow base e k v n xs)
    (ad : Addr) (c : Nat) (news : List Value) (hm : news.length = k) (hsl : Sl w (some ad) (c * k) news) (h1 : ∀ u ∈ news, u.oneCell' = true)
    (h63 : n + 1 ≤ maxLen) (hbytes : (n + 1) * bytes ≤ 140737488355328) (hbase : base ≤ w.heap.size) :
    ∃ v' w', (Builtin.append_ #[t, t] ty #[v, .slice (some ad) 1 c]).run P w = .ok v' w' ∧ w'.ownsRow base e k v' (n + 1) (xs ++ news) ∧ w.grownBy w' v.ownBlock ∧ (∀ g', v'.ownBlock = some g' → v.ownBlock = some g' ∨ w.heap.size ≤ g') := by
  obtain ⟨v', w', hrun, h2, h3, _⟩ := run_append_own (P := P) w base t ty e i z k bytes ht hi hz hsize hby hzs hk v n xs hown ad 1 c news (by omega) hsl.rd.at_add h1 h63 hbytes hbase
  refine ⟨v', w', hrun, h2, h3, ?_⟩
  subst hsize hby
  rcases hown.2 with ⟨rfl, rfl⟩ | ⟨g, cap, cur, rfl, hbg, hg, hnc, hcm, hcs, htake⟩
  · have hr := run_append_nil (P := P) w t ty e i z ht hi hz ad 1 c news (by omega) hsl.rd.at_add (by omega) (by omega) (by omega)
    rw [hr] at hrun
    injection hrun with hv _
    subst hv
    intro g' hg'
    cases hg'
    exact .inr (Nat.le_refl _)
  · by_cases hroom : n + 1 ≤ cap
    · have hfit : n * i.size + news.length ≤ cur.size := by
        have h4 : (n + 1) * i.size ≤ cap * i.size := Nat.mul_le_mul_right _ hroom
        rw [hcs, hm]
        rw [Nat.succ_mul] at h4; omega
      have hr := run_append_room (P := P) w t ty e i ht hi g n cap cur hg ad 1 c news (by omega) hsl.rd.at_add h1 hroom hfit
      rw [hr] at hrun
      injection hrun with hv _
      subst hv
      exact fun g' hg' => .inl hg'
    · have holds : ∀ j u, xs[j]? = some u → w.cell? ((⟨g, 0, none⟩ : Addr).add j) = some u := hown.cells (g := g) rfl
      have hsmall : n + 1 ≤ 9223372036854775807 := by simp only [maxLen] at h63; omega
      have hr := run_append_grow (P := P) w t ty e i z ht hi hz ⟨g, 0, none⟩ n cap xs hown.1 holds ad 1 c news (by omega) hsl.rd.at_add (by omega) (by omega) (growslice_fits (by omega) hbytes)
      rw [hr] at hrun
      injection hrun with hv _
      subst hv
      intro g' hg'
      cases hg'
      exact .inr (Nat.le_refl _)
theorem wpList_append_one {P : Program} {w : World} {ops : Array Oper} {rest : List Oper} {o : Oper} {a : Act} {Q : Exit → Act → World → Prop} (hgd : o.guard = none) (s x : Operand) (t : TypeId)
    (ho : o.op = .call { callee := .builtin .append, args := #[s, x], argTypes := #[t, t] })
    (base : Nat) (e : TypeId) (i : TypeInfo) (z : Value) (k bytes : Nat) (ht : P.underlying t = some (.slice e)) (hi : P.info? e = some i) (hz : i.zero = some z)
    (hsize : i.size = k) (hk : 0 < k) (hby : i.bytes = bytes) (hzs : z.cells.size = k) (v : Value) (n : Nat) (xs : List Value) (hs : a.eval s = v) (hown : w.ownsRow base e k v n xs)
    (ad : Addr) (c : Nat) (news : List Value) (hx : a.eval x = .slice (some ad) 1 c) (hm : news.length = k) (hsl : Sl w (some ad) (c * k) news) (h1 : ∀ u ∈ news, u.oneCell' = true)
    (h63 : n + 1 ≤ maxLen) (hbytes : (n + 1) * bytes ≤ 140737488355328) (hbase : base ≤ w.heap.size)
    (h : ∀ v' w', w'.ownsRow base e k v' (n + 1) (xs ++ news) → w.grownBy w' v.ownBlock → (∀ g', v'.ownBlock = some g' → v.ownBlock = some g' ∨ w.heap.size ≤ g') → wpList P ops Q rest (a.put o.dst v') w') : wpList P ops Q (o :: rest) a w := by
  refine wpList_plain hgd fun _ hK => ?_
  obtain ⟨v', w', hrun, h2, h3, h4⟩ := run_append_one (P := P) w base t o.type e i z k bytes ht hi hz hsize hk hby hzs v n xs hown ad c news hm hsl h1 h63 hbytes hbase
  unfold Oper.wp execOp
  simp only [ho, resolve, invoke, builtin, Sem.run_bind, Sem.run_pure, Result.andThen_ok, List.map_toArray, List.map_cons, List.map_nil, hs, hx, hrun]
  exact hK _ _ (h v' w' h2 h3 h4)
theorem step_append_one {P : Program} {w : World} {ops : Array Oper} {o : Oper} {a : Act} {K : Act → World → Prop} {Q : Exit → Act → World → Prop} {E : Prop} (dst : Option Tmp) (hdst : o.dst = dst) (hgd : Region.wanted o (yielded ops a.tmps) = true) (s x : Operand) (t : TypeId)
    (ho : o.op = .call { callee := .builtin .append, args := #[s, x], argTypes := #[t, t] })
    (base : Nat) (e : TypeId) (i : TypeInfo) (z : Value) (k bytes : Nat) (ht : P.underlying t = some (.slice e)) (hi : P.info? e = some i) (hz : i.zero = some z)
    (hsize : i.size = k) (hk : 0 < k) (hby : i.bytes = bytes) (hzs : z.cells.size = k) (v : Value) (n : Nat) (xs : List Value) (hs : a.eval s = v) (hown : w.ownsRow base e k v n xs)
    (ad : Addr) (c : Nat) (news : List Value) (hx : a.eval x = .slice (some ad) 1 c) (hm : news.length = k) (hsl : Sl w (some ad) (c * k) news) (h1 : ∀ u ∈ news, u.oneCell' = true)
    (h63 : n + 1 ≤ maxLen) (hbytes : (n + 1) * bytes ≤ 140737488355328) (hbase : base ≤ w.heap.size)
    (h : ∀ v' w', w'.ownsRow base e k v' (n + 1) (xs ++ news) → w.grownBy w' v.ownBlock → (∀ g', v'.ownBlock = some g' → v.ownBlock = some g' ∨ w.heap.size ≤ g') → K (a.put dst v') w') :
    if Region.wanted o (yielded ops a.tmps) = true then Oper.wp P o a w K Q else E := by
  subst hdst
  rw [if_pos hgd]
  obtain ⟨v', w', hrun, h2, h3, h4⟩ := run_append_one (P := P) w base t o.type e i z k bytes ht hi hz hsize hk hby hzs v n xs hown ad c news hm hsl h1 h63 hbytes hbase
  unfold Oper.wp execOp
  simp only [ho, resolve, invoke, builtin, Sem.run_bind, Sem.run_pure, Result.andThen_ok, List.map_toArray, List.map_cons, List.map_nil, hs, hx, hrun]
  exact h v' w' h2 h3 h4
/-- A token's caveats lie at lo or above, apart from block g, and from the slice B's own. -/
def Apart (lo g : Nat) (B : Option Addr) (e : Dis) : Prop := 0 < e.1.cavs.length → ∀ a, e.2.1 = some a → lo ≤ a.block ∧ a.block ≠ g ∧ ∀ p, B = some p → p.block ≠ a.block
def Low (lo : Nat) (e : Dis) : Prop := 0 < e.1.cavs.length → ∀ a, e.2.1 = some a → lo ≤ a.block
def Cvs (w : World) (e : Dis) : Prop := Sl w e.2.1 (e.2.2 * 5) (e.1.cavs.flatMap cavV)
/-- The value is a bundle that lies in w, at lo or above. -/
def BunV (lo : Nat) (b : Bun) (w : World) (v : Value) : Prop :=
  ∃ A c B d ds, v = .agg (bunV b.root A c B ds.length d).toArray ∧ toks ds = b.dis ∧ Sl w B (d * 36) (ds.flatMap disV) ∧ (∀ e ∈ (b.root, A, c) :: ds, Cvs w e ∧ Low lo e) ∧ ∀ a, B = some a → lo ≤ a.block
/-- A bundle that is being built: block g is its row; its discharges are the call's own, made since base. -/
def BunAt (w : World) (lo base g : Nat) (b : Bun) : Prop :=
  ∃ A c B d ds, toks ds = b.dis ∧ Row w g 30 (bunV b.root A c B ds.length d) ∧ w.ownsRow base 27 36 (.slice B ds.length d) ds.length (ds.flatMap disV) ∧ ∀ e ∈ (b.root, A, c) :: ds, Cvs w e ∧ Apart lo g B e
theorem Cvs.later {w w' : World} {e : Dis} {B : Nat} (h : Cvs w e) (hB : w.heap.size ≤ B) (hb : Below B w w') : Cvs w' e := Sl.later h hB hb
theorem cavs_pos {t : Tok} (h : 0 < (t.cavs.flatMap cavV).length) : 0 < t.cavs.length := by
  rw [length_cavsV] at h; omega
theorem Cvs.set {w w' : World} {e : Dis} {lo g : Nat} (h : Cvs w e) (hl : Low lo e) (hgr : w.grownBy w' (some g)) (hg : g < lo) : Cvs w' e :=
  Sl.apart h hgr (fun hx a ha => by have := hl (cavs_pos hx) a ha; omega)
theorem BunV.later {w w' : World} {lo : Nat} {b : Bun} {v : Value} (h : BunV lo b w v) (hb : Below w.heap.size w w') : BunV lo b w' v := by
  obtain ⟨A, c, B, d, ds, h1, h2, h3, h4, h5⟩ := h
  exact ⟨A, c, B, d, ds, h1, h2, h3.later (Nat.le_refl _) hb, fun e he => ⟨(h4 e he).1.later (Nat.le_refl _) hb, (h4 e he).2⟩, h5⟩
theorem BunV.set {w w' : World} {lo g : Nat} {b : Bun} {v : Value} (h : BunV lo b w v) (hgr : w.grownBy w' (some g)) (hg : g < lo) : BunV lo b w' v := by
  obtain ⟨A, c, B, d, ds, h1, h2, h3, h4, h5⟩ := h
  exact ⟨A, c, B, d, ds, h1, h2, h3.apart hgr (fun _ a ha => by have := h5 a ha; omega), fun e he => ⟨(h4 e he).1.set (h4 e he).2 hgr hg, (h4 e he).2⟩, h5⟩
theorem BunV.mono {w : World} {lo lo' : Nat} {b : Bun} {v : Value} (h : BunV lo b w v) (hl : lo' ≤ lo) : BunV lo' b w v := by
  obtain ⟨A, c, B, d, ds, h1, h2, h3, h4, h5⟩ := h
  exact ⟨A, c, B, d, ds, h1, h2, h3, fun e he => ⟨(h4 e he).1, fun hp a ha => Nat.le_trans hl ((h4 e he).2 hp a ha)⟩, fun a ha => Nat.le_trans hl (h5 a ha)⟩
/-- Such a bundle as an argument. -/
theorem BunV.parts {w : World} {lo : Nat} {b : Bun} {v : Value} (h : BunV lo b w v) : ∃ A c B d ds, v = .agg (bunV b.root A c B ds.length d).toArray ∧ b = bunOf b.root ds ∧ Sl w A (c * 5) (b.root.cavs.flatMap cavV) ∧ Bs w B d ds := by
  obtain ⟨A, c, B, d, ds, h1, h2, h3, h4, h5⟩ := h
  exact ⟨A, c, B, d, ds, h1, by cases b; simp only at h2; rw [← h2], (h4 _ List.mem_cons_self).1, h3, fun e he => (h4 e (List.mem_cons_of_mem _ he)).1⟩
theorem BunV.zero (lo : Nat) (w : World) : BunV lo zeroB w (.agg (bunV zeroK none 0 none 0 0).toArray) :=
  ⟨none, 0, none, 0, [], rfl, rfl, ⟨.inl rfl, Nat.le_refl _, fun _ => rfl⟩, fun e he => by rw [List.mem_singleton.1 he]; exact ⟨⟨.inl rfl, Nat.le_refl _, fun _ => rfl⟩, fun h => by cases h⟩, fun a h => by cases h⟩
theorem BunAt.later {w w' : World} {lo base g : Nat} {b : Bun} (h : BunAt w lo base g b) (hb : Below w.heap.size w w') : BunAt w' lo base g b := by
  obtain ⟨A, c, B, d, ds, h1, h2, h3, h4⟩ := h
  exact ⟨A, c, B, d, ds, h1, h2.later hb h2.lt, ownk_later h3 hb (Nat.le_refl _), fun e he => ⟨(h4 e he).1.later (Nat.le_refl _) hb, (h4 e he).2⟩⟩
theorem BunAt.start {w : World} {lo base g : Nat} {t : Tok} {A : Option Addr} {c : Nat} (r : Row w g 30 (bunV t A c none 0 0)) (hs : Sl w A (c * 5) (t.cavs.flatMap cavV)) (hl : 0 < t.cavs.length → ∀ a, A = some a → lo ≤ a.block ∧ a.block ≠ g) : BunAt w lo base g ⟨t, []⟩ :=
  ⟨A, c, none, 0, [], rfl, r, World.ownsRow_nil w base _ _, fun e he => by rw [List.mem_singleton.1 he]; exact ⟨hs, fun hp a ha => ⟨(hl hp a ha).1, (hl hp a ha).2, fun p h => by cases h⟩⟩⟩
theorem bun_set (t : Tok) (ht : t.Ok) (A : Option Addr) (c : Nat) (B : Option Addr) (n d : Nat) (B' : Option Addr) (n' d' : Nat) : (bunV t A c B n d).set 36 (.slice B' n' d') = bunV t A c B' n' d' := by
  have h := length_tokV ht A c
  unfold bunV
  rw [List.set_append_right _ _ (by omega), h]; rfl
/-- Behind 'append' of one token, and the store of what came of it into the row. -/
theorem bunAt_append {w w2 : World} {lo base g : Nat} {t : Tok} {A : Option Addr} {c : Nat} {B : Option Addr} {d : Nat} {ds : List Dis} {dd : Dis} {v' : Value} (ht : t.Ok) (hg : g < base)
    (r : Row w g 30 (bunV t A c B ds.length d)) (hown : w.ownsRow base 27 36 (.slice B ds.length d) ds.length (ds.flatMap disV)) (hsl : ∀ e ∈ (t, A, c) :: ds, Cvs w e ∧ Apart lo g B e) (hdd : Cvs w dd ∧ Apart lo g B dd)
    (own : w2.ownsRow base 27 36 v' (ds.length + 1) (ds.flatMap disV ++ disV dd)) (hgr : w.grownBy w2 (Value.ownBlock (.slice B ds.length d)))
    (hnew : ∀ g', v'.ownBlock = some g' → Value.ownBlock (.slice B ds.length d) = some g' ∨ w.heap.size ≤ g') :
    BunAt (w2.setCell ⟨g, 36, none⟩ v') lo base g ⟨t, toks ds ++ [dd.1]⟩ ∧ w2.cell? ⟨g, 36, none⟩ = some (.slice B ds.length d) ∧ w2.frozen? ⟨g, 36, none⟩ = false := by
  have hglt := r.lt
  have hgne : some g ≠ Value.ownBlock (.slice B ds.length d) := fun e => by
    have := (hown.lt g e.symm).1
    omega
  have r2 : Row w2 g 30 (bunV t A c B ds.length d) := by
    unfold Row; rw [hgr.block g hglt hgne]; exact r
  have hlb := length_bunV ht A c B ds.length d
  refine ⟨?_, by rw [r2.cell]; exact bunV_dis ht A c B ds.length d, r2.free 36⟩
  have hvs := own
  obtain ⟨B', d', rfl, _, _⟩ := Sl.of_ownk hvs
  have hall : ∀ e ∈ (t, A, c) :: (ds ++ [dd]), Cvs w e ∧ Apart lo g B e := by
    intro e he
    rcases List.mem_cons.1 he with rfl | he
    · exact hsl _ List.mem_cons_self
    · rcases List.mem_append.1 he with he | he
      · exact hsl _ (List.mem_cons_of_mem _ he)
      · rw [List.mem_singleton.1 he]; exact hdd
  have hlen : (ds ++ [dd]).length = ds.length + 1 := by rw [List.length_append]; rfl
  refine ⟨A, c, B', d', ds ++ [dd], by rw [toks_append]; rfl, ?_, ?_, fun e he => ?_⟩
  · have h := r2.set 36 (.slice B' (ds.length + 1) d')
    rw [bun_set t ht] at h
    rw [hlen]; exact h
  · rw [hlen, List.flatMap_append, show ([dd] : List Dis).flatMap disV = disV dd from by simp]
    exact ownk_grown own (grown_setCell w2 g 36 _) hg
  · obtain ⟨h1, h2⟩ := hall e he
    refine ⟨?_, fun hp a ha => ⟨(h2 hp a ha).1, (h2 hp a ha).2.1, fun p hpB => ?_⟩⟩
    · have h3 : Cvs w2 e := by
        unfold Cvs at h1 ⊢
        cases B with
        | none => exact h1.apart (g := w2.heap.size) ⟨hgr.os, hgr.tape, hgr.output, hgr.size, fun k hk _ => hgr.block k hk (fun e => by cases e)⟩ (fun hx a ha => by have := h1.block_lt hx ha; have := hgr.size; omega)
        | some p => exact h1.apart hgr (fun hx a ha => fun e => (h2 (cavs_pos hx) a ha).2.2 p rfl e.symm)
      exact Sl.apart h3 (grown_setCell w2 g 36 _) (fun hx a ha => (h2 (cavs_pos hx) a ha).2.1)
    · rcases hnew p.block (by rw [hpB]; rfl) with h | h
      · cases B with
        | none => cases h
        | some q =>
          have hq : q.block = p.block := Option.some.inj h
          rw [← hq]; exact (h2 hp a ha).2.2 q rfl
      · have hx : 0 < (e.1.cavs.flatMap cavV).length := by rw [length_cavsV]; omega
        have := Sl.block_lt h1 hx ha
        omega
theorem BunAt.bunV {w : World} {lo base g : Nat} {b : Bun} (h : BunAt w lo base g b) (hb : b.Ok) (hlo : lo ≤ base) : ∃ V, Row w g 30 V ∧ V.length = 37 ∧ (∀ v ∈ V, v.oneCell' = true) ∧ BunV lo b w (.agg V.toArray) := by
  obtain ⟨A, c, B, d, ds, h1, h2, h3, h4⟩ := h
  have hfr := ownk_fresh h3
  obtain ⟨_, _, hve, _, hsl⟩ := Sl.of_ownk h3
  injection hve with e1 e2 e3
  subst e1 e3
  exact ⟨_, h2, length_bunV hb.root A c B ds.length d, bunV_one _ _ _ _ _ _, A, c, B, d, ds, rfl, h1, hsl, fun e he => ⟨(h4 e he).1, fun hp a ha => ((h4 e he).2 hp a ha).1⟩, fun a ha => Nat.le_trans hlo (hfr a ha)⟩
theorem infoTok : (Try.prog.info? 27).map (fun i => (i.zero, i.size, i.bytes)) = some (some (.agg (tokV zeroK none 0).toArray), 36, 88) := by kernel_rfl
theorem info_tok : ∃ i, Try.prog.info? 27 = some i ∧ i.zero = some (.agg (tokV zeroK none 0).toArray) ∧ i.size = 36 ∧ i.bytes = 88 := by
  have h := infoTok
  cases hq : Try.prog.info? 27 with
  | none => rw [hq] at h; cases h
  | some i =>
    rw [hq] at h
    simp only [Option.map_some, Option.some.injEq, Prod.mk.injEq] at h
    exact ⟨i, rfl, h.1, h.2.1, h.2.2⟩
theorem set_zip : ∀ (V : List Value) (k : Nat) (Z : List Value), k + V.length ≤ Z.length → (V.zipIdx k).foldl (fun (cs : Array Value) x => cs.setIfInBounds x.2 x.1) Z.toArray = (Z.take k ++ V ++ Z.drop (k + V.length)).toArray
  | [], k, Z, _ => by simp
  | v :: V, k, Z, h => by
    rw [List.length_cons] at h
    rw [List.zipIdx_cons, List.foldl_cons]
    show (V.zipIdx (k + 1)).foldl _ (Z.toArray.setIfInBounds k v) = _
    have e : Z.toArray.setIfInBounds k v = (Z.set k v).toArray := by simp
    rw [e, set_zip V (k + 1) (Z.set k v) (by rw [List.length_set]; omega)]
    congr 1
    rw [List.length_cons, List.drop_set_of_lt (by omega), show k + 1 + V.length = k + (V.length + 1) by omega]
    have h2 : (Z.set k v).take (k + 1) = Z.take k ++ [v] := by
      rw [List.take_add_one, List.take_set_of_le (Nat.le_refl k), List.getElem?_set_self (by omega)]; rfl
    rw [h2, List.append_assoc, List.append_assoc, List.append_assoc]; rfl
set_option maxRecDepth 20000 in
set_option maxHeartbeats 2000000 in
theorem build_bun (V : List Value) (h : V.length = 36) (w : World) : (Instr.build 30 #[(0, .agg V.toArray)]).run Try.prog w = .ok (.agg (V ++ [Value.slice none 0 0]).toArray) w := by
  have hz := set_zip V 0 [Value.int .u64 0, .string { data := #[] }, .slice none 0 0, .bool false, .int .u8 0, .int .u8 0, .int .u8 0, .int .u8 0, .int .u8 0, .int .u8 0, .int .u8 0, .int .u8 0, .int .u8 0, .int .u8 0, .int .u8 0, .int .u8 0, .int .u8 0, .int .u8 0, .int .u8 0, .int .u8 0, .int .u8 0, .int .u8 0, .int .u8 0, .int .u8 0, .int .u8 0, .int .u8 0, .int .u8 0, .int .u8 0, .int .u8 0, .int .u8 0, .int .u8 0, .int .u8 0, .int .u8 0, .int .u8 0, .int .u8 0, .int .u8 0, .slice none 0 0] (by rw [h]; decide)
  rw [h] at hz
  go_simp
set_option maxRecDepth 20000 in
set_option maxHeartbeats 2000000 in
theorem build_one (V : List Value) (h : V.length = 36) (w : World) : (Instr.buildSlice 28 1 #[(0, .agg V.toArray)]).run Try.prog w = .ok (.slice (some ⟨w.heap.size, 0, none⟩) 1 1) (w.alloc (.cells V.toArray 27)) := by
  have hz := set_zip V 0 [Value.int .u64 0, .string { data := #[] }, .slice none 0 0, .bool false, .int .u8 0, .int .u8 0, .int .u8 0, .int .u8 0, .int .u8 0, .int .u8 0, .int .u8 0, .int .u8 0, .int .u8 0, .int .u8 0, .int .u8 0, .int .u8 0, .int .u8 0, .int .u8 0, .int .u8 0, .int .u8 0, .int .u8 0, .int .u8 0, .int .u8 0, .int .u8 0, .int .u8 0, .int .u8 0, .int .u8 0, .int .u8 0, .int .u8 0, .int .u8 0, .int .u8 0, .int .u8 0, .int .u8 0, .int .u8 0, .int .u8 0, .int .u8 0] (by rw [h]; decide)
  rw [h] at hz
  simp only [List.take_zero, List.nil_append] at hz
  have hd : ([Value.int .u64 0, .string { data := #[] }, .slice none 0 0, .bool false, .int .u8 0, .int .u8 0, .int .u8 0, .int .u8 0, .int .u8 0, .int .u8 0, .int .u8 0, .int .u8 0, .int .u8 0, .int .u8 0, .int .u8 0, .int .u8 0, .int .u8 0, .int .u8 0, .int .u8 0, .int .u8 0, .int .u8 0, .int .u8 0, .int .u8 0, .int .u8 0, .int .u8 0, .int .u8 0, .int .u8 0, .int .u8 0, .int .u8 0, .int .u8 0, .int .u8 0, .int .u8 0, .int .u8 0, .int .u8 0, .int .u8 0, .int .u8 0] : List Value).drop (0 + 36) = [] := rfl
  rw [hd, List.append_nil] at hz
  go_simp
theorem wpList_build1 {P : Program} {w : World} {ops : Array Oper} {rest : List Oper} {o : Oper} {a : Act} {Q : Exit → Act → World → Prop} (hgd : o.guard = none) (ty : TypeId) (k : Nat) (x : Operand) (ho : o.op = .build ty #[(k, x)]) (v0 v : Value) (hx : a.eval x = v0)
    (hv : (Instr.build ty #[(k, v0)]).run P w = .ok v w) (h : wpList P ops Q rest (a.put o.dst v) w) : wpList P ops Q (o :: rest) a w := by
  refine wpList_plain hgd fun _ hK => ?_
  unfold Oper.wp execOp
  simp only [ho, Sem.run_bind, Sem.run_pure, Result.andThen_ok, List.map_toArray, List.map_cons, List.map_nil, hx, hv]
  exact hK _ _ h
theorem wpList_slice1 {P : Program} {w w' : World} {ops : Array Oper} {rest : List Oper} {o : Oper} {a : Act} {Q : Exit → Act → World → Prop} (hgd : o.guard = none) (ty : TypeId) (n k : Nat) (x : Operand) (ho : o.op = .buildSlice ty n #[(k, x)]) (v0 v : Value) (hx : a.eval x = v0)
    (hv : (Instr.buildSlice ty n #[(k, v0)]).run P w = .ok v w') (h : wpList P ops Q rest (a.put o.dst v) w') : wpList P ops Q (o :: rest) a w := by
  refine wpList_plain hgd fun _ hK => ?_
  unfold Oper.wp execOp
  simp only [ho, Sem.run_bind, Sem.run_pure, Result.andThen_ok, List.map_toArray, List.map_cons, List.map_nil, hx, hv]
  exact hK _ _ h
theorem step_slice1 {P : Program} {w w' : World} {ops : Array Oper} {o : Oper} {a : Act} {K : Act → World → Prop} {Q : Exit → Act → World → Prop} {E : Prop} (dst : Option Tmp) (hdst : o.dst = dst) (hgd : Region.wanted o (yielded ops a.tmps) = true) (ty : TypeId) (n k : Nat) (x : Operand) (ho : o.op = .buildSlice ty n #[(k, x)]) (v0 v : Value) (hx : a.eval x = v0)
    (hv : (Instr.buildSlice ty n #[(k, v0)]).run P w = .ok v w') (h : K (a.put dst v) w') : if Region.wanted o (yielded ops a.tmps) = true then Oper.wp P o a w K Q else E := by
  subst hdst
  rw [if_pos hgd]
  unfold Oper.wp execOp
  simp only [ho, Sem.run_bind, Sem.run_pure, Result.andThen_ok, List.map_toArray, List.map_cons, List.map_nil, hx, hv]
  exact h
theorem tok_sl (w : World) (V : List Value) : Sl (w.alloc (.cells V.toArray 27)) (some ⟨w.heap.size, 0, none⟩) V.length V :=
  ⟨Rd.block (Go.heap_alloc_new w _), Nat.le_refl _, fun h => by cases h⟩
theorem cut_fd (A : Option Addr) (c : Nat) (f : Fd) (fs : List Fd) (w0 : World) (h : Sl w0 A (c * 2) ((f :: fs).flatMap fdV)) :
    ∃ b o A', A = some ⟨b, o, none⟩ ∧ (∀ w, (Instr.sliceAt 57 (.slice (some ⟨b, o, none⟩) (fs.length + 1) c) (some (.int .i64 1)) none none).run Try.prog w = .ok (.slice A' fs.length (c - 1)) w) ∧
      Sl w0 A' ((c - 1) * 2) (fs.flatMap fdV) ∧ (∀ a, A' = some a → a.block = b) ∧ b < w0.heap.size := by
  have hr := h.room
  rw [length_fdsV, List.length_cons] at hr
  obtain ⟨b, o, rfl, hlt, _⟩ := h.rd.get (i := 0) (by rw [length_fdsV, List.length_cons]; omega)
  have hcut := h.cut (k := 2) (by rw [length_fdsV, List.length_cons]; omega)
  have e2 : ((f :: fs).flatMap fdV).drop 2 = fs.flatMap fdV := by rw [List.flatMap_cons]; rfl
  rw [e2] at hcut
  refine ⟨b, o, some (if c = 1 then ⟨b, o, none⟩ else ⟨b, o + 2, none⟩), rfl, fun w => ?_, ?_, fun a ha => ?_, hlt⟩
  · have h3 : (fs.length : Int) + 1 ≤ (c : Int) := by omega
    clear h hr hcut e2 hlt
    generalize fs.length = n at *
    have h1 : ((n : Int) + 1 - 1).toNat = n := by omega
    go_simp
    rw [if_pos (by omega)]
    split <;> rfl
  · by_cases hc : c = 1
    · subst hc
      have h0 : fs = [] := List.eq_nil_of_length_eq_zero (by omega)
      subst h0
      exact ⟨.inl rfl, Nat.le_refl _, fun h => by cases h⟩
    · rw [if_neg hc]
      have : c * 2 - 2 = (c - 1) * 2 := by omega
      rw [← this]; exact hcut
  · split at ha <;> (cases ha; rfl)
end Go.Proofs.Ythiebbhooigogaa
