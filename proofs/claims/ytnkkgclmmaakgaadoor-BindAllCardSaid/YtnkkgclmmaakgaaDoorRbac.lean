/- Texts of this claim, one behind the other. -/
import Derived.Test.YtnkkgclmmaakgaaDoorRbab
import Derived.Test.YtnkkgclmmaakgaaDoorRbaa
import Derived.SliceStrings
import Derived.Deep.Slices
import Derived.ChangeSame
import Derived.ChangeKeysEq
import Derived.Laws.StructEq
/- LAYER 10: the law's Great. -/
namespace Go.Proofs.YtnkkgclmmaakgaaDoor
set_option maxRecDepth 100000
open Go Go.RowKit

def capC (c : Cav) : Nat := c.text.length + c.id.length + c.vault.length + 1
/-- How much there is of a token. -/
def capT (t : Tok) : Nat := t.id.length + (t.cavs.map capC).sum
structure Tok.Fit (t : Tok) : Prop where
  id : t.id.length ≤ 140737488351232
  many : t.cavs.length ≤ 9223372036854775807
  cav : ∀ c ∈ t.cavs, c.text.length ≤ 140737488351232 ∧ c.id.length ≤ 140737488351232 ∧ c.vault.length ≤ 140737488351232
theorem capT_succ (cs : List Cav) (k : Nat) (c : Cav) (h : cs[k]? = some c) : ((cs.take (k + 1)).map capC).sum = ((cs.take k).map capC).sum + capC c := by
  rw [List.take_add_one, List.map_append, List.sum_append, h]; simp
theorem capT_le (cs : List Cav) (k : Nat) : ((cs.take k).map capC).sum ≤ (cs.map capC).sum := by
  have e : cs = cs.take k ++ cs.drop k := (List.take_append_drop k cs).symm
  conv => rhs; rw [e]
  rw [List.map_append, List.sum_append]; omega
theorem capT_len : ∀ cs : List Cav, cs.length ≤ (cs.map capC).sum
  | [] => Nat.le_refl _
  | c :: cs => by
    have := capT_len cs
    have h : 1 ≤ capC c := by unfold capC; omega
    rw [List.map_cons, List.sum_cons, List.length_cons]; omega
set_option maxRecDepth 100000 in
set_option maxHeartbeats 2000000 in
theorem rgreatT_any (t : Tok) (hf : t.Fit) (A : Option Addr) (c : Nat) (w : World) (hs : Sl w A (c * 5) (t.cavs.flatMap cavV)) :
    Calls Tryd.prog 7 #[.agg (tokV t A c).toArray] w fun e w' => e = .returned (.int .i64 (if 10000 < capT t then 1 else 0)) ∧ Below w.heap.size w w' := by
  have hb1 : Below w.heap.size w (w.alloc (.cells (tokV t A c).toArray 27)) := (Below.refl _ _).alloc (Nat.le_refl _) _
  have hr : Row (w.alloc (.cells (tokV t A c).toArray 27)) w.heap.size 27 (tokV t A c) := Row.new w 27 _
  have hg := tokV_get t A c
  obtain ⟨V, hV⟩ : ∃ V, V = tokV t A c := ⟨_, rfl⟩
  rw [← hV] at hb1 hr hg ⊢
  clear hV
  have hc1 : (w.alloc (.cells V.toArray 27)).cell? ⟨w.heap.size, 1, none⟩ = some (.string (bstr t.id)) := by rw [hr.cell]; exact hg.2.1
  have hc2 : (w.alloc (.cells V.toArray 27)).cell? ⟨w.heap.size, 2, none⟩ = some (.slice A t.cavs.length c) := by rw [hr.cell]; exact hg.2.2.1
  have hz := size_bstr t.id
  obtain ⟨R, hR⟩ : ∃ R : Int, R = if 10000 < capT t then 1 else 0 := ⟨_, rfl⟩
  rw [← hR]
  have HR := Lib.hid hR
  clear hR
  have hT := Lib.hid (show capT t = t.id.length + (t.cavs.map capC).sum from rfl)
  obtain ⟨cs, hcs⟩ : ∃ cs, cs = t.cavs := ⟨_, rfl⟩
  have hid := hf.id
  have hmany := hf.many
  have hcv := hf.cav
  rw [← hcs] at hs hT hc2 hmany hcv
  have hid2 : (t.id.length : Int) ≤ 140737488351232 := by omega
  clear hg hr hcs hf
  generalize t.id.length = n0 at *
  go_enter Tryd.func7, Tryd.ntmps7
  go_wp2_with fail
  generalize w.alloc (.cells V.toArray 27) = w1 at *
  clear hc1 hc2
  go_loopw [3, 12] (fun v i wr => ∃ k : Nat, k ≤ cs.length ∧ i = .int .i64 k ∧ v = .int .i64 ((n0 + ((cs.take k).map capC).sum : Nat) : Int) ∧ (k = 0 ∨ n0 + ((cs.take k).map capC).sum ≤ 10000) ∧ Below w.heap.size w wr) (fun _ i _ => cs.length - (intOf i).toNat)
  case atStart => exact ⟨0, by omega, rfl, by simp, .inl rfl, hb1⟩
  case round =>
    clear hb1
    obtain ⟨k, hk, rfl, rfl, hsm, hb⟩ := hrel
    by_cases hlt : k < cs.length
    · obtain ⟨cv, hcq⟩ : ∃ cv, cs[k]? = some cv := ⟨_, List.getElem?_eq_getElem hlt⟩
      obtain ⟨b, o, rfl, hb0, hr0⟩ := hs.rd.get (i := 0) (by rw [length_cavsV]; omega)
      clear hb0 hr0
      have hix := index_cav (some ⟨b, o, none⟩) b o cs.length c k rfl hlt
      have hrg := (hs.later (Nat.le_refl _) hb).thing (k := 5) (fun _ _ => rfl) k cv hcq
      have hsu := capT_succ cs k cv hcq
      have hle := capT_le cs (k + 1)
      have hbd := hcv cv (List.mem_of_getElem? hcq)
      have hsm2 : n0 + ((cs.take k).map capC).sum ≤ 140737488361232 := by
        rcases hsm with rfl | h
        · simp; omega
        · omega
      have hzf := Lib.hid (show (Tryd.prog.info? 50).map (·.size) = some (cavV cv).length from size_cav)
      have hzf2 := Lib.hid (show (Tryd.prog.info? 50).map (·.size) = some (cavV cv).toArray.size from size_cav)
      have hof := Lib.hid (show (cavV cv).toArray.all (·.oneCell') = true from all_one (fun v hv => cavV_one [cv] v (by simpa using hv)))
      obtain ⟨V2, hV2q⟩ : ∃ V, V = cavV cv := ⟨_, rfl⟩
      rw [← hV2q] at hrg hzf hzf2 hof
      have hV2 := Lib.hid (show (5 : Nat) = V2.toArray.size by rw [hV2q]; rfl)
      have HV2 := Lib.hid hV2q
      have z1 := size_bstr cv.text
      have z2 := size_bstr cv.id
      have z3 := size_bstr cv.vault
      rw [show capC cv = cv.text.length + cv.id.length + cv.vault.length + 1 from rfl] at hsu
      obtain ⟨hbd1, hbd2, hbd3⟩ := hbd
      generalize ((cs.take k).map capC).sum = s0 at *
      obtain ⟨s1, hs1q⟩ : ∃ s1, s1 = ((cs.take (k + 1)).map capC).sum := ⟨_, rfl⟩
      rw [← hs1q] at hsu hle
      have HS1Q := Lib.hid hs1q
      clear hs1q
      clear hV2q hcq hsm hcv
      go_wp2_with (first
        | (with_reducible refine wpList_load_mid rfl 50 (.tmp 14) rfl b (o + k * 5) rfl V2 _ hrg Tryd.underlying50 rfl hzf.out ?_)
        | (with_reducible refine wpList_store_row rfl 50 (.tmp 5) (.tmp 15) rfl wr.heap.size V2.toArray rfl rfl 50 _ (heap_alloc_new wr _) hzf2.out (Eq.trans (by kernel_rfl) hV2.out) hof.out ?_; refine Hid.out ?_))
      refine Lib.hid ?_
      generalize hw5 : World.setRow _ _ _ = w5
      obtain ⟨r5, hb5⟩ := row_new_set (xs := V2) hw5
      rw [HV2.out] at r5
      have d1 : w5.cell? ⟨wr.heap.size, 1, none⟩ = some (.string (bstr cv.text)) := by rw [r5.cell]; rfl
      have d3 : w5.cell? ⟨wr.heap.size, 3, none⟩ = some (.string (bstr cv.id)) := by rw [r5.cell]; rfl
      have d4 : w5.cell? ⟨wr.heap.size, 4, none⟩ = some (.string (bstr cv.vault)) := by rw [r5.cell]; rfl
      have hbw5 := hb.trans (hb5.mono hb.size)
      have HS1 := Lib.hid hsu
      clear hw5 r5 hb5 hrg hix
      generalize cv.text.length = q1 at *
      generalize cv.id.length = q2 at *
      generalize cv.vault.length = q3 at *
      obtain ⟨N, hN⟩ : ∃ N, N = n0 + s1 := ⟨_, rfl⟩
      have hsum : (n0 : Int) + (s0 : Int) + ((q1 : Int) + (q2 : Int) + (q3 : Int) + 1) = (N : Int) := by rw [hN, hsu]; omega
      have HN := Lib.hid hN
      have hNb : (N : Int) ≤ 9223372036854775807 := by omega
      have hq1 : (q1 : Int) ≤ 140737488351232 := by omega
      have hq2 : (q2 : Int) ≤ 140737488351232 := by omega
      have hq3 : (q3 : Int) ≤ 140737488351232 := by omega
      have hs0 : (n0 : Int) + (s0 : Int) ≤ 140737488361232 := by omega
      by_cases hbig : 10000 < N
      · have hbi : (10000 : Int) < (N : Int) := by omega
        clear hsu hN
        go_wp2
        go_ret
        refine ⟨?_, hbw5⟩
        have h1 := hT.out
        have h2 := HN.out
        rw [HR.out, if_pos (by omega)]; rfl
      · have hbi : (N : Int) ≤ 10000 := by omega
        clear hsu hN
        go_wp2_with fail
        go_roundw
        case rel => exact ⟨k + 1, by omega, by go_num, by rw [HN.out, HS1Q.out], .inr (by rw [← HS1Q.out, ← HN.out]; omega), hbw5⟩
        case measure => simp [intOf]; omega
    · obtain rfl : k = cs.length := by omega
      rw [List.take_length] at hsm ⊢
      have hT' : capT t = n0 + (cs.map capC).sum := hT.out
      generalize (cs.map capC).sum = s0 at *
      by_cases hbig : 10000 < n0 + s0
      · have hbi : (10000 : Int) < ((n0 + s0 : Nat) : Int) := by omega
        have HF := Lib.hid (HR.out.trans (if_pos (by rw [hT']; exact hbig)))
        clear hs hT' hT hsm hbig
        generalize n0 + s0 = N at *
        generalize cs.length = n at *
        go_wp2
        go_ret
        exact ⟨by rw [HF.out]; rfl, hb⟩
      · have hbi : ((n0 + s0 : Nat) : Int) ≤ 10000 := by omega
        have HF := Lib.hid (HR.out.trans (if_neg (by rw [hT']; exact hbig)))
        clear hs hT' hT hsm hbig
        generalize n0 + s0 = N at *
        generalize cs.length = n at *
        go_wp2
        go_ret
        exact ⟨by rw [HF.out]; rfl, hb⟩
end Go.Proofs.YtnkkgclmmaakgaaDoor

/- SLICES OF STRINGS on memory. No Go function is spoken of here. -/
namespace Go.Proofs.YtnkkgclmmaakgaaDoor
set_option maxRecDepth 100000
open Go Go.RowKit

def strsV (ss : List (List UInt8)) : List Value := ss.map fun l => .string (bstr l)
theorem length_strsV (ss : List (List UInt8)) : (strsV ss).length = ss.length := by unfold strsV; simp
theorem get_strsV (ss : List (List UInt8)) (i : Nat) (h : i < ss.length) : (strsV ss)[i]? = some (.string (bstr (ss.getD i []))) := by unfold strsV; simp [h]
theorem strsV_one (ss : List (List UInt8)) : ∀ v ∈ strsV ss, v.oneCell' = true := by
  intro v hv
  obtain ⟨_, _, rfl⟩ := List.mem_map.1 hv
  rfl
theorem index_strs (A : Option Addr) (b o n c k : Nat) (hA : A = some ⟨b, o, none⟩) (hk : k < n) (w : World) :
    (Instr.indexAt 55 (.slice A n c) (.int .i64 k)).run Tryd.prog w = .ok (.pointer (some ⟨b, o + k, none⟩)) w := by
  subst hA
  have h : (k : Int) < (n : Int) := by omega
  go_simp
theorem infoStr : (Tryd.prog.info? 9).map (fun i => (i.zero, i.size, i.bytes)) = some (some (.string ByteArray.empty), 1, 16) := by kernel_rfl
/-- How many bytes, and items, they are. -/
def sumS (ss : List (List UInt8)) : Nat := (ss.map fun l => l.length + 1).sum
theorem sumS_le (ss : List (List UInt8)) (k : Nat) : sumS (ss.take k) ≤ sumS ss := by
  have h : sumS ss = sumS (ss.take k) + sumS (ss.drop k) := by
    have e : ss = ss.take k ++ ss.drop k := (List.take_append_drop k ss).symm
    conv => lhs; rw [e]
    unfold sumS
    rw [List.map_append, List.sum_append]
  omega
theorem sumS_len (ss : List (List UInt8)) : ss.length ≤ sumS ss := by
  unfold sumS
  induction ss with
  | nil => simp
  | cons l ss ih => simp only [List.map_cons, List.sum_cons, List.length_cons]; omega
theorem sumS_mem (ss : List (List UInt8)) (l : List UInt8) (h : l ∈ ss) : l.length + 1 ≤ sumS ss := by
  unfold sumS
  induction ss with
  | nil => cases h
  | cons q ss ih =>
    simp only [List.map_cons, List.sum_cons]
    rcases List.mem_cons.1 h with rfl | h
    · omega
    · have := ih h; omega
/-- One string of a slice of strings. -/
theorem strs_cell {w : World} {b o c : Nat} {ss : List (List UInt8)} (h : Sl w (some ⟨b, o, none⟩) c (strsV ss)) (k : Nat) (hk : k < ss.length) : w.cell? ⟨b, o + k, none⟩ = some (.string (bstr (ss.getD k []))) := by
  obtain ⟨b', o', hA, _, hc⟩ := h.rd.get (i := k) (by rw [length_strsV]; exact hk)
  cases hA
  rw [hc, get_strsV _ _ hk]
end Go.Proofs.YtnkkgclmmaakgaaDoor

/- AN ARGUMENT THAT IS A SLICE OF STRINGS, opened, its strings' sizes out of the row's reach. -/
namespace Go.Proofs.YtnkkgclmmaakgaaDoor
set_option maxRecDepth 100000
open Go.ChangeShapes Go.WideShapes Go.ChangeAt Go.RowKit

theorem bstr_data (s : ByteArray) : bstr s.data.toList = s := by obtain ⟨⟨l⟩⟩ := s; rfl
theorem cells_str : Tryd.prog.cellsOf 9 = 1 := by kernel_rfl
end Go.Proofs.YtnkkgclmmaakgaaDoor

/- AN ARGUMENT THAT IS A TOKEN (a number, a string, a slice of caveats, a truth value, 32 bytes), opened, its strings' sizes out of the row's reach. -/
namespace Go.Proofs.YtnkkgclmmaakgaaDoor
set_option maxRecDepth 100000
open Go.ChangeShapes Go.WideShapes Go.ChangeAt Go.RowKit

instance : Inhabited Cav := ⟨⟨false, [], 0, [], []⟩⟩
theorem cells_cav : Tryd.prog.cellsOf 50 = 5 := by kernel_rfl
theorem cells_tok : Tryd.prog.cellsOf 27 = 36 := by kernel_rfl
theorem cells_tag : Tryd.prog.cellsOf 23 = 32 := by kernel_rfl
theorem cells_u8 : Tryd.prog.cellsOf 5 = 1 := by kernel_rfl
theorem cells_u64 : Tryd.prog.cellsOf 24 = 1 := by kernel_rfl
theorem cells_bool : Tryd.prog.cellsOf 4 = 1 := by kernel_rfl
theorem cells_cavs : Tryd.prog.cellsOf 25 = 1 := by kernel_rfl
section
variable {H : Type} {enc : TypeId × Value → H} {W : World} {held : Bool} {b1 : Nat}
theorem weights_each_all {P : Program} {e : TypeId} {ds : List (DataW H)} {d : DataW H} (h : d ∈ ds) : ∀ n ∈ d.weights P e, n ∈ DataW.weightsAll P e ds := by
  induction ds with
  | nil => cases h
  | cons q ds ih =>
    intro n hn
    show n ∈ DataW.weights P e q ++ DataW.weightsAll P e ds
    rcases List.mem_cons.1 h with rfl | h
    · exact List.mem_append_left _ hn
    · exact List.mem_append_right _ (ih h n hn)
theorem len5 {α : Type} (l : List α) (h : l.length = 5) : ∃ a b c d e, l = [a, b, c, d, e] := by
  match l, h with
  | [a, b, c, d, e], _ => exact ⟨a, b, c, d, e, rfl⟩
/-- Five cells that are a caveat. -/
theorem open_cav {n : Nat} {cs : List Value} {x : DataW H × List MemPlace} (h : DataW.trod enc Tryd.prog W b1 (fun _ => true) held n 50 cs = some x) :
    ∃ cv : Cav, cs = cavV cv ∧ cv.party < 18446744073709551616 ∧ cv.text.length ∈ x.1.weights Tryd.prog 50 ∧ cv.id.length ∈ x.1.weights Tryd.prog 50 ∧ cv.vault.length ∈ x.1.weights Tryd.prog 50 := by
  obtain ⟨xs, m, _, rfl, hcl, hxl, hf⟩ := DataW.trod_struct Tryd.underlying50 h
  rw [cells_cav] at hcl
  obtain ⟨v0, v1, v2, v3, v4, rfl⟩ := len5 cs hcl
  obtain ⟨y0, y1, y2, y3, y4, rfl⟩ := len5 xs hxl
  have g0 : DataW.trod enc Tryd.prog W b1 (fun _ => true) held m 4 (([v0, v1, v2, v3, v4].drop 0).take (Tryd.prog.cellsOf 4)) = some y0 := hf 0 _ rfl
  rw [cells_bool] at g0
  have g1 : DataW.trod enc Tryd.prog W b1 (fun _ => true) held m 9 (([v0, v1, v2, v3, v4].drop 1).take (Tryd.prog.cellsOf 9)) = some y1 := hf 1 _ rfl
  rw [cells_str] at g1
  have g2 : DataW.trod enc Tryd.prog W b1 (fun _ => true) held m 24 (([v0, v1, v2, v3, v4].drop 2).take (Tryd.prog.cellsOf 24)) = some y2 := hf 2 _ rfl
  rw [cells_u64] at g2
  have g3 : DataW.trod enc Tryd.prog W b1 (fun _ => true) held m 9 (([v0, v1, v2, v3, v4].drop 3).take (Tryd.prog.cellsOf 9)) = some y3 := hf 3 _ rfl
  rw [cells_str] at g3
  have g4 : DataW.trod enc Tryd.prog W b1 (fun _ => true) held m 9 (([v0, v1, v2, v3, v4].drop 4).take (Tryd.prog.cellsOf 9)) = some y4 := hf 4 _ rfl
  rw [cells_str] at g4
  clear hf hcl hxl h
  obtain ⟨b, e0, _⟩ := DataW.trod_bool Tryd.underlying4 g0
  obtain ⟨s1, e1, q1, _⟩ := DataW.trod_string Tryd.underlying9 g1
  obtain ⟨z, e2, _, hwf⟩ := DataW.trod_int Tryd.underlying24 g2
  obtain ⟨s3, e3, q3, _⟩ := DataW.trod_string Tryd.underlying9 g3
  obtain ⟨s4, e4, q4, _⟩ := DataW.trod_string Tryd.underlying9 g4
  have hb := bounds_u64 hwf
  simp at e0 e1 e2 e3 e4
  subst e0 e1 e2 e3 e4 q1 q3 q4
  refine ⟨⟨b, s1.data.toList, z.toNat, s3.data.toList, s4.data.toList⟩, ?_, ?_, ?_, ?_, ?_⟩
  · unfold cavV
    dsimp only
    rw [bstr_data, bstr_data, bstr_data, show ((z.toNat : Nat) : Int) = z by omega]
  · show z.toNat < _; omega
  all_goals
    simp only [DataW.weights, Tryd.underlying50, List.map_cons, List.map_nil, DataW.weightsEach, List.mem_append, List.mem_singleton]
    simp
theorem cut5 {α : Type} (l : List α) : l = (l.drop 0).take 1 ++ ((l.drop 1).take 1 ++ ((l.drop 2).take 1 ++ ((l.drop 3).take 1 ++ l.drop 4))) := by
  match l with
  | [] => rfl
  | [_] => rfl
  | [_, _] => rfl
  | [_, _, _] => rfl
  | _ :: _ :: _ :: _ :: _ => rfl
/-- One cell that is a slice of caveats. -/
theorem open_cavs {n : Nat} {cs : List Value} {x : DataW H × List MemPlace} (h : DataW.trod enc Tryd.prog W b1 (fun _ => true) held n 25 cs = some x) (hsz : ∀ k ∈ x.1.weights Tryd.prog 25, k ≤ reachBytes) :
    ∃ (A : Option Addr) (c : Nat) (cvs : List Cav), cs = [.slice A cvs.length c] ∧ Sl W A (c * 5) (cvs.flatMap cavV) ∧ cvs.length ≤ 9223372036854775807 ∧ (∀ cv ∈ cvs, cv.party < 18446744073709551616) ∧
      ∀ cv ∈ cvs, cv.text.length ≤ 140737488351232 ∧ cv.id.length ≤ 140737488351232 ∧ cv.vault.length ≤ 140737488351232 := by
  rcases Deep.open_slice Tryd.underlying25 h with ⟨rfl, rfl⟩ | ⟨a, len, cap, m, k, D, Pl, rfl, _, hl, hm, hmm, rfl, hx⟩
  · exact ⟨none, 0, [], rfl, ⟨.inl rfl, Nat.le_refl _, fun _ => rfl⟩, by simp, (fun _ h => by cases h), (fun _ h => by cases h)⟩
  · have hmc : m = cap := by simpa using hmm
    unfold maxLen at hm
    have each : ∀ i, i < m → ∃ cv : Cav, (∀ j, j < 5 → W.cell? (a.add (i * 5 + j)) = (cavV cv)[j]?) ∧ cv.party < 18446744073709551616 ∧ cv.text.length ∈ (D i).weights Tryd.prog 50 ∧ cv.id.length ∈ (D i).weights Tryd.prog 50 ∧ cv.vault.length ∈ (D i).weights Tryd.prog 50 := by
      intro i hi
      obtain ⟨cs', h1, h2⟩ := hx i hi
      rw [cells_cav] at h1
      obtain ⟨cv, rfl, p1, p2, p3, p4⟩ := open_cav h2
      obtain ⟨_, _, hcell⟩ := World.cells?_some h1
      refine ⟨cv, fun j hj => ?_, p1, p2, p3, p4⟩
      have := hcell j hj
      rwa [Deep.add_add] at this
    obtain ⟨Q, hQ⟩ := Deep.choose_lt each
    have hlen : ((List.range len).map Q).length = len := by simp
    refine ⟨some a, cap, (List.range len).map Q, by rw [hlen], ⟨?_, by rw [length_cavsV, hlen]; omega, fun h => by cases h⟩, by rw [hlen]; omega, fun cv hcv => ?_, fun cv hcv => ?_⟩
    · by_cases h0 : len = 0
      · subst h0; exact .inl rfl
      · obtain ⟨b, off, spot⟩ := a
        have hc0 := (hQ 0 (by omega)).1 0 (by omega)
        have hc0 : W.cell? ((⟨b, off, spot⟩ : Addr).add (0 * 5 + 0)) = some (.bool (Q 0).third) := hc0
        have hspot : spot = none := by simpa [Addr.add] using World.cell?_spot hc0
        subst hspot
        refine .inr ⟨b, off, rfl, ?_, fun i hi => ?_⟩
        · have := World.block_lt_of_cell? W _ hc0
          rw [Addr.add_lit] at this; exact this
        · rw [length_cavsV, hlen] at hi
          have hi5 : i / 5 < len := by omega
          have hk := (hQ (i / 5) (by omega)).1 (i % 5) (by omega)
          rw [Addr.add_lit, show off + (i / 5 * 5 + i % 5) = off + i by omega] at hk
          have hfl := flat_at cavV 5 ((List.range len).map Q) (fun _ _ => rfl) (i / 5) (Q (i / 5)) (by simp [hi5]) (i % 5) (by omega)
          rw [show i / 5 * 5 + i % 5 = i by omega] at hfl
          rw [hfl]; exact hk
    · obtain ⟨i, hi, rfl⟩ := List.mem_map.1 hcv
      have hir := List.mem_range.1 hi
      exact (hQ i (by omega)).2.1
    · obtain ⟨i, hi, rfl⟩ := List.mem_map.1 hcv
      have hir := List.mem_range.1 hi
      have key : ∀ n ∈ (D i).weights Tryd.prog 50, n ≤ 140737488351232 := by
        intro n hn
        have := hsz n (by
          simp only [DataW.weights, Tryd.underlying25]
          exact List.mem_cons_of_mem _ (List.mem_append_left _ (weights_each_all (List.mem_map.2 ⟨i, hi, rfl⟩) n hn)))
        unfold reachBytes at this
        exact this
      obtain ⟨_, _, w1, w2, w3⟩ := hQ i (by omega)
      exact ⟨key _ w1, key _ w2, key _ w3⟩
/-- The cells of 32 bytes. -/
theorem open_tag {n : Nat} {cs : List Value} {x : DataW H × List MemPlace} (h : DataW.trod enc Tryd.prog W b1 (fun _ => true) held n 23 cs = some x) : ∃ l : List UInt8, l.length = 32 ∧ cs = byts l := by
  obtain ⟨xs, m, _, _, hcl, hxl, hf⟩ := DataW.trod_array Tryd.underlying23 h
  rw [cells_tag] at hcl
  have hel : ∀ i, i < cs.length → ∃ z, cs[i]? = some (.int .u8 z) ∧ (Lit.int .u8 z).wf = true := by
    intro i hi
    have h1 := hf i (by omega)
    rw [cells_u8, List.getElem?_eq_getElem (by omega)] at h1
    obtain ⟨z, hc, _, hw⟩ := DataW.trod_int Tryd.underlying5 h1
    refine ⟨z, ?_, hw⟩
    have := congrArg (·[0]?) hc
    simpa [List.getElem?_take, List.getElem?_drop] using this
  obtain ⟨zs, h1, h2, h3⟩ := ints_of_list (k := .u8) cs hel
  obtain ⟨l, q1, q2⟩ := bytes_of_ints zs (fun j hj => bounds_u8 (h3 j (by omega)))
  exact ⟨l, by omega, by rw [h2, q2]⟩
/-- 36 cells that are a token. -/
theorem open_tok {n : Nat} {cs : List Value} {x : DataW H × List MemPlace} (h : DataW.trod enc Tryd.prog W b1 (fun _ => true) held n 27 cs = some x) (hsz : ∀ k ∈ x.1.weights Tryd.prog 27, k ≤ reachBytes) :
    ∃ (t : Tok) (A : Option Addr) (c : Nat), cs = tokV t A c ∧ t.Ok ∧ t.Fit ∧ Sl W A (c * 5) (t.cavs.flatMap cavV) := by
  obtain ⟨xs, m, _, rfl, hcl, hxl, hf⟩ := DataW.trod_struct Tryd.underlying27 h
  rw [cells_tok] at hcl
  obtain ⟨y0, y1, y2, y3, y4, rfl⟩ := len5 xs hxl
  have g0 : DataW.trod enc Tryd.prog W b1 (fun _ => true) held m 24 ((cs.drop 0).take (Tryd.prog.cellsOf 24)) = some y0 := hf 0 _ rfl
  have g1 : DataW.trod enc Tryd.prog W b1 (fun _ => true) held m 9 ((cs.drop 1).take (Tryd.prog.cellsOf 9)) = some y1 := hf 1 _ rfl
  have g2 : DataW.trod enc Tryd.prog W b1 (fun _ => true) held m 25 ((cs.drop 2).take (Tryd.prog.cellsOf 25)) = some y2 := hf 2 _ rfl
  have g3 : DataW.trod enc Tryd.prog W b1 (fun _ => true) held m 4 ((cs.drop 3).take (Tryd.prog.cellsOf 4)) = some y3 := hf 3 _ rfl
  have g4 : DataW.trod enc Tryd.prog W b1 (fun _ => true) held m 23 ((cs.drop 4).take (Tryd.prog.cellsOf 23)) = some y4 := hf 4 _ rfl
  rw [cells_u64] at g0
  rw [cells_str] at g1
  rw [cells_cavs] at g2
  rw [cells_bool] at g3
  rw [cells_tag, List.take_of_length_le (by rw [List.length_drop]; omega)] at g4
  have hwe : ∀ k, (k ∈ y1.1.weights Tryd.prog 9 ∨ k ∈ y2.1.weights Tryd.prog 25) → k ≤ reachBytes := by
    intro k hk
    refine hsz k ?_
    simp only [DataW.weights, Tryd.underlying27, List.map_cons, List.map_nil, DataW.weightsEach, List.mem_append]
    rcases hk with hk | hk
    · exact .inr (.inl hk)
    · exact .inr (.inr (.inl hk))
  obtain ⟨z, e0, _, hwf⟩ := DataW.trod_int Tryd.underlying24 g0
  obtain ⟨s1, e1, q1, _⟩ := DataW.trod_string Tryd.underlying9 g1
  obtain ⟨A, c, cvs, e2, hsl, hmany, hparty, hfit⟩ := open_cavs g2 (fun k hk => hwe k (.inr hk))
  obtain ⟨b, e3, _⟩ := DataW.trod_bool Tryd.underlying4 g3
  obtain ⟨l, hl, e4⟩ := open_tag g4
  have hb := bounds_u64 hwf
  refine ⟨⟨z.toNat, s1.data.toList, cvs, b, l⟩, A, c, ?_, ⟨by show z.toNat < _; omega, hparty, hl⟩, ⟨?_, hmany, hfit⟩, hsl⟩
  · rw [cut5 cs, e0, e1, e2, e3, e4]
    unfold tokV tokH
    dsimp only
    rw [bstr_data, show ((z.toNat : Nat) : Int) = z by omega]
    rfl
  · have := hwe s1.data.toList.length (.inl (by rw [q1]; simp [DataW.weights]))
    unfold reachBytes at this
    exact this
end
def zTokD {H : Type} : DataW H := .agg [.lit (.int .u64 0), .lit (.string []), .nil, .lit (.bool false), .agg (List.replicate 32 (.lit (.int .u8 0)))]
end Go.Proofs.YtnkkgclmmaakgaaDoor

/- WORDS ON MEMORY, for slices of things of k cells. No Go function is spoken of here. -/
namespace Go.Proofs.YtnkkgclmmaakgaaDoor
set_option maxRecDepth 100000
open Go Go.RowKit

theorem ownk_grown {w w' : World} {base t k n g : Nat} {v : Value} {xs : List Value} (h : w.ownsRow base t k v n xs) (hg : w.grownBy w' (some g)) (hlt : g < base) : w'.ownsRow base t k v n xs := by
  refine ⟨h.1, ?_⟩
  rcases h.2 with hn | ⟨g', cap, cur, rfl, hbg, hcur, rest⟩
  · exact .inl hn
  · exact .inr ⟨g', cap, cur, rfl, hbg, (hg.block g' (Array.getElem?_eq_some_iff.1 hcur).1 (fun e => by have := Option.some.inj e; omega)).trans hcur, rest⟩
/-- A cell of what a slice of the call's own holds: where it lies, what it is, that it may be written. -/
theorem ownk_cell {w : World} {base t k n c : Nat} {A : Option Addr} {xs : List Value} (h : w.ownsRow base t k (.slice A n c) n xs) (i : Nat) (hi : i < xs.length) :
    ∃ g, A = some ⟨g, 0, none⟩ ∧ base ≤ g ∧ g < w.heap.size ∧ w.cell? ⟨g, i, none⟩ = xs[i]? ∧ w.frozen? ⟨g, i, none⟩ = false := by
  rcases h.2 with ⟨h1, h2⟩ | ⟨g, cap, cur, hv, hbg, hg, _, _, _, htake⟩
  · subst h2
    have h3 := h.1
    rw [Nat.zero_mul] at h3
    omega
  · injection hv with e1 e2 e3
    refine ⟨g, e1, hbg, (Array.getElem?_eq_some_iff.1 hg).1, ?_, frozen_of_row w g i cur t hg⟩
    rw [cell_of_row w g i cur t (0, 0) hg]
    have h2 := h.1
    rw [← htake, List.getElem?_take, if_pos (by omega)]
    simp
/-- Where what is the call's own lies. -/
theorem ownk_fresh {w : World} {base t k n c : Nat} {A : Option Addr} {xs : List Value} (h : w.ownsRow base t k (.slice A n c) n xs) : ∀ a, A = some a → base ≤ a.block := by
  intro a ha
  subst ha
  rcases h.2 with ⟨h1, _⟩ | ⟨g, cap, cur, hv, hbg, _⟩
  · cases h1
  · injection hv with e1
    injection e1 with e1
    subst e1
    exact hbg
/-- What turned blocks made since, beside one block, turned none of the others. -/
theorem grown_own {a b c : World} {g : Nat} {row : Option Nat} (h : a.grownBy b (some g)) (k : b.grownBy c row) (hr : ∀ t, row = some t → a.heap.size ≤ t) : a.grownBy c (some g) :=
  ⟨k.os.trans h.os, k.tape.trans h.tape, k.output.trans h.output, Nat.le_trans h.size k.size, fun i hi hne => (k.block i (Nat.lt_of_lt_of_le hi h.size) (fun e => by have := hr i e.symm; omega)).trans (h.block i hi hne)⟩
end Go.Proofs.YtnkkgclmmaakgaaDoor

/- LAYER 10: the document's bytes of a token. -/
namespace Go.Proofs.YtnkkgclmmaakgaaDoor
set_option maxRecDepth 100000
open Go Go.RowKit

theorem tok_tag {w : World} {g : Nat} {t : Tok} {A : Option Addr} {c : Nat} (ht : t.Ok) (h : Row w g 27 (tokV t A c)) : Sl w (some ⟨g, 4, none⟩) 32 (byts t.tag) := by
  refine ⟨.inr ⟨g, 4, rfl, h.lt, fun i hi => ?_⟩, by rw [length_byts, ht.tag]; exact Nat.le_refl _, fun h => by cases h⟩
  rw [h.cell]
  unfold tokV
  rw [List.getElem?_append_right (by show 4 ≤ 4 + i; omega)]
  show (byts t.tag)[4 + i - 4]? = _
  rw [Nat.add_sub_cancel_left]
end Go.Proofs.YtnkkgclmmaakgaaDoor

/- LAYER 10: what Encode and Check answer: lists alone. -/
namespace Go.Proofs.YtnkkgclmmaakgaaDoor
set_option maxRecDepth 100000
open Go Go.RowKit

def errT (t : Tok) : Int := if checkT t then 0 else 1
end Go.Proofs.YtnkkgclmmaakgaaDoor

/- LAYER 10: what a Decode's walk shares. -/
namespace Go.Proofs.YtnkkgclmmaakgaaDoor
set_option maxRecDepth 100000
open Go Go.RowKit

theorem infoCav : (Tryd.prog.info? 50).map (fun i => (i.zero, i.size, i.bytes)) = some (some (.agg (cavV ⟨false, [], 0, [], []⟩).toArray), 5, 64) := by kernel_rfl
theorem info_cav : ∃ i, Tryd.prog.info? 50 = some i ∧ i.zero = some (.agg (cavV ⟨false, [], 0, [], []⟩).toArray) ∧ i.size = 5 ∧ i.bytes = 64 := by
  have h := infoCav
  cases hq : Tryd.prog.info? 50 with
  | none => rw [hq] at h; cases h
  | some i =>
    rw [hq] at h
    simp only [Option.map_some, Option.some.injEq, Prod.mk.injEq] at h
    exact ⟨i, rfl, h.1, h.2.1, h.2.2⟩
theorem Row.kept {w w' : World} {g t : Nat} {xs : List Value} {row : Option Nat} (h : Row w g t xs) (hg : w.grownBy w' row) (hne : ∀ k, row = some k → g ≠ k) : Row w' g t xs := by
  have hl := h.lt
  unfold Row at h ⊢
  rw [hg.block g hl (fun e => hne g e.symm rfl)]; exact h
section
variable {wL w : World} {g : Nat} {t : Tok} {A : Option Addr} {c : Nat}
end
theorem ztok : tokV zeroK none 0 = [Value.int .u64 0, .string { data := #[] }, .slice none 0 0, .bool false, .int .u8 0, .int .u8 0, .int .u8 0, .int .u8 0, .int .u8 0, .int .u8 0, .int .u8 0, .int .u8 0, .int .u8 0, .int .u8 0, .int .u8 0, .int .u8 0, .int .u8 0, .int .u8 0, .int .u8 0, .int .u8 0, .int .u8 0, .int .u8 0, .int .u8 0, .int .u8 0, .int .u8 0, .int .u8 0, .int .u8 0, .int .u8 0, .int .u8 0, .int .u8 0, .int .u8 0, .int .u8 0, .int .u8 0, .int .u8 0, .int .u8 0, .int .u8 0] := by kernel_rfl
end Go.Proofs.YtnkkgclmmaakgaaDoor

/- LAYER 11: bundles: lists alone; a slice of tokens in memory. -/
namespace Go.Proofs.YtnkkgclmmaakgaaDoor
set_option maxRecDepth 100000
open Go Go.RowKit

structure Bun where
  root : Tok
  dis : List Tok
theorem Bun.ext_iff' (a b : Bun) : a = b ↔ a.root = b.root ∧ a.dis = b.dis := by cases a; cases b; simp
instance : DecidableEq Bun := fun a b => decidable_of_iff _ (Bun.ext_iff' a b).symm
structure Bun.Ok (b : Bun) : Prop where
  root : b.root.Ok
  dis : ∀ d ∈ b.dis, d.Ok
structure Bun.Fit (b : Bun) : Prop where
  root : b.root.Fit
  dis : ∀ d ∈ b.dis, d.Fit
  many : b.dis.length ≤ 9223372036854775807
def fitD (d : Tok) : Bool := checkT d && decide (d.key = 0)
def checkB (b : Bun) : Bool := checkT b.root && !b.root.bound && decide (b.dis.length ≤ 16) && b.dis.all fitD
def zeroB : Bun := ⟨zeroK, []⟩
theorem zeroB_ok : zeroB.Ok := ⟨zeroK_ok, fun _ h => by cases h⟩
/-! What the program's reading comes to: the kinds asked first. -/
/-! How many bytes -/
/-! Tokens in memory: each with the place of its caveats. -/
abbrev Dis := Tok × Option Addr × Nat
def disV (d : Dis) : List Value := tokV d.1 d.2.1 d.2.2
def toks (ds : List Dis) : List Tok := ds.map (·.1)
theorem toks_len (ds : List Dis) : (toks ds).length = ds.length := by unfold toks; rw [List.length_map]
theorem toks_get {ds : List Dis} {k : Nat} {d : Dis} (h : ds[k]? = some d) : (toks ds)[k]? = some d.1 := by unfold toks; rw [List.getElem?_map, h]; rfl
theorem toks_append (ds es : List Dis) : toks (ds ++ es) = toks ds ++ toks es := List.map_append ..
structure Bs (w : World) (A : Option Addr) (c : Nat) (ds : List Dis) : Prop where
  sl : Sl w A (c * 36) (ds.flatMap disV)
  each : ∀ d ∈ ds, Sl w d.2.1 (d.2.2 * 5) (d.1.cavs.flatMap cavV)
theorem Bs.later {w w' : World} {A : Option Addr} {c : Nat} {ds : List Dis} {B : Nat} (h : Bs w A c ds) (hB : w.heap.size ≤ B) (hb : Below B w w') : Bs w' A c ds :=
  ⟨h.sl.later hB hb, fun d hd => (h.each d hd).later hB hb⟩
theorem Bs.nil (w : World) : Bs w none 0 [] := ⟨⟨.inl rfl, Nat.le_refl _, fun _ => rfl⟩, fun _ h => by cases h⟩
theorem disV_one (ds : List Dis) : ∀ v ∈ ds.flatMap disV, v.oneCell' = true := by
  intro v hv
  obtain ⟨d, _, hd⟩ := List.mem_flatMap.1 hv
  exact tokV_one d.1 d.2.1 d.2.2 v hd
theorem length_disV {d : Dis} (h : d.1.Ok) : (disV d).length = 36 := length_tokV h _ _
theorem dis_ok {ds : List Dis} (h : ∀ d ∈ toks ds, d.Ok) : ∀ d ∈ ds, (disV d).length = 36 := fun d hd => length_disV (h d.1 (List.mem_map_of_mem hd))
theorem length_dissV {ds : List Dis} (h : ∀ d ∈ toks ds, d.Ok) : (ds.flatMap disV).length = ds.length * 36 := flat_length disV 36 ds (dis_ok h)
theorem Bs.nonil {w : World} {A : Option Addr} {c k : Nat} {ds : List Dis} (h : Bs w A c ds) (hok : ∀ d ∈ toks ds, d.Ok) (hlt : k < ds.length) : ∃ b o, A = some ⟨b, o, none⟩ := by
  obtain ⟨b, o, h1, _⟩ := h.sl.rd.get (i := 0) (by rw [length_dissV hok]; omega)
  exact ⟨b, o, h1⟩
def bunV (t : Tok) (A : Option Addr) (c : Nat) (B : Option Addr) (n d : Nat) : List Value := tokV t A c ++ [.slice B n d]
theorem bunV_one (t : Tok) (A : Option Addr) (c : Nat) (B : Option Addr) (n d : Nat) : ∀ v ∈ bunV t A c B n d, v.oneCell' = true := by
  intro v hv
  rcases List.mem_append.1 hv with h | h
  · exact tokV_one t A c v h
  · rw [List.mem_singleton.1 h]; rfl
theorem length_bunV {t : Tok} (h : t.Ok) (A : Option Addr) (c : Nat) (B : Option Addr) (n d : Nat) : (bunV t A c B n d).length = 37 := by
  unfold bunV; rw [List.length_append, length_tokV h]; rfl
theorem bunV_dis {t : Tok} (h : t.Ok) (A : Option Addr) (c : Nat) (B : Option Addr) (n d : Nat) : (bunV t A c B n d)[36]? = some (.slice B n d) := by
  have := length_tokV h A c
  unfold bunV
  rw [List.getElem?_append_right (by omega), this]; rfl
end Go.Proofs.YtnkkgclmmaakgaaDoor

/- LAYER 11: a bundle's row in memory; the law's Large. -/
namespace Go.Proofs.YtnkkgclmmaakgaaDoor
set_option maxRecDepth 100000
open Go Go.RowKit

theorem size_bun : (Tryd.prog.info? 40).map (·.size) = some 37 := by kernel_rfl
theorem index_tok (A : Option Addr) (b o n c k : Nat) (hA : A = some ⟨b, o, none⟩) (hk : k < n) (w : World) :
    (Instr.indexAt 38 (.slice A n c) (.int .i64 k)).run Tryd.prog w = .ok (.pointer (some ⟨b, o + k * 36, none⟩)) w := by
  subst hA
  have h : (k : Int) < (n : Int) := by omega
  go_simp
theorem row_bun_tok {w : World} {g : Nat} {t : Tok} {A : Option Addr} {c : Nat} {B : Option Addr} {n d : Nat} (h : Row w g 40 (bunV t A c B n d)) : w.rangeAt g 0 (tokV t A c) := by
  intro j v hj
  rw [Nat.zero_add, h.cell]
  have := (List.getElem?_eq_some_iff.1 hj).1
  unfold bunV
  rw [List.getElem?_append_left this, hj]
theorem row_bun_dis {w : World} {g : Nat} {t : Tok} {A : Option Addr} {c : Nat} {B : Option Addr} {n d : Nat} (ht : t.Ok) (h : Row w g 40 (bunV t A c B n d)) : w.cell? ⟨g, 36, none⟩ = some (.slice B n d) := by
  rw [h.cell]; exact bunV_dis ht A c B n d
theorem row_bun_bound {w : World} {g : Nat} {t : Tok} {A : Option Addr} {c : Nat} {B : Option Addr} {n d : Nat} (h : Row w g 40 (bunV t A c B n d)) : w.cell? ⟨g, 3, none⟩ = some (.bool t.bound) := by
  rw [h.cell]; rfl
abbrev bunOf (t : Tok) (ds : List Dis) : Bun := ⟨t, toks ds⟩
def largeB (b : Bun) : Bool := decide (10000 < capT b.root) || decide (40 < b.dis.length) || b.dis.any (fun d => decide (10000 < capT d))
theorem any_take {α : Type} {f : α → Bool} {cs : List α} {k : Nat} {c : α} (h : (cs.take k).any f = false) (hc : cs[k]? = some c) (hf : f c = false) : (cs.take (k + 1)).any f = false := by
  rw [List.take_add_one, List.any_append, h, hc]; simp [hf]
theorem any_bad {α : Type} {f : α → Bool} {cs : List α} {k : Nat} {c : α} (hc : cs[k]? = some c) (hf : f c = true) : cs.any f = true :=
  List.any_eq_true.2 ⟨c, List.mem_of_getElem? hc, hf⟩
theorem all_take_of {α : Type} {f : α → Bool} {cs : List α} {k : Nat} {c : α} (h : (cs.take k).all f = true) (hc : cs[k]? = some c) (hf : f c = true) : (cs.take (k + 1)).all f = true := by
  rw [List.take_add_one, List.all_append, h, hc]; simp [hf]
theorem all_bad_of {α : Type} {f : α → Bool} {cs : List α} {k : Nat} {c : α} (hc : cs[k]? = some c) (hf : f c = false) : cs.all f = false := by
  cases h : cs.all f with
  | false => rfl
  | true => have := List.all_eq_true.1 h c (List.mem_of_getElem? hc); rw [hf] at this; cases this
set_option maxRecDepth 100000 in
set_option maxHeartbeats 2000000 in
theorem rlarge_any (t : Tok) (ds : List Dis) (ht : t.Ok) (hf : t.Fit) (hok : ∀ d ∈ toks ds, d.Ok) (hfit : ∀ d ∈ toks ds, d.Fit) (A : Option Addr) (c : Nat) (B : Option Addr) (d : Nat) (w : World) (hs : Sl w A (c * 5) (t.cavs.flatMap cavV)) (hp : Bs w B d ds) (hcl : ds.length ≤ 9223372036854775807) :
    Calls Tryd.prog 15 #[.agg (bunV t A c B ds.length d).toArray] w fun e w' => e = .returned (.int .i64 (if largeB (bunOf t ds) then 1 else 0)) ∧ Below w.heap.size w w' := by
  have hb1 : Below w.heap.size w (w.alloc (.cells (bunV t A c B ds.length d).toArray 40)) := (Below.refl _ _).alloc (Nat.le_refl _) _
  have hr : Row (w.alloc (.cells (bunV t A c B ds.length d).toArray 40)) w.heap.size 40 (bunV t A c B ds.length d) := Row.new w 40 _
  have hlt := hr.lt
  have hT := fun w' (h : Below _ _ w') => row_bun_tok (hr.later h hlt)
  have hD := fun w' (h : Below _ _ w') => row_bun_dis ht (hr.later h hlt)
  have hlen : (toks ds).length = ds.length := toks_len ds
  obtain ⟨R, hR⟩ : ∃ R : Int, R = if largeB (bunOf t ds) then 1 else 0 := ⟨_, rfl⟩
  rw [← hR]
  have HR := Lib.hid hR
  clear hR
  obtain ⟨V, hV⟩ : ∃ V, V = bunV t A c B ds.length d := ⟨_, rfl⟩
  obtain ⟨VT, hVT⟩ : ∃ V, V = tokV t A c := ⟨_, rfl⟩
  have hlT : VT.length = 36 := by rw [hVT]; exact length_tokV ht A c
  have hzT := Lib.hid (show (Tryd.prog.info? 27).map (·.size) = some VT.length by rw [size_tok, hlT])
  have hgr := Lib.hid (show ∀ w', Sl w' A (c * 5) (t.cavs.flatMap cavV) → Calls Tryd.prog 7 #[.agg VT.toArray] w' fun e w'' => e = .returned (.int .i64 (if 10000 < capT t then 1 else 0)) ∧ Below w'.heap.size w' w'' by rw [hVT]; exact fun w' h => rgreatT_any t hf A c w' h)
  rw [← hVT] at hT
  rw [← hV] at hb1 hr hlt hT hD ⊢
  clear hV hVT hlT hr hlt
  have hs1 := hs.later (Nat.le_refl _) hb1
  have hT1 := hT _ (Below.refl _ _)
  have hd1 := hD _ (Below.refl _ _)
  by_cases h1 : 10000 < capT t
  · have HE := Lib.hid (HR.out.trans (if_pos (by unfold largeB; rw [decide_eq_true h1]; rfl)))
    rw [if_pos h1] at hgr
    clear h1 HR hD hT hs hp hlen hd1
    go_enter Tryd.func15, Tryd.ntmps15
    go_wp2_with (first
      | (with_reducible refine wpList_load_mid rfl 27 (.tmp 5) rfl w.heap.size 0 rfl VT _ hT1 Tryd.underlying27 rfl hzT.out ?_)
      | (go_at_call 7; refine (hgr.out _ hs1).mono ?_; rintro e w6 ⟨rfl, hb6⟩; have hbw6 := hb1.trans (hb6.mono hb1.size)))
    go_ret
    exact ⟨by rw [HE.out]; rfl, hbw6⟩
  · rw [if_neg h1] at hgr
    by_cases h2 : 40 < ds.length
    · have HE := Lib.hid (HR.out.trans (if_pos (by unfold largeB; rw [decide_eq_false h1, show decide (40 < (toks ds).length) = true from decide_eq_true (by omega)]; rfl)))
      have h2' : (40 : Int) < (ds.length : Int) := by omega
      clear h1 HR hT hs hp hlen h2
      go_enter Tryd.func15, Tryd.ntmps15
      go_wp2_with (first
        | (with_reducible refine wpList_load_mid rfl 27 (.tmp 5) rfl w.heap.size 0 rfl VT _ hT1 Tryd.underlying27 rfl hzT.out ?_)
        | (go_at_call 7; refine (hgr.out _ hs1).mono ?_; rintro e w6 ⟨rfl, hb6⟩; have hbw6 := hb1.trans (hb6.mono hb1.size); have hd6 := hD _ hb6))
      go_ret
      exact ⟨by rw [HE.out]; rfl, hbw6⟩
    · have HE := Lib.hid (show R = if (toks ds).any (fun d => decide (10000 < capT d)) then 1 else 0 by rw [HR.out]; unfold largeB; rw [decide_eq_false h1, show decide (40 < (toks ds).length) = false from decide_eq_false (by omega)]; rfl)
      have h2' : (ds.length : Int) ≤ 40 := by omega
      clear h1 HR hT hs h2
      go_enter Tryd.func15, Tryd.ntmps15
      go_wp2_with (first
        | (with_reducible refine wpList_load_mid rfl 27 (.tmp 5) rfl w.heap.size 0 rfl VT _ hT1 Tryd.underlying27 rfl hzT.out ?_)
        | (go_at_call 7; refine (hgr.out _ hs1).mono ?_; rintro e w6 ⟨rfl, hb6⟩; have hbw6 := hb1.trans (hb6.mono hb1.size); have hd6 := hD _ hb6))
      clear hT1 hd1 hs1 hD hb6 hgr
      go_loopw [18] (fun i wr => ∃ k : Nat, k ≤ ds.length ∧ i = .int .i64 k ∧ ((toks ds).take k).any (fun d => decide (10000 < capT d)) = false ∧ Below w.heap.size w wr) (fun i _ => ds.length - (intOf i).toNat)
      case atStart => exact ⟨0, by omega, rfl, rfl, hbw6⟩
      case round =>
        clear hbw6 hd6 hb1
        obtain ⟨k, hk, rfl, hall, hb⟩ := hrel
        by_cases hlt : k < ds.length
        · obtain ⟨dd, hdd⟩ : ∃ dd, ds[k]? = some dd := ⟨_, List.getElem?_eq_getElem hlt⟩
          obtain ⟨b, o, rfl⟩ := hp.nonil hok hlt
          have hix := index_tok (some ⟨b, o, none⟩) b o ds.length d k rfl hlt
          have hgt := Lib.hid (rgreatT_any dd.1 (hfit dd.1 (List.mem_of_getElem? (toks_get hdd))) dd.2.1 dd.2.2)
          have HA := Lib.hid (any_take (f := fun d => decide (10000 < capT d)) hall (toks_get hdd))
          have HB := Lib.hid (any_bad (f := fun d => decide (10000 < capT d)) (toks_get hdd))
          have hlV := length_disV (hok dd.1 (List.mem_of_getElem? (toks_get hdd)))
          have hrg := (hp.sl.later (Nat.le_refl _) hb).thing (k := 36) (dis_ok hok) k dd hdd
          have hsd := (hp.each dd (List.mem_of_getElem? hdd)).later (Nat.le_refl _) hb
          have hofn : ∀ v ∈ disV dd, v.oneCell' = true := fun v hv => disV_one [dd] v (by simpa using hv)
          obtain ⟨V2, hV2q⟩ : ∃ V, V = disV dd := ⟨_, rfl⟩
          rw [← hV2q] at hlV hrg hofn
          have hzf := Lib.hid (show (Tryd.prog.info? 27).map (·.size) = some V2.length by rw [size_tok, hlV])
          have hzf2 := Lib.hid (show (Tryd.prog.info? 27).map (·.size) = some V2.toArray.size by rw [size_tok, List.size_toArray, hlV])
          have hof := Lib.hid (all_one hofn)
          have hV2 := Lib.hid (show (36 : Nat) = V2.toArray.size by rw [List.size_toArray, hlV])
          rw [show tokV dd.1 dd.2.1 dd.2.2 = V2 from hV2q.symm] at hgt
          clear hV2q hdd hall hlen hp hok hfit hlV hofn
          go_wp2_with (first
            | (with_reducible refine wpList_load_mid rfl 27 (.tmp 20) rfl b (o + k * 36) rfl V2 _ hrg Tryd.underlying27 rfl hzf.out ?_)
            | (with_reducible refine wpList_store_row rfl 27 (.tmp 4) (.tmp 21) rfl wr.heap.size V2.toArray rfl rfl 27 _ (heap_alloc_new wr _) hzf2.out (Eq.trans (by kernel_rfl) hV2.out) hof.out ?_; refine Hid.out ?_))
          refine Lib.hid ?_
          generalize hw5 : World.setRow _ _ _ = w5
          obtain ⟨r5, hb5⟩ := row_new_set (xs := V2) hw5
          have R5 := Lib.hid (show w5.heap[wr.heap.size]? = some (.cells V2.toArray 27 (0, 0)) from r5)
          have hbw5 := hb.trans (hb5.mono hb.size)
          have hsd5 := hsd.later (Nat.le_refl _) hb5
          clear hw5 r5 hb5 hrg hsd
          by_cases hg : 10000 < capT dd.1
          · rw [if_pos hg] at hgt
            have HF := Lib.hid (HB.out (decide_eq_true hg))
            clear hg HA HB
            go_wp2_with (first
              | (with_reducible refine wpList_load_row rfl 27 (.tmp 4) rfl wr.heap.size rfl 27 V2.toArray (0, 0) _ R5.out Tryd.underlying27 rfl hzf2.out ?_)
              | (go_at_call 7; refine (hgt.out _ hsd5).mono ?_; rintro e w6 ⟨rfl, hb6⟩; have hbw6 := hbw5.trans (hb6.mono hbw5.size)))
            go_ret
            exact ⟨by rw [HE.out, HF.out]; rfl, hbw6⟩
          · rw [if_neg hg] at hgt
            have HF := Lib.hid (HA.out (decide_eq_false hg))
            clear hg HA HB
            go_wp2_with (first
              | (with_reducible refine wpList_load_row rfl 27 (.tmp 4) rfl wr.heap.size rfl 27 V2.toArray (0, 0) _ R5.out Tryd.underlying27 rfl hzf2.out ?_)
              | (go_at_call 7; refine (hgt.out _ hsd5).mono ?_; rintro e w6 ⟨rfl, hb6⟩; have hbw6 := hbw5.trans (hb6.mono hbw5.size)))
            go_roundw
            case rel => exact ⟨k + 1, by omega, by go_num, HF.out, hbw6⟩
            case measure => simp [intOf]; omega
        · obtain rfl : k = ds.length := by omega
          rw [← hlen, List.take_length] at hall
          have HF := Lib.hid (HE.out.trans (if_neg (by rw [hall]; exact Bool.false_ne_true)))
          clear hlt hk hp hall h2' hok hfit hlen HE
          generalize ds.length = n at *
          go_wp2
          go_ret
          exact ⟨by rw [HF.out]; rfl, hb⟩
end Go.Proofs.YtnkkgclmmaakgaaDoor

/- LAYER 11: the document's Check, Bytes, Encode. -/
namespace Go.Proofs.YtnkkgclmmaakgaaDoor
set_option maxRecDepth 100000
open Go Go.RowKit

set_option maxRecDepth 100000 in
set_option maxHeartbeats 2000000 in
theorem rbcheck_any (t : Tok) (ds : List Dis) (ht : t.Ok) (hok : ∀ d ∈ toks ds, d.Ok) (A : Option Addr) (c : Nat) (B : Option Addr) (d : Nat) (w : World) (hs : Sl w A (c * 5) (t.cavs.flatMap cavV)) (hp : Bs w B d ds) :
    Calls Tryd.prog 25 #[.agg (bunV t A c B ds.length d).toArray] w fun e w' => e = .returned (.bool (checkB (bunOf t ds))) ∧ Below w.heap.size w w' := by
  have hb1 : Below w.heap.size w (w.alloc (.cells (bunV t A c B ds.length d).toArray 40)) := (Below.refl _ _).alloc (Nat.le_refl _) _
  have hr : Row (w.alloc (.cells (bunV t A c B ds.length d).toArray 40)) w.heap.size 40 (bunV t A c B ds.length d) := Row.new w 40 _
  have hlt := hr.lt
  have hT := fun w' (h : Below _ _ w') => row_bun_tok (hr.later h hlt)
  have hD := fun w' (h : Below _ _ w') => row_bun_dis ht (hr.later h hlt)
  have hBd := fun w' (h : Below _ _ w') => row_bun_bound (hr.later h hlt)
  have hlB := length_bunV ht A c B ds.length d
  have hlen : (toks ds).length = ds.length := toks_len ds
  obtain ⟨V, hV⟩ : ∃ V, V = bunV t A c B ds.length d := ⟨_, rfl⟩
  obtain ⟨VT, hVT⟩ : ∃ V, V = tokV t A c := ⟨_, rfl⟩
  have hlT : VT.length = 36 := by rw [hVT]; exact length_tokV ht A c
  have hzT := Lib.hid (show (Tryd.prog.info? 27).map (·.size) = some VT.length by rw [size_tok, hlT])
  have hck := Lib.hid (show ∀ w', Sl w' A (c * 5) (t.cavs.flatMap cavV) → Calls Tryd.prog 37 #[.agg VT.toArray] w' fun e w'' => e = .returned (.bool (checkT t)) ∧ Below w'.heap.size w' w'' by rw [hVT]; exact fun w' h => rcheck_any t A c w' h)
  obtain ⟨R, hR0⟩ : ∃ R, R = checkB (bunOf t ds) := ⟨_, rfl⟩
  rw [← hR0]
  have HR := Lib.hid (show R = (checkT t && !t.bound && decide (ds.length ≤ 16) && (toks ds).all fitD) by rw [hR0]; unfold checkB; dsimp only; rw [hlen])
  clear hR0
  rw [← hVT] at hT
  rw [← hV] at hb1 hr hlt hT hD hBd hlB ⊢
  clear hV hVT hlT
  have hzB := Lib.hid (show (Tryd.prog.info? 40).map (·.size) = some V.toArray.size by rw [size_bun, List.size_toArray, hlB])
  have hR := Lib.hid (show (w.alloc (.cells V.toArray 40)).heap[w.heap.size]? = some (.cells V.toArray 40 (0, 0)) from hr)
  have hs1 := hs.later (Nat.le_refl _) hb1
  have hT1 := hT _ (Below.refl _ _)
  have hd1 := hD _ (Below.refl _ _)
  have hbd1 := hBd _ (Below.refl _ _)
  clear hs hr hlt hT hlB hzB hR
  cases h1 : checkT t with
  | false =>
    have HE := Lib.hid (show R = false by rw [HR.out, h1]; rfl)
    rw [h1] at hck
    clear h1 HR hp hlen
    go_enter Tryd.func25, Tryd.ntmps25
    go_wp2_with (first
      | (with_reducible refine wpList_load_mid rfl 27 (.tmp 5) rfl w.heap.size 0 rfl VT _ hT1 Tryd.underlying27 rfl hzT.out ?_)
      | (go_at_call 37; refine (hck.out _ hs1).mono ?_; rintro e w6 ⟨rfl, hb6⟩; have hbw6 := hb1.trans (hb6.mono hb1.size); have hd6 := hD _ hb6; have hbd6 := hBd _ hb6))
    go_ret
    exact ⟨by rw [HE.out]; rfl, hbw6⟩
  | true =>
    rw [h1] at hck
    cases h2 : t.bound with
    | true =>
      have HE := Lib.hid (show R = false by rw [HR.out, h1, h2]; rfl)
      rw [h2] at hBd hbd1
      clear h1 h2 HR hp hlen
      go_enter Tryd.func25, Tryd.ntmps25
      go_wp2_with (first
        | (with_reducible refine wpList_load_mid rfl 27 (.tmp 5) rfl w.heap.size 0 rfl VT _ hT1 Tryd.underlying27 rfl hzT.out ?_)
        | (go_at_call 37; refine (hck.out _ hs1).mono ?_; rintro e w6 ⟨rfl, hb6⟩; have hbw6 := hb1.trans (hb6.mono hb1.size); have hd6 := hD _ hb6; have hbd6 := hBd _ hb6))
      go_ret
      exact ⟨by rw [HE.out]; rfl, hbw6⟩
    | false =>
      rw [h2] at hBd hbd1
      by_cases h3 : 16 < ds.length
      · have HE := Lib.hid (show R = false by rw [HR.out, h1, h2, show decide (ds.length ≤ 16) = false from decide_eq_false (by omega)]; rfl)
        have h3' : (16 : Int) < (ds.length : Int) := by omega
        clear h1 h2 h3 HR hp hlen
        go_enter Tryd.func25, Tryd.ntmps25
        go_wp2_with (first
          | (with_reducible refine wpList_load_mid rfl 27 (.tmp 5) rfl w.heap.size 0 rfl VT _ hT1 Tryd.underlying27 rfl hzT.out ?_)
          | (go_at_call 37; refine (hck.out _ hs1).mono ?_; rintro e w6 ⟨rfl, hb6⟩; have hbw6 := hb1.trans (hb6.mono hb1.size); have hd6 := hD _ hb6; have hbd6 := hBd _ hb6))
        go_ret
        exact ⟨by rw [HE.out]; rfl, hbw6⟩
      · have HE := Lib.hid (show R = (toks ds).all fitD by rw [HR.out, h1, h2, show decide (ds.length ≤ 16) = true from decide_eq_true (by omega)]; rfl)
        have h3' : (ds.length : Int) ≤ 16 := by omega
        clear h1 h2 h3 HR
        go_enter Tryd.func25, Tryd.ntmps25
        go_wp2_with (first
          | (with_reducible refine wpList_load_mid rfl 27 (.tmp 5) rfl w.heap.size 0 rfl VT _ hT1 Tryd.underlying27 rfl hzT.out ?_)
          | (go_at_call 37; refine (hck.out _ hs1).mono ?_; rintro e w6 ⟨rfl, hb6⟩; have hbw6 := hb1.trans (hb6.mono hb1.size); have hd6 := hD _ hb6; have hbd6 := hBd _ hb6))
        clear hT1 hd1 hs1 hD hb6 hck hbd1 hBd hbd6
        go_loopw [23] (fun i wr => ∃ k : Nat, k ≤ ds.length ∧ i = .int .i64 k ∧ ((toks ds).take k).all fitD = true ∧ Below w.heap.size w wr) (fun i _ => ds.length - (intOf i).toNat)
        case atStart => exact ⟨0, by omega, rfl, rfl, hbw6⟩
        case round =>
          clear hbw6 hd6 hb1
          obtain ⟨k, hk, rfl, hall, hb⟩ := hrel
          by_cases hlt : k < ds.length
          · obtain ⟨dd, hdd⟩ : ∃ dd, ds[k]? = some dd := ⟨_, List.getElem?_eq_getElem hlt⟩
            obtain ⟨b, o, rfl⟩ := hp.nonil hok hlt
            have hix := index_tok (some ⟨b, o, none⟩) b o ds.length d k rfl hlt
            have hcd := Lib.hid (rcheck_any dd.1 dd.2.1 dd.2.2)
            have HA := Lib.hid (all_take_of (f := fitD) hall (toks_get hdd))
            have HB := Lib.hid (all_bad_of (f := fitD) (toks_get hdd))
            have hkey := (tokV_get dd.1 dd.2.1 dd.2.2).1
            have hlV := length_disV (hok dd.1 (List.mem_of_getElem? (toks_get hdd)))
            have hrg := (hp.sl.later (Nat.le_refl _) hb).thing (k := 36) (dis_ok hok) k dd hdd
            have hsd := (hp.each dd (List.mem_of_getElem? hdd)).later (Nat.le_refl _) hb
            have hofn : ∀ v ∈ disV dd, v.oneCell' = true := fun v hv => disV_one [dd] v (by simpa using hv)
            obtain ⟨V2, hV2q⟩ : ∃ V, V = disV dd := ⟨_, rfl⟩
            rw [← hV2q] at hlV hrg hofn
            have hzf := Lib.hid (show (Tryd.prog.info? 27).map (·.size) = some V2.length by rw [size_tok, hlV])
            have hzf2 := Lib.hid (show (Tryd.prog.info? 27).map (·.size) = some V2.toArray.size by rw [size_tok, List.size_toArray, hlV])
            have hof := Lib.hid (all_one hofn)
            have hV2 := Lib.hid (show (36 : Nat) = V2.toArray.size by rw [List.size_toArray, hlV])
            rw [show tokV dd.1 dd.2.1 dd.2.2 = V2 from hV2q.symm] at hcd hkey
            clear hV2q hdd hall hlen hp hok hlV hofn
            go_wp2_with (first
              | (with_reducible refine wpList_load_mid rfl 27 (.tmp 25) rfl b (o + k * 36) rfl V2 _ hrg Tryd.underlying27 rfl hzf.out ?_)
              | (with_reducible refine wpList_store_row rfl 27 (.tmp 4) (.tmp 26) rfl wr.heap.size V2.toArray rfl rfl 27 _ (heap_alloc_new wr _) hzf2.out (Eq.trans (by kernel_rfl) hV2.out) hof.out ?_; refine Hid.out ?_))
            refine Lib.hid ?_
            generalize hw5 : World.setRow _ _ _ = w5
            obtain ⟨r5, hb5⟩ := row_new_set (xs := V2) hw5
            have R5 := Lib.hid (show w5.heap[wr.heap.size]? = some (.cells V2.toArray 27 (0, 0)) from r5)
            have hbw5 := hb.trans (hb5.mono hb.size)
            have hsd5 := hsd.later (Nat.le_refl _) hb5
            have hk0 := hkey
            clear hw5 hb5 hrg hsd
            cases hg : checkT dd.1 with
            | false =>
              rw [hg] at hcd
              have HF := Lib.hid (HB.out (by unfold fitD; rw [hg]; rfl))
              clear hg HA HB
              go_wp2_with (first
                | (with_reducible refine wpList_load_row rfl 27 (.tmp 4) rfl wr.heap.size rfl 27 V2.toArray (0, 0) _ R5.out Tryd.underlying27 rfl hzf2.out ?_)
                | (go_at_call 37; refine (hcd.out _ hsd5).mono ?_; rintro e w6 ⟨rfl, hb6⟩; have hbw6 := hbw5.trans (hb6.mono hbw5.size); have c6 : w6.cell? ⟨wr.heap.size, 0, none⟩ = some (.int .u64 dd.1.key) := (by rw [(r5.later hb6 r5.lt).cell]; exact hk0)))
              go_ret
              exact ⟨by rw [HE.out, HF.out]; rfl, hbw6⟩
            | true =>
              rw [hg] at hcd
              by_cases hz : dd.1.key = 0
              · have HF := Lib.hid (HA.out (by unfold fitD; rw [hg, decide_eq_true hz]; rfl))
                have hz' : (dd.1.key : Int) = 0 := by omega
                clear hg HA HB hz
                go_wp2_with (first
                  | (with_reducible refine wpList_load_row rfl 27 (.tmp 4) rfl wr.heap.size rfl 27 V2.toArray (0, 0) _ R5.out Tryd.underlying27 rfl hzf2.out ?_)
                  | (go_at_call 37; refine (hcd.out _ hsd5).mono ?_; rintro e w6 ⟨rfl, hb6⟩; have hbw6 := hbw5.trans (hb6.mono hbw5.size); have c6 : w6.cell? ⟨wr.heap.size, 0, none⟩ = some (.int .u64 dd.1.key) := (by rw [(r5.later hb6 r5.lt).cell]; exact hk0)))
                go_roundw
                case rel => exact ⟨k + 1, by omega, by go_num, HF.out, hbw6⟩
                case measure => simp [intOf]; omega
              · have HF := Lib.hid (HB.out (by unfold fitD; rw [hg, decide_eq_false hz]; rfl))
                have hz' : ¬ (dd.1.key : Int) = 0 := by omega
                clear hg HA HB hz
                go_wp2_with (first
                  | (with_reducible refine wpList_load_row rfl 27 (.tmp 4) rfl wr.heap.size rfl 27 V2.toArray (0, 0) _ R5.out Tryd.underlying27 rfl hzf2.out ?_)
                  | (go_at_call 37; refine (hcd.out _ hsd5).mono ?_; rintro e w6 ⟨rfl, hb6⟩; have hbw6 := hbw5.trans (hb6.mono hbw5.size); have c6 : w6.cell? ⟨wr.heap.size, 0, none⟩ = some (.int .u64 dd.1.key) := (by rw [(r5.later hb6 r5.lt).cell]; exact hk0)))
                go_ret
                exact ⟨by rw [HE.out, HF.out]; rfl, hbw6⟩
          · obtain rfl : k = ds.length := by omega
            rw [← hlen, List.take_length] at hall
            have HF := Lib.hid (HE.out.trans hall)
            clear hlt hk hp hall h3' hok hlen HE
            generalize ds.length = n at *
            go_wp2
            go_ret
            exact ⟨by rw [HF.out]; rfl, hb⟩
end Go.Proofs.YtnkkgclmmaakgaaDoor

/- ARRAYS OF BYTES, compared. -/
namespace Go.Proofs.YtnkkgclmmaakgaaDoor
set_option maxRecDepth 100000
open Go Go.RowKit

theorem cells_byte : Tryd.prog.cellsOf 5 = 1 := by kernel_rfl
theorem part_byte (xs : List UInt8) (i : Nat) (h : i < xs.length) (w : World) : (Go.part 5 (byts xs).toArray (i * 1)).run Tryd.prog w = .ok (.int .u8 ((xs.getD i 0).toNat : Int)) w := by
  have hc : (byts xs).toArray[i * 1]? = some (.int .u8 ((xs.getD i 0).toNat : Int)) := by
    rw [Nat.mul_one, List.getElem?_toArray, get_byts _ _ h]
  simp only [Go.part, isAgg, Sem.run_bind, run_underlying Tryd.underlying5, Result.andThen_ok, Sem.run_pure, hc]
  rfl
theorem run_items (xs ys : List UInt8) (is : List Nat) (hx : ∀ i ∈ is, i < xs.length) (hy : ∀ i ∈ is, i < ys.length) (w : World) :
    (Op.eqItems 9999 5 1 (byts xs).toArray (byts ys).toArray is).run Tryd.prog w = .ok (is.all fun i => decide (xs.getD i 0 = ys.getD i 0)) w := by
  induction is with
  | nil => simp [Op.eqItems]
  | cons i is ih =>
    have h := ih (fun j hj => hx j (by simp [hj])) (fun j hj => hy j (by simp [hj]))
    simp only [Op.eqItems, Sem.run_bind, part_byte xs i (hx i (by simp)) w, part_byte ys i (hy i (by simp)) w, Result.andThen_ok, run_equalIn_int w 9998 5 .u8 .u8 _ _ Tryd.underlying5, List.all_cons]
    generalize xs.getD i 0 = a
    generalize ys.getD i 0 = b
    by_cases e : a = b
    · subst e
      simp only [BEq.rfl, Bool.not_true, Bool.false_eq_true, if_false, decide_true, Bool.true_and, h]
    · have e' : ((a.toNat : Int) == (b.toNat : Int)) = false := by
        rw [beq_eq_false_iff_ne]
        intro h
        exact e (UInt8.toNat_inj.1 (by omega))
      simp only [e', e, Bool.not_false, if_true, decide_false, Bool.false_and, Sem.run_pure]
theorem all_getD (xs ys : List UInt8) (h : xs.length = ys.length) : ((List.range xs.length).all fun i => decide (xs.getD i 0 = ys.getD i 0)) = decide (xs = ys) := by
  rw [Bool.eq_iff_iff, List.all_eq_true, decide_eq_true_iff]
  constructor
  · intro hall
    apply List.ext_getElem h
    intro i h1 h2
    have := hall i (by simpa using h1)
    simpa [h1, h2] using this
  · rintro rfl i _
    simp
/-- Two arrays of bytes, compared. -/
theorem run_eq_bytes (t : TypeId) (n : Nat) (i0 : TypeInfo) (hu : Tryd.prog.underlying t = some (.array n 5)) (hi : Tryd.prog.info? 5 = some i0) (xs ys : List UInt8) (hx : xs.length = n) (hy : ys.length = n) (w : World) :
    (Op.equalIn 10000 t (.agg (byts xs).toArray) (.agg (byts ys).toArray)).run Tryd.prog w = .ok (decide (xs = ys)) w := by
  rw [run_equalIn_array w 9999 _ _ hu hi, cells_byte, run_items xs ys (List.range n) (fun i h => by rw [hx]; simpa using h) (fun i h => by rw [hy]; simpa using h) w, ← hx, all_getD xs ys (by rw [hx, hy])]
end Go.Proofs.YtnkkgclmmaakgaaDoor
