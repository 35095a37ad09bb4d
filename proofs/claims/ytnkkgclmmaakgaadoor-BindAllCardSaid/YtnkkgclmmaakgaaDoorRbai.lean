/- Texts of this claim, one behind the other. -/
import Derived.Test.YtnkkgclmmaakgaaDoorRbah
import Derived.Test.YtnkkgclmmaakgaaDoorRbad
import Derived.Test.YtnkkgclmmaakgaaDoorRbac
import Derived.Test.YtnkkgclmmaakgaaDoorRbab
import Derived.Deep.DeepCutAuto
import Derived.Test.YtnkkgclmmaakgaaDoorRbae
import Derived.Lib.AppendStr
import Derived.Laws.MakeOwn
import Derived.Test.YtnkkgclmmaakgaaDoorRbaa
/- LAYER 6: the document's Tag and Key. -/
namespace Go.Proofs.YtnkkgclmmaakgaaDoor
set_option maxRecDepth 100000
open Go Go.RowKit

theorem take_next (l : List UInt8) (k : Nat) (hk : k < l.length) (n : Nat) (hn : k < n) : (l.take k ++ List.replicate (n - k) 0).set k (l.getD k 0) = l.take (k + 1) ++ List.replicate (n - (k + 1)) 0 := by
  have hl : (l.take k).length = k := by rw [List.length_take]; omega
  have e : l.take (k + 1) = l.take k ++ [l.getD k 0] := by rw [List.take_add_one]; simp [hk]
  rw [List.set_append_right _ _ (by omega), hl, Nat.sub_self, show n - k = n - (k + 1) + 1 by omega, List.replicate_succ, List.set_cons_zero, e, List.append_assoc]
  rfl
set_option maxRecDepth 100000 in
set_option maxHeartbeats 1000000 in
theorem rtag5_any (A : Option Addr) (n c : Nat) (l : List UInt8) (w : World) (hs : Sl w A c (byts l)) (hn : n = l.length) (h32 : l.length = 32) :
    Calls Tryd.prog 29 #[.slice A n c] w fun e w' => e = .returned (.agg (byts l).toArray) ∧ Below w.heap.size w w' := by
  obtain rfl : n = 32 := by omega
  clear hn
  obtain ⟨b, o, rfl, hb0, hr0⟩ := hs.rd.get (i := 0) (by rw [length_byts]; omega)
  clear hb0 hr0
  obtain ⟨Z, hZ⟩ : ∃ Z, Z = byts zeroT := ⟨_, rfl⟩
  have HZ := Lib.hid hZ
  obtain ⟨V, hV⟩ : ∃ V, V = byts l := ⟨_, rfl⟩
  have hVl : V.length = 32 := by rw [hV, length_byts]; exact h32
  have hone := Lib.hid (all_one (show ∀ v ∈ V, v.oneCell' = true by rw [hV]; exact byts_one _))
  have hsz2 := Lib.hid (show (Tryd.prog.info? 23).map (·.size) = some V.toArray.size by rw [size_tag, List.size_toArray, hVl])
  have hzv := Lib.hid (show Z.toArray.size = V.toArray.size by rw [List.size_toArray, List.size_toArray, hVl, hZ]; rfl)
  have HV := Lib.hid hV
  have HL := Lib.hid h32
  clear hV hVl hZ h32
  go_enter Tryd.func29, Tryd.ntmps29
  go_wp2_with (with_reducible refine wpList_store_row rfl 23 (.tmp 3) (.tmp 5) rfl (w.heap.size + 1) _ rfl rfl 23 _ (heap_alloc2_new w _ _) (by kernel_rfl) (by kernel_rfl) (by kernel_rfl) ?_; refine Hid.out ?_)
  refine Lib.hid ?_
  generalize hw4 : World.setRow _ _ _ = w4
  obtain ⟨r0, r1, hb4⟩ := row_new_set2 hw4
  have r0 : Row w4 w.heap.size 23 Z := by rw [HZ.out, ← zero_cells]; exact r0
  have r1 : Row w4 (w.heap.size + 1) 23 (byts (l.take 0 ++ List.replicate (32 - 0) 0)) := r1
  clear hw4
  go_wp2_with fail
  go_loopw [6] (fun i wr => ∃ k : Nat, k ≤ 32 ∧ i = .int .i64 k ∧ Row wr (w.heap.size + 1) 23 (byts (l.take k ++ List.replicate (32 - k) 0)) ∧ Row wr w.heap.size 23 Z ∧ Below w.heap.size w wr) (fun i _ => 32 - (intOf i).toNat)
  case atStart => exact ⟨0, by omega, rfl, r1, r0, hb4⟩
  case round =>
    clear r0 r1 hb4
    obtain ⟨k, hk, rfl, hrow, hres, hb⟩ := hrel
    by_cases hlt : k < 32
    · have hc := (hs.later (Nat.le_refl _) hb).range k _ (get_byts l k (by rw [HL.out]; exact hlt))
      have hix := index_bytes (some ⟨b, o, none⟩) b o 32 c k rfl hlt
      have HS := Lib.hid (take_next l k (by rw [HL.out]; exact hlt) 32 hlt)
      have hlen : (l.take k ++ List.replicate (32 - k) 0).length = 32 := by rw [List.length_append, List.length_take, List.length_replicate, HL.out]; omega
      have hd := hrow.cell k
      rw [get_byts _ _ (by omega)] at hd
      have hf := hrow.free k
      generalize (((l.take k ++ List.replicate (32 - k) 0).getD k 0).toNat : Int) = y at *
      generalize l.getD k 0 = x at *
      clear hlen
      go_wp2
      go_roundw
      case rel =>
        refine ⟨k + 1, by omega, by go_num, ?_, hres.far _ _ (by show w.heap.size ≠ w.heap.size + 1; omega), hb.grown (grown_setCell _ _ _ _) hb.size (fun k h => by cases h; omega)⟩
        rw [← HS.out, ← byts_set]
        exact hrow.set _ _
      case measure => simp [intOf]; omega
    · obtain rfl : k = 32 := by omega
      rw [List.take_of_length_le (by rw [HL.out]; exact Nat.le_refl _), show 32 - 32 = 0 from rfl, List.replicate_zero, List.append_nil, ← HV.out] at hrow
      have HR := Lib.hid (show wr.heap[w.heap.size + 1]? = some (.cells V.toArray 23 (0, 0)) from hrow)
      have H0 := Lib.hid (show wr.heap[w.heap.size]? = some (.cells Z.toArray 23 (0, 0)) from hres)
      clear hrow hres hs
      go_wp2_with (first
        | (with_reducible refine wpList_load_row rfl 23 (.tmp 3) rfl (w.heap.size + 1) rfl 23 V.toArray (0, 0) _ HR.out Tryd.underlying23 rfl hsz2.out ?_)
        | (with_reducible refine wpList_store_row rfl 23 (.tmp 2) (.tmp 16) rfl w.heap.size V.toArray rfl rfl 23 _ H0.out hsz2.out hzv.out hone.out ?_; refine Hid.out ?_))
      refine Lib.hid ?_
      generalize hw5 : World.setRow _ _ _ = w5
      obtain ⟨r4, hg4⟩ := row_set (show Row wr w.heap.size 23 Z from H0.out) hw5
      have R4 := Lib.hid (show w5.heap[w.heap.size]? = some (.cells V.toArray 23 (0, 0)) from r4)
      have hb5 := hb.grown hg4 hb.size (fun k h => by cases h; exact Nat.le_refl _)
      clear hw5 r4 hg4 HR H0
      go_wp2_with (with_reducible refine bodyPost_ret (results_cell_row rfl _ _ w.heap.size 23 V.toArray (0, 0) (.array 32 5) rfl R4.out Tryd.underlying23 rfl hsz2.out) rfl ?_)
      exact ⟨by rw [HV.out], hb5⟩
/-- What Key answers. -/
def keyD (key use : List UInt8) (ss : List (List UInt8)) : List UInt8 := macL key (frameL (use :: ss))
theorem length_keyD (key use : List UInt8) (ss : List (List UInt8)) : (keyD key use ss).length = 32 := length_macL _ _
set_option maxRecDepth 100000 in
set_option maxHeartbeats 1000000 in
theorem rkey_any (key : List UInt8) (hk : key.length = 32) (use : List UInt8) (A : Option Addr) (n c : Nat) (ss : List (List UInt8)) (w : World) (hs : Sl w A c (strsV ss)) (hn : n = ss.length) (hm : sumS (use :: ss) ≤ 1000000000) :
    Calls Tryd.prog 21 #[.agg (byts key).toArray, .string (bstr use), .slice A n c] w fun e w' => e = .returned (.agg (byts (keyD key use ss)).toArray) ∧ Below w.heap.size w w' := by
  subst hn
  obtain ⟨i0, hi, hz0, hz1, hz2⟩ := info_parts infoStr
  have hsl := sumS_len (use :: ss)
  rw [List.length_cons] at hsl
  have hFl := length_frameL (use :: ss)
  obtain ⟨K, hK⟩ : ∃ K, K = byts key := ⟨_, rfl⟩
  have HK := Lib.hid hK
  have hKl : K.length = 32 := by rw [hK, length_byts]; exact hk
  obtain ⟨V, hV⟩ : ∃ V, V = byts (keyD key use ss) := ⟨_, rfl⟩
  have hVl : V.length = 32 := by rw [hV, length_byts]; exact length_keyD _ _ _
  have hone := Lib.hid (show ∀ v ∈ V, v.oneCell' = true by rw [hV]; exact byts_one _)
  have hszl := Lib.hid (show (Tryd.prog.info? 23).map (·.size) = some V.length by rw [size_tag, hVl])
  have hsz2 := Lib.hid (show (Tryd.prog.info? 23).map (·.size) = some V.toArray.size by rw [size_tag, List.size_toArray, hVl])
  have hfit := Lib.hid (show 0 + V.length ≤ (List.replicate 32 (Value.int .u8 0)).length by rw [hVl, List.length_replicate]; decide)
  have HVr := Lib.hid (show splice (List.replicate 32 (Value.int .u8 0)) 0 V = V by
    unfold splice
    rw [List.take_zero, List.nil_append, Nat.zero_add, hVl, List.drop_of_length_le (by rw [List.length_replicate]; exact Nat.le_refl _), List.append_nil])
  have hkl := Lib.hid hk
  have n1 : 1 + ss.length ≤ maxLen := by unfold maxLen; omega
  have n2 : (1 + ss.length) * 16 ≤ 140737488355328 := by omega
  obtain ⟨F, hF⟩ : ∃ F, F = frameL (use :: ss) := ⟨_, rfl⟩
  have hFm : 64 + F.length ≤ 35184372088832 := by rw [hF]; omega
  have hfr := Lib.hid (show ∀ w1 B d, Sl w1 B d (strsV (use :: ss)) → Calls Tryd.prog 31 #[.slice B (1 + ss.length) d] w1 (GaveBytes F w1) by
    rw [hF]
    exact fun w1 B d h => rframe_any B (1 + ss.length) d (use :: ss) w1 h (by rw [List.length_cons]; omega) hm)
  have HV := Lib.hid (show V = byts (macL key F) by rw [hV, hF]; rfl)
  have HVD := Lib.hid hV
  have HLs := Lib.hid (show ss.length = (strsV ss).length from (length_strsV ss).symm)
  rw [← hK]
  clear hV hVl hK hF hFl hk hsl
  go_enter Tryd.func21, Tryd.ntmps21
  go_wp2_with (at_builtin; refine Hid.out ?_)
  refine Lib.hid ?_
  generalize hw1 : World.alloc (World.alloc (World.alloc w _) _) _ = w1
  obtain ⟨r0, r1, r2, hb1, hs1⟩ := rows3 (A := K) (B := List.replicate 32 (.int .u8 0)) (C := strsV [use]) hw1
  have hown1 : w1.ownsRow (w.heap.size + 1 + 1) 9 1 (.slice (some ⟨w.heap.size + 1 + 1, 0, none⟩) 1 1) 1 (strsV [use]) := own_of_row r2 (Nat.le_refl _) (by rw [length_strsV]; unfold maxLen; simp)
  have hsl1 := hs.later (Nat.le_refl _) hb1
  clear hw1 r2
  go_wp2_with (at_builtin; refine wpList_append_sl rfl (.tmp 9) (.tmp 10) 55 rfl (w.heap.size + 1 + 1) 9 i0 _ 16 Tryd.underlying55 hi hz0 hz1 hz2 rfl _ 1 (strsV [use]) rfl hown1 A ss.length c (strsV ss) rfl HLs.out hsl1 (strsV_one _) n1 n2 (by omega) ?_; intro v2 w2 hown2 hg2; obtain ⟨A2, c2, rfl, _, hslA⟩ := Sl.of_own hown2)
  have hg2 : w1.grownBy w2 (some (w.heap.size + 1 + 1)) := hg2
  have r0 := r0.grown hg2 (by omega)
  have r1 := r1.grown hg2 (by omega)
  have hb2 := hb1.grown hg2 hb1.size (fun k h => by cases h; omega)
  have hslA : Sl w2 A2 c2 (strsV (use :: ss)) := hslA
  have hslK : Sl w2 (some ⟨w.heap.size, 0, none⟩) 32 (byts key) := ⟨Rd.row (ys := []) (by rw [List.append_nil, ← HK.out]; exact r0), by rw [length_byts, hkl.out]; exact Nat.le_refl _, fun h => by cases h⟩
  clear hg2 r0 hown1 hown2 hsl1 hb1 hs1 hs
  refine wp_region_noPanic ?_
  refine wp_region_held_drew (S := fun _ => True) (by kernel_rfl) (trivial) (fun hHeld => ?_)
  refine rt 0 12 hHeld ?_
  refine rt 1 13 hHeld ?_
  refine rc1 2 fun K hK => ?_
  go_simp
  refine (hfr.out _ _ _ (hslA.later (Nat.le_refl _) ((Below.refl w2.heap.size w2).drew))).mono ?_; rintro e w6 ⟨v6, rfl, hown6, hb6⟩; obtain ⟨A6, c6, rfl, _, hsl6⟩ := Sl.of_own hown6; have hb26 := below_step ((Below.refl w2.heap.size w2).drew) hb6; clear hown6
  try go_wp2_with fail
  refine hK.out _ _ (trivial) (fun hHeld => ?_)
  clear hK K
  refine rc1 3 fun K hK => ?_
  go_simp
  refine (rmac_any (some ⟨w.heap.size, 0, none⟩) 32 32 key A6 F.length c6 F _ (hslK.later (Nat.le_refl _) hb26) hkl.out.symm (by rw [hkl.out]; decide) hsl6 rfl hFm).mono ?_; rintro e w7 ⟨v7, rfl, hown7, hb7⟩; obtain ⟨A7, c7, rfl, _, hsl7⟩ := Sl.of_own hown7; have hb27 := below_step hb26 hb7; clear hown7
  try go_wp2_with fail
  refine hK.out _ _ (trivial) (fun hHeld => ?_)
  clear hK K
  refine rc1 4 fun K hK => ?_
  go_simp
  refine (rtag5_any A7 _ c7 (macL key F) _ hsl7 rfl (length_macL _ _)).mono ?_; rintro e w8 ⟨rfl, hb8⟩; have hb28 := below_step hb27 hb8; rw [← HV.out]
  try go_wp2_with fail
  refine hK.out _ _ (trivial) (fun hHeld => ?_)
  clear hK K
  refine rc1 5 fun K hK => ?_
  refine step_store_row none rfl (by rfl) 23 (.tmp 6) (.tmp 16) rfl (w.heap.size + 1) 0 23 _ V rfl rfl (r1.later hb28 r1.lt) hfit.out hszl.out hone.out ?_; intro w9 r9 hg9
  refine hK.out _ _ (trivial) (fun _ => ?_)
  clear hK K
  rw [put_none]
  refine wpAnyH_done (by kernel_rfl) ?_ _
  refine NoPanic.normal ?_
  have r9 : Row w9 (w.heap.size + 1) 23 V := by rw [HVr.out] at r9; exact r9
  have hb9 := (hb2.trans (hb28.mono hb2.size)).grown hg9 (Nat.le_trans hb2.size hb28.size) (fun k h => by cases h; omega)
  have R9 := Lib.hid (show w9.heap[w.heap.size + 1]? = some (.cells V.toArray 23 (0, 0)) from r9)
  clear r9 hg9 r1 hslA hslK hsl6 hsl7 hb6 hb7 hb8 hb26 hb27 hb28 hb2
  go_wp2_with (with_reducible refine bodyPost_ret (results_cell_row rfl _ _ (w.heap.size + 1) 23 V.toArray (0, 0) (.array 32 5) rfl R9.out Tryd.underlying23 rfl hsz2.out) rfl ?_)

  exact ⟨by rw [HVD.out], hb9⟩
end Go.Proofs.YtnkkgclmmaakgaaDoor

/- LAYER 21: discharges that go with one token alone, as lists. No Go function is spoken of here. -/
namespace Go.Proofs.YtnkkgclmmaakgaaDoor
set_option maxRecDepth 100000
open Go Go.RowKit

def bindU : List UInt8 := [98, 105, 110, 100]
/-- A bound token's tag. -/
def bindG (root e : List UInt8) : List UInt8 := keyD root bindU [e]
theorem length_bindG (root e : List UInt8) : (bindG root e).length = 32 := length_keyD _ _ _
/-- A discharge, bound; what Bind comes to. -/
def boundT (root : List UInt8) (d : Tok) : Tok := { d with bound := true, tag := bindG root d.tag }
def errBind (d : Tok) : Int := if d.bound = true then 6 else 0
def bindT (root : List UInt8) (d : Tok) : Tok := if d.bound = true then zeroK else boundT root d
theorem boundT_ok {d : Tok} (root : List UInt8) (h : d.Ok) : (boundT root d).Ok := { h with tag := length_bindG _ _ }
/-- Has a discharge the right tag? -/
def fitsT (root e : List UInt8) (d : Tok) : Bool := if d.bound = true then decide (d.tag = bindG root e) else decide (d.tag = e)
/-- All discharges, bound. -/
def eachD (root : List UInt8) (d : Tok) : Tok := if d.bound = true then d else boundT root d
def errAll (b : Bun) : Int := if checkB b = true then 0 else 1
def allB (b : Bun) : Bun := if checkB b = true then ⟨b.root, b.dis.map (eachD b.root.tag)⟩ else zeroB
theorem eachD_ok {d : Tok} (root : List UInt8) (h : d.Ok) : (eachD root d).Ok := by
  unfold eachD; split
  · exact h
  · exact boundT_ok root h
theorem eachD_bound (root : List UInt8) (d : Tok) : (eachD root d).bound = true := by
  unfold eachD; split
  · assumption
  · rfl
theorem eachD_cavs (root : List UInt8) (d : Tok) : (eachD root d).cavs = d.cavs := by unfold eachD; split <;> rfl
theorem eachD_twice (root r' : List UInt8) (d : Tok) : eachD r' (eachD root d) = eachD root d := by
  rw [eachD, if_pos (eachD_bound root d)]
theorem fitD_each (root : List UInt8) (d : Tok) : fitD (eachD root d) = fitD d := by unfold eachD; split <;> rfl
theorem allB_ok {b : Bun} (h : b.Ok) : (allB b).Ok := by
  unfold allB; split
  · exact ⟨h.root, fun d hd => by obtain ⟨e, he, rfl⟩ := List.mem_map.1 hd; exact eachD_ok _ (h.dis e he)⟩
  · exact zeroB_ok
theorem checkB_all {b : Bun} (h : checkB b = true) : checkB (allB b) = true := by
  unfold allB; rw [if_pos h]
  unfold checkB at h ⊢
  rw [List.length_map, List.all_map, show (fitD ∘ eachD b.root.tag) = fitD from funext (fitD_each _)]
  exact h
theorem allB_twice {b : Bun} (h : checkB b = true) : allB (allB b) = allB b := by
  have h2 := checkB_all h
  have e : allB b = ⟨b.root, b.dis.map (eachD b.root.tag)⟩ := if_pos h
  rw [e] at h2 ⊢
  rw [allB, if_pos h2, List.map_map]
  congr 1
  exact List.map_congr_left (fun d _ => eachD_twice _ _ d)
theorem eachD_fit {d : Tok} (root : List UInt8) (h : d.Fit) : (eachD root d).Fit := by
  unfold eachD; split
  · exact h
  · exact ⟨h.1, h.2, h.3⟩
theorem allB_fit {b : Bun} (h : b.Fit) (hz : zeroB.Fit) : (allB b).Fit := by
  unfold allB; split
  · exact ⟨h.root, fun d hd => by obtain ⟨e, he, rfl⟩ := List.mem_map.1 hd; exact eachD_fit _ (h.dis e he), by show (b.dis.map _).length ≤ _; rw [List.length_map]; exact h.many⟩
  · exact hz
end Go.Proofs.YtnkkgclmmaakgaaDoor

/- LAYER 19: the document's Start, Next. -/
namespace Go.Proofs.YtnkkgclmmaakgaaDoor
set_option maxRecDepth 100000
open Go Go.RowKit

/-- A slice literal of strings. -/
theorem slice_strs1 (x : List UInt8) (w : World) : (Instr.buildSlice 55 1 #[(0, .string (bstr x))]).run Tryd.prog w = .ok (.slice (some ⟨w.heap.size, 0, none⟩) 1 1) (w.alloc (.cells (strsV [x]).toArray 9)) := by go_simp; rfl
theorem step_strs {w : World} {ops : Array Oper} {o : Oper} {a : Act} {K : Act → World → Prop} {Q : Exit → Act → World → Prop} {E : Prop} (dst : Option Tmp) (hdst : o.dst = dst) (hgd : Region.wanted o (yielded ops a.tmps) = true) (v : Value) (l : List (List UInt8))
    (hrun : (execOp a.eval o).run Tryd.prog w = .ok (.value v) (w.alloc (.cells (strsV l).toArray 9))) (hv : v = .slice (some ⟨w.heap.size, 0, none⟩) l.length l.length)
    (h : ∀ w', Sl w' (some ⟨w.heap.size, 0, none⟩) l.length (strsV l) → Below w.heap.size w w' → K (a.put dst (.slice (some ⟨w.heap.size, 0, none⟩) l.length l.length)) w') : if Region.wanted o (yielded ops a.tmps) = true then Oper.wp Tryd.prog o a w K Q else E := by
  subst hdst hv
  rw [if_pos hgd]
  unfold Oper.wp
  rw [hrun]
  refine h _ ?_ ((Below.refl _ w).alloc (Nat.le_refl _) _)
  have hr := Row.new w 9 (strsV l)
  exact ⟨Rd.row (ys := []) (by rw [List.append_nil]; exact hr), by rw [length_strsV]; exact Nat.le_refl _, fun h => by cases h⟩
theorem tag_fit (k : List UInt8) (hk : k.length = 32) : (byts k).length = 32 := by rw [length_byts]; exact hk
theorem two_rows19 {w w1 : World} {A B : List Value} {t u : TypeId} (h : (w.alloc (.cells A.toArray t)).alloc (.cells B.toArray u) = w1) : Row w1 w.heap.size t A ∧ Row w1 (w.heap.size + 1) u B ∧ Below w.heap.size w w1 := by
  subst h
  have h1 : Row (w.alloc (.cells A.toArray t)) w.heap.size t A := Row.new w _ _
  have hb1 : Below w.heap.size w (w.alloc (.cells A.toArray t)) := (Below.refl _ w).alloc (Nat.le_refl _) _
  have hb2 : Below (w.alloc (.cells A.toArray t)).heap.size (w.alloc (.cells A.toArray t)) ((w.alloc (.cells A.toArray t)).alloc (.cells B.toArray u)) := (Below.refl _ _).alloc (Nat.le_refl _) _
  have h2 : Row ((w.alloc (.cells A.toArray t)).alloc (.cells B.toArray u)) (w.alloc (.cells A.toArray t)).heap.size u B := Row.new _ _ _
  rw [World.size_alloc] at h2
  exact ⟨h1.later hb2 h1.lt, h2, hb1.trans (hb2.mono hb1.size)⟩
end Go.Proofs.YtnkkgclmmaakgaaDoor

/- LAYER 21: the document's Tag. -/
namespace Go.Proofs.YtnkkgclmmaakgaaDoor
set_option maxRecDepth 100000
open Go Go.RowKit

/-- An array in a block of its own, as a slice. -/
theorem sl_arr21 {w : World} {g : Nat} {l : List UInt8} (h : Row w g 23 (byts l)) (hl : l.length = 32) : Sl w (some ⟨g, 0, none⟩) 32 (byts l) :=
  ⟨Rd.row (ys := []) (by rw [List.append_nil]; exact h), by rw [length_byts, hl]; exact Nat.le_refl _, fun h => by cases h⟩
set_option maxHeartbeats 4000000 in
theorem rtag21_any (key : List UInt8) (hk : key.length = 32) (en : List UInt8) (hen : en.length = 32) (w : World) :
    Calls Tryd.prog 12 #[.agg (byts key).toArray, .agg (byts en).toArray] w fun e w' => e = .returned (.agg (byts (bindG key en)).toArray) ∧ Below w.heap.size w w' := by
  have hKl := tag_fit key hk
  have hkz := Lib.hid (show (Tryd.prog.info? 23).map (·.size) = some (byts key).length by rw [size_tag, hKl])
  obtain ⟨V, hV⟩ : ∃ V, V = byts (bindG key en) := ⟨_, rfl⟩
  have hVl : V.length = 32 := by rw [hV]; exact tag_fit _ (length_keyD _ _ _)
  have hone := Lib.hid (show ∀ v ∈ V, v.oneCell' = true by rw [hV]; exact byts_one _)
  have hszl := Lib.hid (show (Tryd.prog.info? 23).map (·.size) = some V.length by rw [size_tag, hVl])
  have hsz2 := Lib.hid (show (Tryd.prog.info? 23).map (·.size) = some V.toArray.size by rw [size_tag, List.size_toArray, hVl])
  have hfit := Lib.hid (show 0 + V.length ≤ (List.replicate 32 (Value.int .u8 0)).length by rw [hVl, List.length_replicate]; decide)
  have HVr := Lib.hid (show splice (List.replicate 32 (Value.int .u8 0)) 0 V = V by
    unfold splice
    rw [List.take_zero, List.nil_append, Nat.zero_add, hVl, List.drop_eq_nil_of_le (by simp), List.append_nil])
  have HV := Lib.hid hV
  have he := Lib.hid hen
  clear hV hVl hKl hen
  go_enter Tryd.func12, Tryd.ntmps12
  go_upto_region 1 with fail
  generalize hw1 : World.alloc (World.alloc (World.alloc _ _) _) _ = w1
  obtain ⟨r1, r2, r3, hb1, -⟩ := rows3 (C := List.replicate 32 (Value.int .u8 0)) hw1
  clear hw1
  refine wp_region_noPanic ?_
  refine wp_region_held_drew (S := fun w' => Row w' w.heap.size 23 (byts key) ∧ Row w' (w.heap.size + 1) 23 (byts en)) (by kernel_rfl) (⟨r1.later ((Below.refl _ _).drew) r1.lt, r2.later ((Below.refl _ _).drew) r2.lt⟩) (fun hHeld => ?_)
  have hB : Below w1.heap.size w1 w1.drew := (Below.refl _ _).drew
  refine rt 0 5 hHeld ?_ (hy := by intro w hS; exact run_load_op 23 (.tmp 2) rfl _ 0 rfl (byts key) _ (row_range hS.1) Tryd.underlying23 rfl hkz.out)
  refine rt 1 6 hHeld ?_
  refine rt 2 7 hHeld ?_ (hy := by intro w hS; have hcv := conv_bytes (sl_arr21 hS.2 he.out) 32 he.out.symm; go_simp; try with_reducible rfl)
  refine rc1 3 fun K hK => ?_
  refine step_strs (some 8) rfl (by rfl) _ [en] (by have hss := slice_strs1 en w1.drew; go_simp; rfl) rfl ?_; intro ww13 s3 hqw13
  refine rk hK ⟨hHeld.1.later hqw13 hHeld.1.lt, hHeld.2.later hqw13 hHeld.2.lt⟩ fun hHeld => ?_
  clear hK K
  have hB := below_step hB hqw13
  have hB3 : Below ww13.heap.size ww13 ww13 := Below.refl _ _
  refine rc1 4 fun K hK => ?_
  go_simp
  refine (rkey_any key hk bindU _ 1 1 [en] _ s3 rfl (by show (4 + 1) + ((en.length + 1) + 0) ≤ _; rw [he.out]; decide)).mono ?_; rintro e ww14 ⟨rfl, hqw14⟩; rw [show keyD key bindU [en] = bindG key en from rfl, ← HV.out]
  try go_wp2_with fail
  refine hK.out _ _ ⟨hHeld.1.later hqw14 hHeld.1.lt, hHeld.2.later hqw14 hHeld.2.lt⟩ (fun hHeld => ?_)
  clear hK K
  have hB := below_step hB hqw14
  have hB3 := below_step hB3 hqw14
  have hB4 : Below ww14.heap.size ww14 ww14 := Below.refl _ _
  refine rc1 5 fun K hK => ?_
  refine step_store_row none rfl (by rfl) 23 (.tmp 4) (.tmp 9) rfl _ 0 23 _ V rfl rfl (r3.later hB r3.lt) hfit.out hszl.out hone.out ?_; intro wf rf hgf; have hBz := hB
  refine hK.out _ _ ⟨hHeld.1.grown hgf (by omega), hHeld.2.grown hgf (by omega)⟩ (fun hHeld => ?_)
  clear hK K
  rw [put_none]
  refine wpAnyH_done (by kernel_rfl) ?_ _
  refine NoPanic.normal ?_
  have r9 : Row wf (w.heap.size + 1 + 1) 23 V := by rw [HVr.out] at rf; exact rf
  have hb9 := (hb1.trans (hBz.mono hb1.size)).grown hgf (Nat.le_trans hb1.size hBz.size) (fun k h => by cases h; omega)
  have R9 := Lib.hid (show wf.heap[(w.heap.size + 1 + 1 : Nat)]? = some (.cells V.toArray 23 (0, 0)) from r9)
  clear r9 hgf rf hBz hHeld hb1
  go_wp2_with (with_reducible refine bodyPost_ret (results_cell_row rfl _ _ (w.heap.size + 1 + 1) 23 V.toArray (0, 0) (.array 32 5) rfl R9.out Tryd.underlying23 rfl hsz2.out) rfl ?_)
  exact ⟨by rw [HV.out], hb9⟩
end Go.Proofs.YtnkkgclmmaakgaaDoor

/- LAYER 13: rows of ranges, built. -/
namespace Go.Proofs.YtnkkgclmmaakgaaDoor
open Go Go.RowKit
set_option maxRecDepth 100000

theorem wpList_build2 {P : Program} {w : World} {ops : Array Oper} {rest : List Oper} {o : Oper} {a : Act} {Q : Exit → Act → World → Prop} (hgd : o.guard = none) (ty : TypeId) (k0 k1 : Nat) (x0 x1 : Operand) (ho : o.op = .build ty #[(k0, x0), (k1, x1)]) (v0 v1 v : Value) (hx0 : a.eval x0 = v0) (hx1 : a.eval x1 = v1)
    (hv : (Instr.build ty #[(k0, v0), (k1, v1)]).run P w = .ok v w) (h : wpList P ops Q rest (a.put o.dst v) w) : wpList P ops Q (o :: rest) a w := by
  refine wpList_plain hgd fun _ hK => ?_
  unfold Oper.wp execOp
  simp only [ho, Sem.run_bind, Sem.run_pure, Result.andThen_ok, List.map_toArray, List.map_cons, List.map_nil, hx0, hx1, hv]
  exact hK _ _ h
end Go.Proofs.YtnkkgclmmaakgaaDoor

/- LAYER 19: the document's Mint; a call that answers a token and a number. -/
namespace Go.Proofs.YtnkkgclmmaakgaaDoor
set_option maxRecDepth 100000
open Go Go.RowKit

/-- The call gave a token and a number, and nothing that was there has turned. -/
def GaveTok (u : Tok) (n : Int) (w : World) (e : Ending) (w' : World) : Prop :=
  ∃ (A : Option Addr) (c : Nat), e = .returned (.tuple #[.agg (tokV u A c).toArray, .int .i64 n]) ∧ Sl w' A (c * 5) (u.cavs.flatMap cavV) ∧ (∀ a, A = some a → w.heap.size ≤ a.block) ∧ Below w.heap.size w w'
theorem sl_zeroK (w : World) : Sl w none (0 * 5) (zeroK.cavs.flatMap cavV) := ⟨.inl rfl, Nat.le_refl _, fun _ => rfl⟩
end Go.Proofs.YtnkkgclmmaakgaaDoor

/- LAYER 19: the document's Add. -/
namespace Go.Proofs.YtnkkgclmmaakgaaDoor
set_option maxRecDepth 100000
open Go Go.RowKit

theorem slice_zeroC (w : World) : (Instr.buildSlice 25 0 #[]).run Tryd.prog w = .ok (.slice (some ⟨w.heap.size, 0, none⟩) 0 0) (w.alloc (.cells #[] 50)) := by go_simp
section
variable {w : World} {ops : Array Oper} {o : Oper} {a : Act} {K : Act → World → Prop} {Q : Exit → Act → World → Prop} {E : Prop}
end
theorem wpList_store_mid {P : Program} {ops : Array Oper} {rest : List Oper} {o : Oper} {a : Act} {w : World} {Q : Exit → Act → World → Prop} (hgd : o.guard = none) (ty : TypeId) (x y : Operand) (ho : o.op = .store ty x y)
    (g off : Nat) (t : TypeId) (cur cs : List Value) (hx : a.eval x = .pointer (some ⟨g, off, none⟩)) (hy : a.eval y = .agg cs.toArray) (hr : Row w g t cur) (hfit : off + cs.length ≤ cur.length) (hi : (P.info? ty).map (·.size) = some cs.length) (h1 : ∀ v ∈ cs, v.oneCell' = true)
    (h : ∀ w', Row w' g t (splice cur off cs) → w.grownBy w' (some g) → wpList P ops Q rest (a.put o.dst undef) w') : wpList P ops Q (o :: rest) a w := by
  refine wpList_plain hgd fun _ hK => ?_
  unfold Oper.wp execOp
  simp only [ho, hx, hy, run_store_row ty g off t cur cs hr hfit hi h1, Sem.run_bind, Sem.run_pure, Result.andThen_ok]
  exact hK _ _ (h _ (hr.setRow _) (grown_setRow _ _ _))
theorem tok_tag_range {w : World} {g : Nat} {u : TypeId} {t : Tok} {A : Option Addr} {c : Nat} (h : Row w g u (tokV t A c)) : w.rangeAt g 4 (byts t.tag) :=
  range_of_row (A := tokH t A c) (B := byts t.tag) (C := []) (by rw [List.append_nil]; exact h)
theorem tok_put_tag (t : Tok) (A : Option Addr) (c : Nat) (g : List UInt8) (ht : t.Ok) (hg : g.length = 32) : splice (tokV t A c) 4 (byts g) = tokV { t with tag := g } A c := by
  unfold splice tokV
  rw [show (tokH t A c ++ byts t.tag).take 4 = tokH t A c from rfl, length_byts, hg, List.drop_eq_nil_of_le (by rw [List.length_append, length_byts, ht.tag]; exact Nat.le_refl _), List.append_nil]; rfl
end Go.Proofs.YtnkkgclmmaakgaaDoor

/- LAYER 21: the document's Bind. -/
namespace Go.Proofs.YtnkkgclmmaakgaaDoor
set_option maxRecDepth 100000
open Go Go.RowKit

theorem wpList_zeroC {w : World} {ops : Array Oper} {rest : List Oper} {o : Oper} {a : Act} {Q : Exit → Act → World → Prop} (hgd : o.guard = none) (ho : o.op = .buildSlice 25 0 #[])
    (h : ∀ b w', w'.ownsRow w.heap.size 50 5 (.slice (some ⟨b, 0, none⟩) 0 0) 0 [] → w.heap.size ≤ b → Below w.heap.size w w' → wpList Tryd.prog ops Q rest (a.put o.dst (.slice (some ⟨b, 0, none⟩) 0 0)) w') : wpList Tryd.prog ops Q (o :: rest) a w := by
  refine wpList_plain hgd fun _ hK => ?_
  unfold Oper.wp execOp
  simp only [ho, Sem.run_bind, Sem.run_pure, Result.andThen_ok, List.map_toArray, List.map_nil, slice_zeroC]
  exact hK _ _ (h _ _ (World.ownsRow_lit w (e := 50) (size := 5) #[] 0 (Nat.le_refl _) (by unfold maxLen; omega) rfl) (Nat.le_refl _) ((Below.refl _ w).alloc (Nat.le_refl _) _))
set_option maxHeartbeats 8000000 in
theorem rbind21_any (root : List UInt8) (hk : root.length = 32) (t : Tok) (ht : t.Ok) (hm : t.cavs.length ≤ 1000000) (A : Option Addr) (c : Nat) (w : World) (hs : Sl w A (c * 5) (t.cavs.flatMap cavV)) :
    Calls Tryd.prog 9 #[.agg (byts root).toArray, .agg (tokV t A c).toArray] w (GaveTok (bindT root t) (errBind t) w) := by
  obtain ⟨Z, hZ⟩ : ∃ Z, Z = tokV zeroK none 0 := ⟨_, rfl⟩
  have hZl : Z.length = 36 := by rw [hZ]; exact length_tokV zeroK_ok none 0
  have hZe := Lib.hid (hZ.trans ztok)
  have hzZ := Lib.hid (show (Tryd.prog.info? 27).map (·.size) = some Z.toArray.size by rw [List.size_toArray, hZl]; exact size_tok)
  have hZ1 := Lib.hid (show Z.toArray.all (·.oneCell') = true by rw [hZ, List.all_toArray, List.all_eq_true]; exact tokV_one _ _ _)
  obtain ⟨X, hX⟩ : ∃ X, X = tokV t A c := ⟨_, rfl⟩
  have hXl : X.length = 36 := by rw [hX]; exact length_tokV ht A c
  have hzX := Lib.hid (show (Tryd.prog.info? 27).map (·.size) = some X.length by rw [hXl]; exact size_tok)
  have hzX2 := Lib.hid (show (Tryd.prog.info? 27).map (·.size) = some X.toArray.size by rw [List.size_toArray, hXl]; exact size_tok)
  have hkz := Lib.hid (show (Tryd.prog.info? 23).map (·.size) = some (byts root).toArray.size by rw [List.size_toArray, size_tag, tag_fit _ hk])
  have htz := Lib.hid (show (Tryd.prog.info? 23).map (·.size) = some (byts t.tag).length by rw [size_tag, tag_fit _ ht.tag])
  obtain ⟨w1, hw1⟩ : ∃ w1, w1 = ((w.alloc (.cells (byts root).toArray 23)).alloc (.cells X.toArray 27)).alloc (.cells Z.toArray 27) := ⟨_, rfl⟩
  obtain ⟨r1, r2, r3, hb1, -⟩ := rows3 hw1.symm
  have HW := Lib.hid (hw1.trans (by rw [hZe.out]))
  have ts := hs.later (Nat.le_refl _) hb1
  have hc3 : w1.cell? ⟨w.heap.size + 1, 3, none⟩ = some (.bool t.bound) := by rw [r2.cell, hX]; rfl
  have HZ := Lib.hid hZ
  have HX := Lib.hid hX
  have hE : errBind t = if t.bound = true then 6 else 0 := rfl
  have hG : bindT root t = if t.bound = true then zeroK else boundT root t := rfl
  have tok1 : True := trivial
  rw [← hX]
  clear hw1 hZ hX hs
  have Q3 := Lib.hid (show w1.heap[w.heap.size + 1 + 1]? = some (.cells Z.toArray 27 (0, 0)) from r3)
  cases hbd : t.bound with
  | true =>
    rw [hbd] at hc3 hE hG
    have e1 : errBind t = 6 := hE.trans (if_pos rfl)
    have e2 : bindT root t = zeroK := hG.trans (if_pos rfl)
    rw [e1, e2]
    clear r1 r2 r3 ts hXl hZl hE hG e1 e2
    go_enter Tryd.func9, Tryd.ntmps9
    go_wp2_with (first
      | (have _t := tok1; rw [← HW.out]; clear tok1)
      | (have _t := Q3; refine wpList_store_row rfl 27 (.tmp 4) (.tmp 8) rfl (w.heap.size + 1 + 1) Z.toArray rfl (by rw [hZe.out]; rfl) 27 Z.toArray Q3.out hzZ.out rfl hZ1.out ?_; refine Hid.out ?_))
    refine Lib.hid ?_
    generalize hw8 : World.setRow _ _ _ = w8
    obtain ⟨r8, hg8⟩ := row_set (show Row w1 (w.heap.size + 1 + 1) 27 Z from Q3.out) hw8
    have hb8 := hb1.grown hg8 hb1.size (fun k h => by cases h; omega)
    have R8 := Lib.hid (show w8.heap[w.heap.size + 1 + 1]? = some (.cells Z.toArray 27 (0, 0)) from r8)
    clear hw8 r8 Q3
    go_wp2_with fail
    exact ⟨rfl, _, results_row_tmp rfl _ _ (w.heap.size + 1 + 1) 27 Z.toArray (0, 0) _ rfl R8.out Tryd.underlying27 rfl hzZ.out _ rfl, none, 0, by rw [HZ.out]; rfl, sl_zeroK _, (fun a h => by cases h), hb8⟩
  | false =>
    rw [hbd] at hc3 hE hG
    have e1 : errBind t = 0 := hE.trans (if_neg (by decide))
    have e2 : bindT root t = boundT root t := hG.trans (if_neg (by decide))
    rw [e1, e2]
    obtain ⟨i0, hi, hz0, hsz0, hby0⟩ := info_cav
    have n1 : 0 + t.cavs.length ≤ maxLen := by unfold maxLen; omega
    have n2 : (0 + t.cavs.length) * 64 ≤ 140737488355328 := by omega
    have RL := Lib.hid r3.lt
    have hlC := Lib.hid (length_cavsV t.cavs)
    have hoC := Lib.hid (cavV_one t.cavs)
    have htg := Lib.hid (fun w' => rtag21_any root hk t.tag ht.tag w')
    have HOk := Lib.hid ht
    have HBD := Lib.hid hbd
    clear hE hG e1 e2 hbd ht hm hk
    go_enter Tryd.func9, Tryd.ntmps9
    go_upto_region 4 with (first
      | (have _t := tok1; rw [← HW.out]; clear tok1)
      | (have _t := hb1; refine wpList_zeroC rfl rfl ?_; intro b2 w2 own2 hge2 hq2; have r1 := r1.later hq2 r1.lt; have r2 := r2.later hq2 r2.lt; have r3 := r3.later hq2 r3.lt; have ts := ts.later (Nat.le_refl _) hq2; have hb2 := hb1.trans (hq2.mono hb1.size); have hc2 : w2.cell? ⟨w.heap.size + 1, 2, none⟩ = some (.slice A t.cavs.length c) := (by rw [r2.cell, HX.out]; rfl); have hls := Lib.hid hq2.size; clear hq2)
      | (at_builtin; refine wpList_append_k rfl (.tmp 9) (.tmp 11) 25 rfl w1.heap.size 50 i0 _ 5 64 Tryd.underlying25 hi hz0 hsz0 (by omega) hby0 rfl _ 0 [] rfl own2 A t.cavs.length c (t.cavs.flatMap cavV) rfl hlC.out ts hoC.out n1 n2 hls.out ?_; intro v3 w3 own3 hg3; rw [Nat.zero_add, List.nil_append] at own3; obtain ⟨B, d, rfl, -, s3⟩ := Sl.of_ownk own3; have hne3 := Lib.hid (fun j (hj : (Value.slice (some ⟨b2, 0, none⟩) 0 0).ownBlock = some j) => (own2.lt j hj).1); have r1 := Row.kept r1 hg3 (fun k hj e => by have := hne3.out k hj; have := RL.out; omega); have r2 := Row.kept r2 hg3 (fun k hj e => by have := hne3.out k hj; have := RL.out; omega); have r3 := Row.kept r3 hg3 (fun k hj e => by have := hne3.out k hj; have := RL.out; omega); have hb3 := hb2.grown hg3 hb2.size (fun k hj => by have := hne3.out k hj; have := RL.out; omega); have hlo := Lib.hid (fun a (ha : B = some a) => (own3.lt a.block (by rw [ha]; rfl)).1); have hc2 : w3.cell? ⟨w.heap.size + 1, 2, none⟩ = some (.slice A t.cavs.length c) := (by rw [r2.cell, HX.out]; rfl); have hff := r2.free 2; clear own3 hne3 own2 hg3))
    generalize hw4 : World.setCell _ _ _ = w4
    have r4 : Row w4 (w.heap.size + 1) 27 (tokV t B d) := by
      have h := r2.set 2 (.slice B t.cavs.length d)
      rw [hw4, HX.out] at h; exact h
    have hg4 : w3.grownBy w4 (some (w.heap.size + 1)) := by rw [← hw4]; exact grown_setCell _ _ _ _
    have r1 := r1.grown hg4 (by omega)
    have r3 := r3.grown hg4 (by omega)
    have s4 := s3.apart hg4 (fun _ a ha => by have := hlo.out a ha; have := RL.out; omega)
    have hb4 := hb3.grown hg4 hb3.size (fun k h => by cases h; omega)
    have hto := HOk.out
    obtain ⟨V, hV⟩ : ∃ V, V = tokV (boundT root t) B d := ⟨_, rfl⟩
    have hVl : V.length = 36 := by rw [hV]; exact length_tokV (boundT_ok root hto) B d
    have hzV := Lib.hid (show (Tryd.prog.info? 27).map (·.size) = some V.toArray.size by rw [List.size_toArray, hVl]; exact size_tok)
    have hV1 := Lib.hid (show V.toArray.all (·.oneCell') = true by rw [hV, List.all_toArray, List.all_eq_true]; exact tokV_one _ _ _)
    have hVZ := Lib.hid (show Z.toArray.size = V.toArray.size by rw [List.size_toArray, List.size_toArray, hVl, hZl])
    have hgz := Lib.hid (show (Tryd.prog.info? 23).map (·.size) = some (byts (bindG root t.tag)).length by rw [size_tag, tag_fit _ (length_bindG _ _)])
    have hoG := Lib.hid (byts_one (bindG root t.tag))
    have hput := Lib.hid (show splice (tokV t B d) 4 (byts (bindG root t.tag)) = tokV { t with tag := bindG root t.tag } B d from tok_put_tag t B d _ hto (length_bindG _ _))
    have hsb := Lib.hid (show (tokV { t with tag := bindG root t.tag } B d).set 3 (.bool true) = V by rw [hV]; rfl)
    have hfit := Lib.hid (show 4 + (byts (bindG root t.tag)).length ≤ (tokV t B d).length by rw [tag_fit _ (length_bindG root t.tag), length_tokV hto B d]; exact Nat.le_refl _)
    have HV := Lib.hid hV
    have R1 := Lib.hid (show w4.heap[w.heap.size]? = some (.cells (byts root).toArray 23 (0, 0)) from r1)
    have K4 := Lib.hid (tok_tag_range r4)
    have hmo : (boundT root t).cavs.flatMap cavV = t.cavs.flatMap cavV := rfl
    clear hto hV hVl hXl hZl r1
    obtain ⟨Y, hY⟩ : ∃ Y, Y = tokV t B d := ⟨_, rfl⟩
    rw [← hY] at r4 hput hfit
    clear hY
    generalize bindG root t.tag = G at *
    go_upto_region 5 with (first
      | (with_reducible refine wpList_load_row rfl 23 (.tmp 2) rfl w.heap.size rfl 23 (byts root).toArray (0, 0) _ R1.out Tryd.underlying23 rfl hkz.out ?_)
      | (with_reducible refine wpList_load_mid rfl 23 (.tmp 15) rfl (w.heap.size + 1) 4 rfl (byts t.tag) _ K4.out Tryd.underlying23 rfl htz.out ?_)
      | (go_at_call 12; refine (htg.out _).mono ?_; rintro e w5 ⟨rfl, hq⟩; have r4 := r4.later hq r4.lt; have r3 := r3.later hq r3.lt; have s4 := s4.later (Nat.le_refl _) hq; have hb5 := hb4.trans (hq.mono hb4.size); clear hq)
      | (have _t := hb5; refine wpList_store_mid rfl 23 (.tmp 18) (.tmp 17) rfl (w.heap.size + 1) 4 27 Y (byts G) rfl rfl r4 hfit.out hgz.out hoG.out ?_; intro w6 r6x hg6))
    have r6 : Row w6 (w.heap.size + 1) 27 (tokV { t with tag := G } B d) := by rw [hput.out] at r6x; exact r6x
    have r3 := r3.grown hg6 (by omega)
    have s6 := s4.apart hg6 (fun _ a ha => by have := hlo.out a ha; have := RL.out; omega)
    have hB6 := hb5.grown hg6 hb5.size (fun k h => by cases h; omega)
    have hc3 : w6.cell? ⟨w.heap.size + 1, 3, none⟩ = some (.bool false) := by rw [r6.cell]; exact congrArg (fun b => some (Value.bool b)) HBD.out
    have hff := r6.free 3
    clear r6x hg6 hput hfit hgz hoG R1 K4 htg hkz htz
    have HBo := Lib.hid hB6
    go_upto_region 6 with fail
    generalize hw7 : World.setCell _ _ _ = w7
    have r7 : Row w7 (w.heap.size + 1) 27 V := by
      have h := r6.set 3 (.bool true)
      rw [hw7, hsb.out] at h; exact h
    have hg7 : w6.grownBy w7 (some ((w.heap.size + 1))) := by rw [← hw7]; exact grown_setCell _ _ _ _
    have r3 := r3.grown hg7 (by omega)
    have s7 := s6.apart hg7 (fun _ a ha => by have := hlo.out a ha; have := RL.out; omega)
    have hb7 := hB6.grown hg7 hB6.size (fun k h => by cases h; omega)
    have R7 := Lib.hid (show w7.heap[(w.heap.size + 1)]? = some (.cells V.toArray 27 (0, 0)) from r7)
    have Q3 := Lib.hid (show w7.heap[w.heap.size + 1 + 1]? = some (.cells Z.toArray 27 (0, 0)) from r3)
    clear hw7 hg7 r7 r6 hc3 hff HBo hB6 s6 hsb
    go_wp2_with (first
      | (with_reducible refine wpList_load_row rfl 27 (.tmp 3) rfl ((w.heap.size + 1)) rfl 27 V.toArray (0, 0) _ R7.out Tryd.underlying27 rfl hzV.out ?_)
      | (have _t := Q3; refine wpList_store_row rfl 27 (.tmp 4) (.tmp 20) rfl (w.heap.size + 1 + 1) V.toArray rfl rfl 27 Z.toArray Q3.out hzV.out hVZ.out hV1.out ?_; refine Hid.out ?_))
    refine Lib.hid ?_
    generalize hw8 : World.setRow _ _ _ = w8
    obtain ⟨r8, hg8⟩ := row_set (show Row w7 (w.heap.size + 1 + 1) 27 Z from Q3.out) hw8
    have hb8 := hb7.grown hg8 hb7.size (fun k h => by cases h; omega)
    have R8 := Lib.hid (show w8.heap[w.heap.size + 1 + 1]? = some (.cells V.toArray 27 (0, 0)) from r8)
    clear hw8 r8 Q3
    go_wp2_with fail
    exact ⟨rfl, _, results_row_tmp rfl _ _ (w.heap.size + 1 + 1) 27 V.toArray (0, 0) _ rfl R8.out Tryd.underlying27 rfl hzV.out _ rfl, B, d, by rw [HV.out]; rfl, s7.apart hg8 (fun _ a ha => by have := hlo.out a ha; have := RL.out; omega), (fun a ha => by have := hlo.out a ha; have := RL.out; omega), hb8⟩
end Go.Proofs.YtnkkgclmmaakgaaDoor

/- LAYER 11: package bundle: token. -/
namespace Go.Proofs.YtnkkgclmmaakgaaDoor
set_option maxRecDepth 100000
open Go Go.RowKit

theorem zbun : bunV zeroK none 0 none 0 0 = [Value.int .u64 0, .string { data := #[] }, .slice none 0 0, .bool false, .int .u8 0, .int .u8 0, .int .u8 0, .int .u8 0, .int .u8 0, .int .u8 0, .int .u8 0, .int .u8 0, .int .u8 0, .int .u8 0, .int .u8 0, .int .u8 0, .int .u8 0, .int .u8 0, .int .u8 0, .int .u8 0, .int .u8 0, .int .u8 0, .int .u8 0, .int .u8 0, .int .u8 0, .int .u8 0, .int .u8 0, .int .u8 0, .int .u8 0, .int .u8 0, .int .u8 0, .int .u8 0, .int .u8 0, .int .u8 0, .int .u8 0, .int .u8 0, .slice none 0 0] := by kernel_rfl
end Go.Proofs.YtnkkgclmmaakgaaDoor

/- LAYER 21: a slice of tokens of the call's own, in a slot; a bundle of two fields. -/
namespace Go.Proofs.YtnkkgclmmaakgaaDoor
set_option maxRecDepth 100000
open Go Go.RowKit

/-- A slice of tokens that was made since base, whose tokens' caveats lie at lo or above, in no block g, and not in the slice's own. -/
def TokL (w : World) (lo g base : Nat) (v : Value) (ts : List Tok) : Prop :=
  ∃ B d ds, v = .slice B ds.length d ∧ toks ds = ts ∧ w.ownsRow base 27 36 (.slice B ds.length d) ds.length (ds.flatMap disV) ∧ ∀ e ∈ ds, Cvs w e ∧ Apart lo g B e
theorem TokL.later {w w' : World} {lo g base : Nat} {v : Value} {ts : List Tok} (h : TokL w lo g base v ts) (hb : Below w.heap.size w w') : TokL w' lo g base v ts := by
  obtain ⟨B, d, ds, h1, h2, h3, h4⟩ := h
  exact ⟨B, d, ds, h1, h2, ownk_later h3 hb (Nat.le_refl _), fun e he => ⟨(h4 e he).1.later (Nat.le_refl _) hb, (h4 e he).2⟩⟩
theorem TokL.set {w w' : World} {lo g base : Nat} {v : Value} {ts : List Tok} (h : TokL w lo g base v ts) (hgr : w.grownBy w' (some g)) (hg : g < base) : TokL w' lo g base v ts := by
  obtain ⟨B, d, ds, h1, h2, h3, h4⟩ := h
  exact ⟨B, d, ds, h1, h2, ownk_grown h3 hgr hg, fun e he => ⟨Sl.apart (h4 e he).1 hgr (fun hx a ha => ((h4 e he).2 (cavs_pos hx) a ha).2.1), (h4 e he).2⟩⟩
/-- A block that is younger than the slice's, and that the loop hasn't turned: rows of the round stay. -/
theorem TokL.row {w : World} {lo g base : Nat} {v : Value} {ts : List Tok} (h : TokL w lo g base v ts) : ∀ k, v.ownBlock = some k → base ≤ k ∧ k < w.heap.size := by
  obtain ⟨B, d, ds, rfl, -, h3, -⟩ := h
  exact fun k hk => h3.lt k hk
theorem tokL_append {w w2 : World} {lo g base : Nat} {B : Option Addr} {d : Nat} {ds : List Dis} {dd : Dis} {v' : Value}
    (hsl : ∀ e ∈ ds, Cvs w e ∧ Apart lo g B e) (hdd : Cvs w dd ∧ Apart lo g B dd)
    (own : w2.ownsRow base 27 36 v' (ds.length + 1) (ds.flatMap disV ++ disV dd)) (hgr : w.grownBy w2 (Value.ownBlock (.slice B ds.length d)))
    (hnew : ∀ g', v'.ownBlock = some g' → Value.ownBlock (.slice B ds.length d) = some g' ∨ w.heap.size ≤ g') : TokL w2 lo g base v' (toks ds ++ [dd.1]) := by
  have hvs := own
  obtain ⟨B', d', rfl, _, _⟩ := Sl.of_ownk hvs
  have hall : ∀ e ∈ ds ++ [dd], Cvs w e ∧ Apart lo g B e := by
    intro e he
    rcases List.mem_append.1 he with he | he
    · exact hsl _ he
    · rw [List.mem_singleton.1 he]; exact hdd
  have hlen : (ds ++ [dd]).length = ds.length + 1 := by rw [List.length_append]; rfl
  refine ⟨B', d', ds ++ [dd], by rw [hlen], by rw [toks_append]; rfl, ?_, fun e he => ?_⟩
  · rw [hlen, List.flatMap_append, show ([dd] : List Dis).flatMap disV = disV dd from by simp]
    exact own
  · obtain ⟨h1, h2⟩ := hall e he
    refine ⟨?_, fun hp a ha => ⟨(h2 hp a ha).1, (h2 hp a ha).2.1, fun p hpB => ?_⟩⟩
    · unfold Cvs at h1 ⊢
      cases B with
      | none => exact h1.apart (g := w2.heap.size) ⟨hgr.os, hgr.tape, hgr.output, hgr.size, fun k hk _ => hgr.block k hk (fun e => by cases e)⟩ (fun hx a ha => by have := h1.block_lt hx ha; have := hgr.size; omega)
      | some p => exact h1.apart hgr (fun hx a ha => fun e => (h2 (cavs_pos hx) a ha).2.2 p rfl e.symm)
    · rcases hnew p.block (by rw [hpB]; rfl) with h | h
      · cases B with
        | none => cases h
        | some q =>
          have hq : q.block = p.block := Option.some.inj h
          rw [← hq]; exact (h2 hp a ha).2.2 q rfl
      · have hx : 0 < (e.1.cavs.flatMap cavV).length := by rw [length_cavsV]; omega
        have := Sl.block_lt h1 hx ha
        omega
theorem TokL.bun {w : World} {lo g base : Nat} {v : Value} {ts : List Tok} (h : TokL w lo g base v ts) (hlo : lo ≤ base) (t : Tok) (A : Option Addr) (c : Nat) (hs : Cvs w (t, A, c)) (hl : Low lo (t, A, c)) :
    ∃ B n d, v = .slice B n d ∧ BunV lo ⟨t, ts⟩ w (.agg (bunV t A c B n d).toArray) := by
  obtain ⟨B, d, ds, rfl, h2, h3, h4⟩ := h
  have hfr := ownk_fresh h3
  obtain ⟨_, _, hve, _, hsl⟩ := Sl.of_ownk h3
  injection hve with e1 e2 e3
  subst e1 e3
  refine ⟨B, ds.length, d, rfl, A, c, B, d, ds, rfl, h2, hsl, fun e he => ?_, fun a ha => Nat.le_trans hlo (hfr a ha)⟩
  rcases List.mem_cons.1 he with rfl | he
  · exact ⟨hs, hl⟩
  · exact ⟨(h4 e he).1, fun hp a ha => ((h4 e he).2 hp a ha).1⟩
theorem slice_zeroT (w : World) : (Instr.buildSlice 38 0 #[]).run Tryd.prog w = .ok (.slice (some ⟨w.heap.size, 0, none⟩) 0 0) (w.alloc (.cells #[] 27)) := by go_simp
theorem wpList_zeroT {w : World} {ops : Array Oper} {rest : List Oper} {o : Oper} {a : Act} {Q : Exit → Act → World → Prop} (hgd : o.guard = none) (ho : o.op = .buildSlice 38 0 #[])
    (h : ∀ v w', (∀ lo g, TokL w' lo g w.heap.size v []) → Below w.heap.size w w' → wpList Tryd.prog ops Q rest (a.put o.dst v) w') : wpList Tryd.prog ops Q (o :: rest) a w := by
  refine wpList_plain hgd fun _ hK => ?_
  unfold Oper.wp execOp
  simp only [ho, Sem.run_bind, Sem.run_pure, Result.andThen_ok, List.map_toArray, List.map_nil, slice_zeroT]
  refine hK _ _ (h _ _ (fun lo g => ⟨some ⟨w.heap.size, 0, none⟩, 0, [], rfl, rfl, ?_, fun _ he => by cases he⟩) ((Below.refl _ w).alloc (Nat.le_refl _) _))
  exact World.ownsRow_lit w (e := 27) (size := 36) #[] 0 (Nat.le_refl _) (by unfold maxLen; omega) rfl
set_option maxHeartbeats 2000000 in
theorem build_bun2 (V : List Value) (h : V.length = 36) (B : Option Addr) (n d : Nat) (w : World) : (Instr.build 40 #[(0, .agg V.toArray), (1, .slice B n d)]).run Tryd.prog w = .ok (.agg (V ++ [Value.slice B n d]).toArray) w := by
  have hz := set_zip V 0 (bunV zeroK none 0 none 0 0) (by rw [h, zbun]; decide)
  rw [h, zbun] at hz
  simp only [List.take_zero, List.nil_append] at hz
  go_simp
theorem bun_tag_range {w : World} {g : Nat} {u : TypeId} {t : Tok} {A : Option Addr} {c : Nat} {B : Option Addr} {n d : Nat} (h : Row w g u (bunV t A c B n d)) : w.rangeAt g 4 (byts t.tag) :=
  range_of_row (A := tokH t A c) (B := byts t.tag) (C := [.slice B n d]) (by
    have e : bunV t A c B n d = tokH t A c ++ (byts t.tag ++ [Value.slice B n d]) := by unfold bunV tokV; rw [List.append_assoc]
    rw [← e]; exact h)
end Go.Proofs.YtnkkgclmmaakgaaDoor

/- LAYER 10: packetAlive. -/
namespace Go.Proofs.YtnkkgclmmaakgaaDoor
set_option maxRecDepth 100000
open Go Go.RowKit

theorem zero_fit : zeroK.Fit := ⟨by decide, by decide, by simp [zeroK]⟩
end Go.Proofs.YtnkkgclmmaakgaaDoor

/- LAYER 11: the contracts by BunV; package bundle: Decode. -/
namespace Go.Proofs.YtnkkgclmmaakgaaDoor
set_option maxRecDepth 100000
open Go Go.RowKit

theorem BunV.cells {lo : Nat} {b : Bun} {w : World} {v : Value} (h : BunV lo b w v) (hb : b.Ok) : ∃ V : List Value, v = .agg V.toArray ∧ V.length = 37 ∧ (∀ u ∈ V, u.oneCell' = true) ∧ BunV lo b w (.agg V.toArray) := by
  obtain ⟨A, c, B, d, ds, h1, h2⟩ := h
  exact ⟨_, h1, length_bunV hb.root A c B ds.length d, bunV_one _ _ _ _ _ _, A, c, B, d, ds, rfl, h2⟩
theorem bunOf_dis {t : Tok} {ds : List Dis} {b : Bun} (h : b = bunOf t ds) : b.dis = toks ds := by rw [h]
section
variable {lo : Nat} {b : Bun} {w : World} {v : Value}
theorem bcheck_v (hb : b.Ok) (hf : b.Fit) (h : BunV lo b w v) : Calls Tryd.prog 23 #[v] w fun e w' => e = .returned (.int .i64 (chkB b)) ∧ Below w.heap.size w w' := by
  obtain ⟨A, c, B, d, ds, rfl, hbo, hs, hp⟩ := h.parts
  have hd := bunOf_dis hbo
  have h1 := bcheck_any b.root ds hb.root (by rw [← hd]; exact hb.dis) A c B d w hs hp hf.root (by rw [← hd]; exact hf.dis)
  rw [← hbo] at h1; exact h1
theorem rbcheck_v (hb : b.Ok) (h : BunV lo b w v) : Calls Tryd.prog 25 #[v] w fun e w' => e = .returned (.bool (checkB b)) ∧ Below w.heap.size w w' := by
  obtain ⟨A, c, B, d, ds, rfl, hbo, hs, hp⟩ := h.parts
  have hd := bunOf_dis hbo
  have h1 := rbcheck_any b.root ds hb.root (by rw [← hd]; exact hb.dis) A c B d w hs hp
  rw [← hbo] at h1; exact h1
theorem rlarge_v (hb : b.Ok) (hf : b.Fit) (h : BunV lo b w v) : Calls Tryd.prog 15 #[v] w fun e w' => e = .returned (.int .i64 (if largeB b then 1 else 0)) ∧ Below w.heap.size w w' := by
  obtain ⟨A, c, B, d, ds, rfl, hbo, hs, hp⟩ := h.parts
  have hd := bunOf_dis hbo
  have h1 := rlarge_any b.root ds hb.root hf.root (by rw [← hd]; exact hb.dis) (by rw [← hd]; exact hf.dis) A c B d w hs hp (by rw [← toks_len, ← hd]; exact hf.many)
  rw [← hbo] at h1; exact h1
end
theorem zeroB_fit : zeroB.Fit := ⟨zero_fit, (fun _ h => by cases h), by decide⟩
end Go.Proofs.YtnkkgclmmaakgaaDoor
