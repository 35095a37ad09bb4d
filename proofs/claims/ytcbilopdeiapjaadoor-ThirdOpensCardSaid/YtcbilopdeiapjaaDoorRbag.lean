/- Texts of this claim, one behind the other. -/
import Derived.Test.YtcbilopdeiapjaaDoorRbaf
import Derived.Test.YtcbilopdeiapjaaDoorRbac
import Derived.Test.YtcbilopdeiapjaaDoorRbab
/- LAYER 6: the document's Tag and Key. -/
namespace Go.Proofs.YtcbilopdeiapjaaDoor
set_option maxRecDepth 100000
open Go Go.RowKit

theorem take_next (l : List UInt8) (k : Nat) (hk : k < l.length) (n : Nat) (hn : k < n) : (l.take k ++ List.replicate (n - k) 0).set k (l.getD k 0) = l.take (k + 1) ++ List.replicate (n - (k + 1)) 0 := by
  have hl : (l.take k).length = k := by rw [List.length_take]; omega
  have e : l.take (k + 1) = l.take k ++ [l.getD k 0] := by rw [List.take_add_one]; simp [hk]
  rw [List.set_append_right _ _ (by omega), hl, Nat.sub_self, show n - k = n - (k + 1) + 1 by omega, List.replicate_succ, List.set_cons_zero, e, List.append_assoc]
  rfl
set_option maxRecDepth 100000 in
set_option maxHeartbeats 1000000 in
theorem rtag5_any (A : Option Addr) (n c : Nat) (l : List UInt8) (w : World) (hs : Sl w A c (byts l)) (hn : n = l.length) (h32 : l.length = 32) :
    Calls Tryd.prog 28 #[.slice A n c] w fun e w' => e = .returned (.agg (byts l).toArray) ∧ Below w.heap.size w w' := by
  obtain rfl : n = 32 := by omega
  clear hn
  obtain ⟨b, o, rfl, hb0, hr0⟩ := hs.rd.get (i := 0) (by rw [length_byts]; omega)
  clear hb0 hr0
  obtain ⟨Z, hZ⟩ : ∃ Z, Z = byts zeroT := ⟨_, rfl⟩
  have HZ := Lib.hid hZ
  obtain ⟨V, hV⟩ : ∃ V, V = byts l := ⟨_, rfl⟩
  have hVl : V.length = 32 := by rw [hV, length_byts]; exact h32
  have hone := Lib.hid (all_one (show ∀ v ∈ V, v.oneCell' = true by rw [hV]; exact byts_one _))
  have hsz2 := Lib.hid (show (Tryd.prog.info? 25).map (·.size) = some V.toArray.size by rw [size_tag, List.size_toArray, hVl])
  have hzv := Lib.hid (show Z.toArray.size = V.toArray.size by rw [List.size_toArray, List.size_toArray, hVl, hZ]; rfl)
  have HV := Lib.hid hV
  have HL := Lib.hid h32
  clear hV hVl hZ h32
  go_enter Tryd.func28, Tryd.ntmps28
  go_wp2_with (with_reducible refine wpList_store_row rfl 25 (.tmp 3) (.tmp 5) rfl (w.heap.size + 1) _ rfl rfl 25 _ (heap_alloc2_new w _ _) (by kernel_rfl) (by kernel_rfl) (by kernel_rfl) ?_; refine Hid.out ?_)
  refine Lib.hid ?_
  generalize hw4 : World.setRow _ _ _ = w4
  obtain ⟨r0, r1, hb4⟩ := row_new_set2 hw4
  have r0 : Row w4 w.heap.size 25 Z := by rw [HZ.out, ← zero_cells]; exact r0
  have r1 : Row w4 (w.heap.size + 1) 25 (byts (l.take 0 ++ List.replicate (32 - 0) 0)) := r1
  clear hw4
  go_wp2_with fail
  go_loopw [6] (fun i wr => ∃ k : Nat, k ≤ 32 ∧ i = .int .i64 k ∧ Row wr (w.heap.size + 1) 25 (byts (l.take k ++ List.replicate (32 - k) 0)) ∧ Row wr w.heap.size 25 Z ∧ Below w.heap.size w wr) (fun i _ => 32 - (intOf i).toNat)
  case atStart => exact ⟨0, by omega, rfl, r1, r0, hb4⟩
  case round =>
    clear r0 r1 hb4
    obtain ⟨k, hk, rfl, hrow, hres, hb⟩ := hrel
    by_cases hlt : k < 32
    · have hc := (hs.later (Nat.le_refl _) hb).range k _ (get_byts l k (by rw [HL.out]; exact hlt))
      have hix := index_bytes (some ⟨b, o, none⟩) b o 32 c k rfl hlt
      have HS := Lib.hid (take_next l k (by rw [HL.out]; exact hlt) 32 hlt)
      have hlen : (l.take k ++ List.replicate (32 - k) 0).length = 32 := by rw [List.length_append, List.length_take, List.length_replicate, HL.out]; omega
      have hd := hrow.cell k
      rw [get_byts _ _ (by omega)] at hd
      have hf := hrow.free k
      generalize (((l.take k ++ List.replicate (32 - k) 0).getD k 0).toNat : Int) = y at *
      generalize l.getD k 0 = x at *
      clear hlen
      go_wp2
      go_roundw
      case rel =>
        refine ⟨k + 1, by omega, by go_num, ?_, hres.far _ _ (by show w.heap.size ≠ w.heap.size + 1; omega), hb.grown (grown_setCell _ _ _ _) hb.size (fun k h => by cases h; omega)⟩
        rw [← HS.out, ← byts_set]
        exact hrow.set _ _
      case measure => simp [intOf]; omega
    · obtain rfl : k = 32 := by omega
      rw [List.take_of_length_le (by rw [HL.out]; exact Nat.le_refl _), show 32 - 32 = 0 from rfl, List.replicate_zero, List.append_nil, ← HV.out] at hrow
      have HR := Lib.hid (show wr.heap[w.heap.size + 1]? = some (.cells V.toArray 25 (0, 0)) from hrow)
      have H0 := Lib.hid (show wr.heap[w.heap.size]? = some (.cells Z.toArray 25 (0, 0)) from hres)
      clear hrow hres hs
      go_wp2_with (first
        | (with_reducible refine wpList_load_row rfl 25 (.tmp 3) rfl (w.heap.size + 1) rfl 25 V.toArray (0, 0) _ HR.out Tryd.underlying25 rfl hsz2.out ?_)
        | (with_reducible refine wpList_store_row rfl 25 (.tmp 2) (.tmp 16) rfl w.heap.size V.toArray rfl rfl 25 _ H0.out hsz2.out hzv.out hone.out ?_; refine Hid.out ?_))
      refine Lib.hid ?_
      generalize hw5 : World.setRow _ _ _ = w5
      obtain ⟨r4, hg4⟩ := row_set (show Row wr w.heap.size 25 Z from H0.out) hw5
      have R4 := Lib.hid (show w5.heap[w.heap.size]? = some (.cells V.toArray 25 (0, 0)) from r4)
      have hb5 := hb.grown hg4 hb.size (fun k h => by cases h; exact Nat.le_refl _)
      clear hw5 r4 hg4 HR H0
      go_wp2_with (with_reducible refine bodyPost_ret (results_cell_row rfl _ _ w.heap.size 25 V.toArray (0, 0) (.array 32 5) rfl R4.out Tryd.underlying25 rfl hsz2.out) rfl ?_)
      exact ⟨by rw [HV.out], hb5⟩
/-- What Key answers. -/
def keyD (key use : List UInt8) (ss : List (List UInt8)) : List UInt8 := macL key (frameL (use :: ss))
theorem length_keyD (key use : List UInt8) (ss : List (List UInt8)) : (keyD key use ss).length = 32 := length_macL _ _
set_option maxRecDepth 100000 in
set_option maxHeartbeats 1000000 in
theorem rkey_any (key : List UInt8) (hk : key.length = 32) (use : List UInt8) (A : Option Addr) (n c : Nat) (ss : List (List UInt8)) (w : World) (hs : Sl w A c (strsV ss)) (hn : n = ss.length) (hm : sumS (use :: ss) ≤ 1000000000) :
    Calls Tryd.prog 27 #[.agg (byts key).toArray, .string (bstr use), .slice A n c] w fun e w' => e = .returned (.agg (byts (keyD key use ss)).toArray) ∧ Below w.heap.size w w' := by
  subst hn
  obtain ⟨i0, hi, hz0, hz1, hz2⟩ := info_parts infoStr
  have hsl := sumS_len (use :: ss)
  rw [List.length_cons] at hsl
  have hFl := length_frameL (use :: ss)
  obtain ⟨K, hK⟩ : ∃ K, K = byts key := ⟨_, rfl⟩
  have HK := Lib.hid hK
  have hKl : K.length = 32 := by rw [hK, length_byts]; exact hk
  obtain ⟨V, hV⟩ : ∃ V, V = byts (keyD key use ss) := ⟨_, rfl⟩
  have hVl : V.length = 32 := by rw [hV, length_byts]; exact length_keyD _ _ _
  have hone := Lib.hid (show ∀ v ∈ V, v.oneCell' = true by rw [hV]; exact byts_one _)
  have hszl := Lib.hid (show (Tryd.prog.info? 25).map (·.size) = some V.length by rw [size_tag, hVl])
  have hsz2 := Lib.hid (show (Tryd.prog.info? 25).map (·.size) = some V.toArray.size by rw [size_tag, List.size_toArray, hVl])
  have hfit := Lib.hid (show 0 + V.length ≤ (List.replicate 32 (Value.int .u8 0)).length by rw [hVl, List.length_replicate]; decide)
  have HVr := Lib.hid (show splice (List.replicate 32 (Value.int .u8 0)) 0 V = V by
    unfold splice
    rw [List.take_zero, List.nil_append, Nat.zero_add, hVl, List.drop_of_length_le (by rw [List.length_replicate]; exact Nat.le_refl _), List.append_nil])
  have hkl := Lib.hid hk
  have n1 : 1 + ss.length ≤ maxLen := by unfold maxLen; omega
  have n2 : (1 + ss.length) * 16 ≤ 140737488355328 := by omega
  obtain ⟨F, hF⟩ : ∃ F, F = frameL (use :: ss) := ⟨_, rfl⟩
  have hFm : 64 + F.length ≤ 35184372088832 := by rw [hF]; omega
  have hfr := Lib.hid (show ∀ w1 B d, Sl w1 B d (strsV (use :: ss)) → Calls Tryd.prog 43 #[.slice B (1 + ss.length) d] w1 (GaveBytes F w1) by
    rw [hF]
    exact fun w1 B d h => rframe_any B (1 + ss.length) d (use :: ss) w1 h (by rw [List.length_cons]; omega) hm)
  have HV := Lib.hid (show V = byts (macL key F) by rw [hV, hF]; rfl)
  have HVD := Lib.hid hV
  have HLs := Lib.hid (show ss.length = (strsV ss).length from (length_strsV ss).symm)
  rw [← hK]
  clear hV hVl hK hF hFl hk hsl
  go_enter Tryd.func27, Tryd.ntmps27
  go_wp2_with (at_builtin; refine Hid.out ?_)
  refine Lib.hid ?_
  generalize hw1 : World.alloc (World.alloc (World.alloc w _) _) _ = w1
  obtain ⟨r0, r1, r2, hb1, hs1⟩ := rows3 (A := K) (B := List.replicate 32 (.int .u8 0)) (C := strsV [use]) hw1
  have hown1 : w1.ownsRow (w.heap.size + 1 + 1) 9 1 (.slice (some ⟨w.heap.size + 1 + 1, 0, none⟩) 1 1) 1 (strsV [use]) := own_of_row r2 (Nat.le_refl _) (by rw [length_strsV]; unfold maxLen; simp)
  have hsl1 := hs.later (Nat.le_refl _) hb1
  clear hw1 r2
  go_wp2_with (at_builtin; refine wpList_append_sl rfl (.tmp 9) (.tmp 10) 68 rfl (w.heap.size + 1 + 1) 9 i0 _ 16 Tryd.underlying68 hi hz0 hz1 hz2 rfl _ 1 (strsV [use]) rfl hown1 A ss.length c (strsV ss) rfl HLs.out hsl1 (strsV_one _) n1 n2 (by omega) ?_; intro v2 w2 hown2 hg2; obtain ⟨A2, c2, rfl, _, hslA⟩ := Sl.of_own hown2)
  have hg2 : w1.grownBy w2 (some (w.heap.size + 1 + 1)) := hg2
  have r0 := r0.grown hg2 (by omega)
  have r1 := r1.grown hg2 (by omega)
  have hb2 := hb1.grown hg2 hb1.size (fun k h => by cases h; omega)
  have hslA : Sl w2 A2 c2 (strsV (use :: ss)) := hslA
  have hslK : Sl w2 (some ⟨w.heap.size, 0, none⟩) 32 (byts key) := ⟨Rd.row (ys := []) (by rw [List.append_nil, ← HK.out]; exact r0), by rw [length_byts, hkl.out]; exact Nat.le_refl _, fun h => by cases h⟩
  clear hg2 r0 hown1 hown2 hsl1 hb1 hs1 hs
  refine wp_region_noPanic ?_
  refine wp_region_held_drew (S := fun _ => True) (by kernel_rfl) (trivial) (fun hHeld => ?_)
  refine rt 0 12 hHeld ?_
  refine rt 1 13 hHeld ?_
  refine rc1 2 fun K hK => ?_
  go_simp
  refine (hfr.out _ _ _ (hslA.later (Nat.le_refl _) ((Below.refl w2.heap.size w2).drew))).mono ?_; rintro e w6 ⟨v6, rfl, hown6, hb6⟩; obtain ⟨A6, c6, rfl, _, hsl6⟩ := Sl.of_own hown6; have hb26 := below_step ((Below.refl w2.heap.size w2).drew) hb6; clear hown6
  try go_wp2_with fail
  refine hK.out _ _ (trivial) (fun hHeld => ?_)
  clear hK K
  refine rc1 3 fun K hK => ?_
  go_simp
  refine (rmac_any (some ⟨w.heap.size, 0, none⟩) 32 32 key A6 F.length c6 F _ (hslK.later (Nat.le_refl _) hb26) hkl.out.symm (by rw [hkl.out]; decide) hsl6 rfl hFm).mono ?_; rintro e w7 ⟨v7, rfl, hown7, hb7⟩; obtain ⟨A7, c7, rfl, _, hsl7⟩ := Sl.of_own hown7; have hb27 := below_step hb26 hb7; clear hown7
  try go_wp2_with fail
  refine hK.out _ _ (trivial) (fun hHeld => ?_)
  clear hK K
  refine rc1 4 fun K hK => ?_
  go_simp
  refine (rtag5_any A7 _ c7 (macL key F) _ hsl7 rfl (length_macL _ _)).mono ?_; rintro e w8 ⟨rfl, hb8⟩; have hb28 := below_step hb27 hb8; rw [← HV.out]
  try go_wp2_with fail
  refine hK.out _ _ (trivial) (fun hHeld => ?_)
  clear hK K
  refine rc1 5 fun K hK => ?_
  refine step_store_row none rfl (by rfl) 25 (.tmp 6) (.tmp 16) rfl (w.heap.size + 1) 0 25 _ V rfl rfl (r1.later hb28 r1.lt) hfit.out hszl.out hone.out ?_; intro w9 r9 hg9
  refine hK.out _ _ (trivial) (fun _ => ?_)
  clear hK K
  rw [put_none]
  refine wpAnyH_done (by kernel_rfl) ?_ _
  refine NoPanic.normal ?_
  have r9 : Row w9 (w.heap.size + 1) 25 V := by rw [HVr.out] at r9; exact r9
  have hb9 := (hb2.trans (hb28.mono hb2.size)).grown hg9 (Nat.le_trans hb2.size hb28.size) (fun k h => by cases h; omega)
  have R9 := Lib.hid (show w9.heap[w.heap.size + 1]? = some (.cells V.toArray 25 (0, 0)) from r9)
  clear r9 hg9 r1 hslA hslK hsl6 hsl7 hb6 hb7 hb8 hb26 hb27 hb28 hb2
  go_wp2_with (with_reducible refine bodyPost_ret (results_cell_row rfl _ _ (w.heap.size + 1) 25 V.toArray (0, 0) (.array 32 5) rfl R9.out Tryd.underlying25 rfl hsz2.out) rfl ?_)

  exact ⟨by rw [HVD.out], hb9⟩
end Go.Proofs.YtcbilopdeiapjaaDoor

/- LAYER 7: streams and sealed bytes: lists alone. -/
namespace Go.Proofs.YtcbilopdeiapjaaDoor
set_option maxRecDepth 100000
open Go Go.RowKit

def streamU : List UInt8 := [115, 116, 114, 101, 97, 109]
def sealU : List UInt8 := [115, 101, 97, 108]
/-- 32 of the stream's bytes. -/
def blockL (key nonce : List UInt8) (i : Nat) : List UInt8 := keyD key streamU [nonce, eightL i]
theorem length_blockL (key nonce : List UInt8) (i : Nat) : (blockL key nonce i).length = 32 := length_keyD _ _ _
def streamL (key nonce : List UInt8) (n : Nat) : List UInt8 := (List.range n).map fun i => (blockL key nonce (i / 32)).getD (i % 32) 0
theorem length_streamL (key nonce : List UInt8) (n : Nat) : (streamL key nonce n).length = n := by unfold streamL; simp
theorem streamL_succ (key nonce : List UInt8) (n : Nat) : streamL key nonce (n + 1) = streamL key nonce n ++ [(blockL key nonce (n / 32)).getD (n % 32) 0] := by
  unfold streamL
  rw [List.range_succ, List.map_append]; rfl
theorem getD_streamL (key nonce : List UInt8) (n i : Nat) (h : i < n) : (streamL key nonce n).getD i 0 = (blockL key nonce (i / 32)).getD (i % 32) 0 := by
  unfold streamL
  simp [h]
def xorWith (a b : List UInt8) : List UInt8 := List.zipWith (· ^^^ ·) a b
theorem xorWith_succ (a b : List UInt8) (k : Nat) (ha : k < a.length) (hb : k < b.length) : xorWith (a.take (k + 1)) (b.take (k + 1)) = xorWith (a.take k) (b.take k) ++ [a.getD k 0 ^^^ b.getD k 0] := by
  unfold xorWith
  rw [← List.take_zipWith, ← List.take_zipWith, List.take_add_one]
  simp [ha, hb]
  rw [List.getElem?_zipWith, List.getElem?_eq_getElem ha, List.getElem?_eq_getElem hb]
theorem length_xorWith (a b : List UInt8) (h : a.length = b.length) : (xorWith a b).length = a.length := by
  unfold xorWith
  rw [List.length_zipWith]; omega
theorem xorWith_twice : ∀ (a b : List UInt8), a.length = b.length → xorWith (xorWith a b) b = a
  | [], [], _ => rfl
  | x :: a, y :: b, h => by
    show (x ^^^ y ^^^ y) :: xorWith (xorWith a b) b = x :: a
    rw [xorWith_twice a b (by simpa using h), UInt8.xor_assoc, UInt8.xor_self, UInt8.xor_zero]
  | [], _ :: _, h => by simp at h
  | _ :: _, [], h => by simp at h
def turnL (key nonce s : List UInt8) : List UInt8 := xorWith s (streamL key nonce s.length)
theorem length_turnL (key nonce s : List UInt8) : (turnL key nonce s).length = s.length := length_xorWith _ _ (length_streamL _ _ _).symm
theorem turnL_twice (key nonce s : List UInt8) : turnL key nonce (turnL key nonce s) = s := by
  have h := length_turnL key nonce s
  unfold turnL at h ⊢
  rw [h]
  exact xorWith_twice _ _ (length_streamL _ _ _).symm
def tagOver (key nonce t : List UInt8) : List UInt8 := keyD key sealU [nonce, t]
theorem length_tagOver (key nonce t : List UInt8) : (tagOver key nonce t).length = 32 := length_keyD _ _ _
def sealL (key nonce p : List UInt8) : List UInt8 := nonce ++ turnL key nonce p ++ tagOver key nonce (turnL key nonce p)
theorem length_sealL (key nonce p : List UInt8) (h : nonce.length = 32) : (sealL key nonce p).length = 64 + p.length := by
  unfold sealL
  rw [List.length_append, List.length_append, length_turnL, length_tagOver, h]; omega
/-- The bytes between the nonce and the last 32. -/
def midS (s : List UInt8) : List UInt8 := (s.drop 32).take (s.length - 64)
theorem length_midS (s : List UInt8) (h : 64 ≤ s.length) : (midS s).length = s.length - 64 := by unfold midS; rw [List.length_take, List.length_drop]; omega
theorem split_sealed (s : List UInt8) (h : 64 ≤ s.length) : s = s.take 32 ++ midS s ++ s.drop (s.length - 32) := by
  unfold midS
  have e : s.drop (s.length - 32) = (s.drop 32).drop (s.length - 64) := by rw [List.drop_drop]; congr 1; omega
  rw [e, List.append_assoc, List.take_append_drop, List.take_append_drop]
def openL (key s : List UInt8) : List UInt8 × Bool :=
  if s.length < 64 then ([], false)
  else if sealL key (s.take 32) (turnL key (s.take 32) (midS s)) = s then (turnL key (s.take 32) (midS s), true) else ([], false)
theorem open_iff (key s : List UInt8) (h : 64 ≤ s.length) : sealL key (s.take 32) (turnL key (s.take 32) (midS s)) = s ↔ tagOver key (s.take 32) (midS s) = s.drop (s.length - 32) := by
  unfold sealL
  rw [turnL_twice]
  constructor
  · intro e
    have e2 := split_sealed s h
    rw [← e] at e2
    rw [e] at e2
    have e3 : s.take 32 ++ midS s ++ tagOver key (s.take 32) (midS s) = s.take 32 ++ midS s ++ s.drop (s.length - 32) := e.trans e2
    exact List.append_cancel_left e3
  · intro e
    rw [e]
    exact (split_sealed s h).symm
end Go.Proofs.YtcbilopdeiapjaaDoor

/- LAYER 19: tags made one of the other, as lists. No Go function is spoken of here. -/
namespace Go.Proofs.YtcbilopdeiapjaaDoor
set_option maxRecDepth 100000
open Go Go.RowKit

/-- A caveat's bytes. -/
def capB (c : Cav) : List UInt8 := joinL (cavF c)
/-- The tag behind a caveat. -/
def nextT (t : List UInt8) (c : Cav) : List UInt8 := keyD t [99, 97, 118, 101, 97, 116] [capB c]
theorem length_nextT (t : List UInt8) (c : Cav) : (nextT t c).length = 32 := length_keyD _ _ _
/-- A token with one caveat more. -/
def moreT (t : Tok) (c : Cav) : Tok := { t with cavs := t.cavs ++ [c], tag := nextT t.tag c }
theorem moreT_ok {t : Tok} {c : Cav} (h : t.Ok) (hc : c.party < 18446744073709551616) : (moreT t c).Ok := by
  refine ⟨h.key, ?_, length_nextT _ _⟩
  intro d hd
  rcases List.mem_append.1 hd with hd | hd
  · exact h.party d hd
  · rw [List.mem_singleton.1 hd]; exact hc
/-- What Add comes to: the error, and the token. -/
def errAdd (t : Tok) (c : Cav) : Int := if t.bound = true then 6 else if checkT (moreT t c) = true then 0 else 1
def addT (t : Tok) (c : Cav) : Tok := if errAdd t c = 0 then moreT t c else zeroK
end Go.Proofs.YtcbilopdeiapjaaDoor

/- LAYER 20: what a third party is given, and finds, as lists. No Go function is spoken of here. -/
namespace Go.Proofs.YtcbilopdeiapjaaDoor
set_option maxRecDepth 100000
open Go Go.RowKit

def partyU : List UInt8 := [112, 97, 114, 116, 121]
def vaultU : List UInt8 := [118, 97, 117, 108, 116]
def zero32 : List UInt8 := List.replicate 32 0
/-- What the party is given; what the service is given. -/
def lockL (key nonce root cond : List UInt8) : List UInt8 := sealL (keyD key partyU []) nonce (root ++ cond)
def hideL (t nonce root : List UInt8) : List UInt8 := sealL (keyD t vaultU []) nonce root
theorem length_lockL (key nonce root cond : List UInt8) (hn : nonce.length = 32) (hr : root.length = 32) : (lockL key nonce root cond).length = 96 + cond.length := by
  unfold lockL; rw [length_sealL _ _ _ hn, List.length_append, hr]; omega
theorem length_hideL (t nonce root : List UInt8) (hn : nonce.length = 32) (hr : root.length = 32) : (hideL t nonce root).length = 96 := by
  unfold hideL; rw [length_sealL _ _ _ hn, hr]
/-- What is found in them. -/
def unlockL (key id : List UInt8) : List UInt8 × List UInt8 × Bool :=
  if (openL (keyD key partyU []) id).2 = true ∧ 32 ≤ (openL (keyD key partyU []) id).1.length then ((openL (keyD key partyU []) id).1.take 32, (openL (keyD key partyU []) id).1.drop 32, true) else (zero32, [], false)
def revealL (t s : List UInt8) : List UInt8 × Bool :=
  if (openL (keyD t vaultU []) s).2 = true ∧ (openL (keyD t vaultU []) s).1.length = 32 then ((openL (keyD t vaultU []) s).1, true) else (zero32, false)
theorem openL_len (key s : List UInt8) : (openL key s).1.length ≤ s.length := by
  unfold openL
  split
  · exact Nat.zero_le _
  · split
    · show (turnL key (s.take 32) (midS s)).length ≤ _
      rw [length_turnL, length_midS s (by omega)]; omega
    · exact Nat.zero_le _
theorem length_unlockL (key id : List UInt8) : (unlockL key id).1.length = 32 := by
  unfold unlockL
  split
  · rename_i h; show (List.take 32 _).length = 32; rw [List.length_take]; omega
  · rfl
theorem length_revealL (t s : List UInt8) : (revealL t s).1.length = 32 := by
  unfold revealL
  split
  · rename_i h; exact h.2
  · rfl
/-- What a caveat of a third party is made of. -/
structure Deal where
  party : Nat
  key : List UInt8
  root : List UInt8
  cond : List UInt8
  ask : List UInt8
  vault : List UInt8
structure Deal.Ok (d : Deal) : Prop where
  party : d.party < 18446744073709551616
  key : d.key.length = 32
  root : d.root.length = 32
  ask : d.ask.length = 32
  vault : d.vault.length = 32
/-- Its cells. -/
def dealV (d : Deal) : List Value := [Value.int .u64 (d.party : Int)] ++ (byts d.key ++ (byts d.root ++ ([Value.string (bstr d.cond)] ++ (byts d.ask ++ byts d.vault))))
theorem length_dealV {d : Deal} (h : d.Ok) : (dealV d).length = 130 := by
  unfold dealV
  simp only [List.length_append, List.length_cons, List.length_nil, length_byts, h.key, h.root, h.ask, h.vault]
/-- Its caveat, behind some tag; what Add comes to. -/
def cavD (t : List UInt8) (d : Deal) : Cav := ⟨true, [], d.party, lockL d.key d.ask d.root d.cond, hideL t d.vault d.root⟩
def errThird (t : Tok) (d : Deal) : Int := if t.bound = true then 6 else if 512 < d.cond.length then 1 else errAdd t (cavD t.tag d)
def thirdT (t : Tok) (d : Deal) : Tok := if errThird t d = 0 then moreT t (cavD t.tag d) else zeroK
theorem capC_cavD (t : List UInt8) (d : Deal) (hd : d.Ok) : capC (cavD t d) = d.cond.length + 193 := by
  show 0 + (lockL d.key d.ask d.root d.cond).length + (hideL t d.vault d.root).length + 1 = _
  rw [length_lockL _ _ _ _ hd.ask hd.root, length_hideL _ _ _ hd.vault hd.root]; omega
end Go.Proofs.YtcbilopdeiapjaaDoor

/- AN ARGUMENT THAT IS A DEAL (a number, two arrays of 32 bytes, a string, two arrays: 130 cells), opened. -/
namespace Go.Proofs.YtcbilopdeiapjaaDoor
set_option maxRecDepth 100000
open Go.ChangeShapes Go.WideShapes Go.ChangeAt Go.RowKit

theorem cells_deal : Tryd.prog.cellsOf 29 = 130 := by kernel_rfl
theorem len6 {α : Type} (l : List α) (h : l.length = 6) : ∃ a b c d e f, l = [a, b, c, d, e, f] := by
  match l, h with
  | [a, b, c, d, e, f], _ => exact ⟨a, b, c, d, e, f, rfl⟩
theorem cut_atD {α : Type} (cs : List α) (a b : Nat) : cs.drop a = (cs.drop a).take b ++ cs.drop (a + b) := by
  have h := (List.take_append_drop b (cs.drop a)).symm
  rwa [List.drop_drop] at h
set_option maxHeartbeats 4000000 in
theorem open_deal {H : Type} {enc : TypeId × Value → H} {W : World} {held : Bool} {b1 n : Nat} {cs : List Value} {x : DataW H × List MemPlace} (h : DataW.trod enc Tryd.prog W b1 (fun _ => true) held n 29 cs = some x) :
    ∃ d : Deal, cs = dealV d ∧ d.Ok := by
  obtain ⟨xs, m, _, rfl, hcl, hxl, hf⟩ := DataW.trod_struct Tryd.underlying29 h
  rw [cells_deal] at hcl
  obtain ⟨y0, y1, y2, y3, y4, y5, rfl⟩ := len6 xs hxl
  have g0 : DataW.trod enc Tryd.prog W b1 (fun _ => true) held m 22 ((cs.drop 0).take (Tryd.prog.cellsOf 22)) = some y0 := hf 0 _ rfl
  have g1 : DataW.trod enc Tryd.prog W b1 (fun _ => true) held m 25 ((cs.drop 1).take (Tryd.prog.cellsOf 25)) = some y1 := hf 1 _ rfl
  have g2 : DataW.trod enc Tryd.prog W b1 (fun _ => true) held m 25 ((cs.drop 33).take (Tryd.prog.cellsOf 25)) = some y2 := hf 2 _ rfl
  have g3 : DataW.trod enc Tryd.prog W b1 (fun _ => true) held m 9 ((cs.drop 65).take (Tryd.prog.cellsOf 9)) = some y3 := hf 3 _ rfl
  have g4 : DataW.trod enc Tryd.prog W b1 (fun _ => true) held m 25 ((cs.drop 66).take (Tryd.prog.cellsOf 25)) = some y4 := hf 4 _ rfl
  have g5 : DataW.trod enc Tryd.prog W b1 (fun _ => true) held m 25 ((cs.drop 98).take (Tryd.prog.cellsOf 25)) = some y5 := hf 5 _ rfl
  rw [cells_u64] at g0
  rw [cells_tag] at g1 g2 g4
  rw [cells_str] at g3
  rw [cells_tag, List.take_of_length_le (by rw [List.length_drop]; omega)] at g5
  clear hf hxl h
  obtain ⟨z, e0, _, hwf⟩ := DataW.trod_int Tryd.underlying22 g0
  obtain ⟨l1, h1, e1⟩ := open_tag g1
  obtain ⟨l2, h2, e2⟩ := open_tag g2
  obtain ⟨s3, e3, _, _⟩ := DataW.trod_string Tryd.underlying9 g3
  obtain ⟨l4, h4, e4⟩ := open_tag g4
  obtain ⟨l5, h5, e5⟩ := open_tag g5
  have hb := bounds_u64 hwf
  refine ⟨⟨z.toNat, l1, l2, s3.data.toList, l4, l5⟩, ?_, ⟨by show z.toNat < _; omega, h1, h2, h4, h5⟩⟩
  have c0 : cs = cs.drop 0 := rfl
  rw [c0, cut_atD cs 0 1, cut_atD cs (0 + 1) 32, cut_atD cs (0 + 1 + 32) 32, cut_atD cs (0 + 1 + 32 + 32) 1, cut_atD cs (0 + 1 + 32 + 32 + 1) 32, e0, e1, e2, e3, e4, e5]
  unfold dealV
  dsimp only
  rw [bstr_data, show ((z.toNat : Nat) : Int) = z by omega]
/-- An argument that is a deal. -/
theorem open_dealArg {H : Type} {enc : TypeId × Value → H} {W : World} {held : Bool} {b0 b1 : Nat} {r : Reach} {v : Value} {d : DataW H} {p : List MemPlace}
    (hv : Value.okWide Tryd.prog W r b0 29 v) (h : DataW.Trod enc Tryd.prog W b1 (fun _ => true) held 29 v d p) :
    ∃ q : Deal, v = .agg (dealV q).toArray ∧ q.Ok := by
  simp only [Value.okWide, Tryd.underlying29] at hv
  obtain ⟨cs, rfl, _, _⟩ := hv
  obtain ⟨fuel, hf⟩ := h
  obtain ⟨q, e, h1⟩ := open_deal hf
  refine ⟨q, ?_, h1⟩
  have e : cs.toList = dealV q := e
  rw [← e]
def zDealV : Value := .agg (#[.int .u64 0] ++ Array.replicate 64 (.int .u8 0) ++ #[.string { data := #[] }] ++ Array.replicate 64 (.int .u8 0))
def zDealD {H : Type} : DataW H := .agg [.lit (.int .u64 0), .agg (List.replicate 32 (.lit (.int .u8 0))), .agg (List.replicate 32 (.lit (.int .u8 0))), .lit (.string []), .agg (List.replicate 32 (.lit (.int .u8 0))), .agg (List.replicate 32 (.lit (.int .u8 0)))]
end Go.Proofs.YtcbilopdeiapjaaDoor

/- LAYER 7: the document's block of a stream. -/
namespace Go.Proofs.YtcbilopdeiapjaaDoor
set_option maxRecDepth 100000
open Go Go.RowKit

set_option maxRecDepth 100000 in
set_option maxHeartbeats 1000000 in
theorem rblock_any (key nonce : List UInt8) (hk : key.length = 32) (hn : nonce.length = 32) (i : Nat) (hi : i < 9223372036854775808) (w : World) :
    Calls Tryd.prog 72 #[.agg (byts key).toArray, .agg (byts nonce).toArray, .int .i64 i] w fun e w' => e = .returned (.agg (byts (blockL key nonce i)).toArray) ∧ Below w.heap.size w w' := by
  obtain ⟨K, hK⟩ : ∃ K, K = byts key := ⟨_, rfl⟩
  have hKl : K.length = 32 := by rw [hK, length_byts]; exact hk
  have hszK := Lib.hid (show (Tryd.prog.info? 25).map (·.size) = some K.length by rw [size_tag, hKl])
  obtain ⟨M, hM⟩ : ∃ M, M = byts nonce := ⟨_, rfl⟩
  have HM := Lib.hid hM
  obtain ⟨V, hV⟩ : ∃ V, V = byts (blockL key nonce i) := ⟨_, rfl⟩
  have hVl : V.length = 32 := by rw [hV, length_byts]; exact length_blockL _ _ _
  have hone := Lib.hid (show ∀ v ∈ V, v.oneCell' = true by rw [hV]; exact byts_one _)
  have hszl := Lib.hid (show (Tryd.prog.info? 25).map (·.size) = some V.length by rw [size_tag, hVl])
  have hsz2 := Lib.hid (show (Tryd.prog.info? 25).map (·.size) = some V.toArray.size by rw [size_tag, List.size_toArray, hVl])
  have hfit := Lib.hid (show 0 + V.length ≤ (List.replicate 32 (Value.int .u8 0)).length by rw [hVl, List.length_replicate]; decide)
  have HVr := Lib.hid (show splice (List.replicate 32 (Value.int .u8 0)) 0 V = V by
    unfold splice
    rw [List.take_zero, List.nil_append, Nat.zero_add, hVl, List.drop_of_length_le (by rw [List.length_replicate]; exact Nat.le_refl _), List.append_nil])
  obtain ⟨E, hE⟩ : ∃ E, E = eightL i := ⟨_, rfl⟩
  have hnum := Lib.hid (show ∀ w1, Calls Tryd.prog 60 #[.int .u64 i] w1 (GaveBytes E w1) by rw [hE]; exact fun w1 => rnumber_any i (by omega) w1)
  have hkey := Lib.hid (show ∀ w1 B d, Sl w1 B d (strsV [nonce, E]) → Calls Tryd.prog 27 #[.agg K.toArray, .string (bstr streamU), .slice B 2 d] w1 fun e w' => e = .returned (.agg V.toArray) ∧ Below w1.heap.size w1 w' by
    rw [hK, hV, hE]
    exact fun w1 B d h => rkey_any key hk streamU B 2 d [nonce, eightL i] w1 h rfl (by show (6 + 1) + ((nonce.length + 1) + (((eightL i).length + 1) + 0)) ≤ _; rw [length_eightL, hn]; decide))
  have HVD := Lib.hid hV
  have HN := Lib.hid hn
  rw [← hK, ← hM]
  have hwr : IntKind.u64.wrap (i : Int) = (i : Int) := by rw [IntKind.wrap_u64]; omega
  clear hV hVl hK hKl hM hE hk hn hi
  go_enter Tryd.func72, Tryd.ntmps72
  go_wp2_with fail
  generalize hw3 : World.alloc (World.alloc (World.alloc w _) _) _ = w3
  obtain ⟨r0, r1, r2, hb3, hs3⟩ := rows3 (A := K) (B := M) (C := List.replicate 32 (.int .u8 0)) hw3
  have hlt3 : w.heap.size + 1 + 1 < w3.heap.size := r2.lt
  have ne0 : w.heap.size ≠ w.heap.size + 1 + 1 := by omega
  have hcv3 := conv_grown (g := w.heap.size + 1 + 1) (w := w3) (A := some ⟨w.heap.size + 1, 0, none⟩) (c := 32) (l := nonce) ⟨Rd.row (ys := []) (by rw [List.append_nil, ← HM.out]; exact r1), by rw [length_byts, HN.out]; exact Nat.le_refl _, fun h => by cases h⟩ 32 HN.out.symm (fun _ a ha => by cases ha; show w.heap.size + 1 ≠ _; omega)
  clear hw3 hs3 r1
  refine wp_region_noPanic ?_
  refine wp_region_held_drew (S := fun w' => World.grownBy w3 w' (some (w.heap.size + 1 + 1))) (by kernel_rfl) (grown_of_below (Below.refl _ _).drew _) (fun hHeld => ?_)
  have hAll := hHeld
  refine rt 0 7 hHeld ?_ (hy := by intro w hS; exact run_load_op 25 (.tmp 3) rfl _ 0 rfl K _ (row_range (r0.grown hS ne0)) Tryd.underlying25 rfl hszK.out)
  refine rt 1 8 hHeld ?_
  refine rt 2 9 hHeld ?_
  refine rt 3 10 hHeld ?_
  refine rt 4 11 hHeld ?_
  refine rc1 5 fun K hK => ?_
  go_simp
  refine (hnum.out _).mono ?_; rintro e w4 ⟨v4, rfl, hown4, hb4⟩; have hb34 := ((Below.refl w3.heap.size w3).drew).trans (hb4.mono (Nat.le_refl _)); obtain ⟨A4, c4, rfl, _, hsl4⟩ := Sl.of_own hown4; have hcv4 := conv_grown (g := w.heap.size + 1 + 1) hsl4 _ rfl (fun _ a ha => own_apart hown4 hlt3 a ha); clear hown4
  try go_wp2_with fail
  refine hK.out _ _ (grown_trans hHeld (grown_of_below hb4 _)) (fun _ => ?_)
  clear hK K
  have hAll := grown_trans hAll (grown_of_below hb4 _)
  refine wpAnyH_narrow (S' := fun w' => World.grownBy w4 w' (some (w.heap.size + 1 + 1))) (fun _ h => grown_trans (grown_trans hHeld (grown_of_below hb4 _)) h) _ _ _ _ ?_
  clear hHeld
  have hHeld : World.grownBy w4 w4 (some (w.heap.size + 1 + 1)) := grown_refl _ _
  refine rt 6 13 hHeld ?_
  refine rc1 7 fun K hK => ?_
  refine step_alloc (some 14) rfl (by rfl) (.slice (some ⟨w4.heap.size, 0, none⟩) 2 2) (.cells #[.string (bstr nonce), .string (bstr E)] 9) (by go_simp) ?_; intro w5 hw5 hb5; have hb35 := below_step hb34 hb5; have hss : Sl w5 (some ⟨w4.heap.size, 0, none⟩) 2 (strsV [nonce, E]) := (by rw [hw5]; exact ⟨Rd.row (ys := []) (by rw [List.append_nil]; exact Row.new w4 9 (strsV [nonce, E])), by rw [length_strsV]; exact Nat.le_refl _, fun h => by cases h⟩); clear hw5
  refine rk hK (grown_trans hHeld (grown_of_below hb5 _)) fun _ => ?_
  clear hK K
  have hAll := grown_trans hAll (grown_of_below hb5 _)
  refine wpAnyH_narrow (S' := fun w' => World.grownBy w5 w' (some (w.heap.size + 1 + 1))) (fun _ h => grown_trans (grown_trans hHeld (grown_of_below hb5 _)) h) _ _ _ _ ?_
  clear hHeld
  have hHeld : World.grownBy w5 w5 (some (w.heap.size + 1 + 1)) := grown_refl _ _
  refine rc1 8 fun K hK => ?_
  go_simp
  refine (hkey.out _ _ _ hss).mono ?_; rintro e w6 ⟨rfl, hb6⟩; have hb36 := below_step hb35 hb6
  try go_wp2_with fail
  refine hK.out _ _ (grown_trans hHeld (grown_of_below hb6 _)) (fun _ => ?_)
  clear hK K
  have hAll := grown_trans hAll (grown_of_below hb6 _)
  refine wpAnyH_narrow (S' := fun w' => World.grownBy w6 w' (some (w.heap.size + 1 + 1))) (fun _ h => grown_trans (grown_trans hHeld (grown_of_below hb6 _)) h) _ _ _ _ ?_
  clear hHeld
  have hHeld : World.grownBy w6 w6 (some (w.heap.size + 1 + 1)) := grown_refl _ _
  refine rc1 9 fun K hK => ?_
  refine step_store_row none rfl (by rfl) 25 (.tmp 6) (.tmp 15) rfl (w.heap.size + 1 + 1) 0 25 _ V rfl rfl (r2.later hb36 r2.lt) hfit.out hszl.out hone.out ?_; intro w9 r9 hg9
  refine hK.out _ _ (grown_trans hHeld hg9) (fun _ => ?_)
  clear hK K
  rw [put_none]
  have hAll := grown_trans hAll hg9
  refine wpAnyH_narrow (S' := fun w' => World.grownBy w9 w' (some (w.heap.size + 1 + 1))) (fun _ h => grown_trans (grown_trans hHeld hg9) h) _ _ _ _ ?_
  clear hHeld
  have hHeld : World.grownBy w9 w9 (some (w.heap.size + 1 + 1)) := grown_refl _ _
  refine wpAnyH_done (by kernel_rfl) ?_ _
  refine NoPanic.normal ?_
  have r9 : Row w9 (w.heap.size + 1 + 1) 25 V := by rw [HVr.out] at r9; exact r9
  have hb9 := hb3.grown hAll hb3.size (fun k h => by cases h; omega)
  have R9 := Lib.hid (show w9.heap[w.heap.size + 1 + 1]? = some (.cells V.toArray 25 (0, 0)) from r9)
  clear r9 hg9 r0 r2 hcv3 hcv4 hsl4 hss hb4 hb5 hb6 hb34 hb35 hb36 hb3 hAll hHeld
  go_wp2_with (with_reducible refine bodyPost_ret (results_cell_row rfl _ _ (w.heap.size + 1 + 1) 25 V.toArray (0, 0) (.array 32 5) rfl R9.out Tryd.underlying25 rfl hsz2.out) rfl ?_)
  exact ⟨by rw [HVD.out], hb9⟩
end Go.Proofs.YtcbilopdeiapjaaDoor

/- LAYER 7: the document's Stream. -/
namespace Go.Proofs.YtcbilopdeiapjaaDoor
set_option maxRecDepth 100000
open Go Go.RowKit

theorem heap_at4 (w : World) (a b c d : Obj) : ((((w.alloc a).alloc b).alloc c).alloc d).heap[w.heap.size + 1 + 1 + 1]? = some d := by
  have := heap_alloc_new (((w.alloc a).alloc b).alloc c) d
  rwa [World.size_alloc, World.size_alloc, World.size_alloc] at this
theorem rows4_set {w w4 : World} {A B : List Value} {C : Obj} {D : Array Value} {tA tB tD : TypeId} {xs : List Value}
    (h : ((((w.alloc (.cells A.toArray tA)).alloc (.cells B.toArray tB)).alloc C).alloc (.cells D tD)).setRow (w.heap.size + 1 + 1 + 1) xs.toArray = w4) :
    Row w4 w.heap.size tA A ∧ Row w4 (w.heap.size + 1) tB B ∧ Row w4 (w.heap.size + 1 + 1 + 1) tD xs ∧ Below w.heap.size w w4 ∧ w.heap.size + 1 + 1 + 1 + 1 ≤ w4.heap.size := by
  subst h
  have s1 : (w.alloc (.cells A.toArray tA)).heap.size = w.heap.size + 1 := World.size_alloc _ _
  have s2 : ((w.alloc (.cells A.toArray tA)).alloc (.cells B.toArray tB)).heap.size = w.heap.size + 1 + 1 := by rw [World.size_alloc, s1]
  have s3 : (((w.alloc (.cells A.toArray tA)).alloc (.cells B.toArray tB)).alloc C).heap.size = w.heap.size + 1 + 1 + 1 := by rw [World.size_alloc, s2]
  have b3 : Below (w.heap.size + 1 + 1) ((w.alloc (.cells A.toArray tA)).alloc (.cells B.toArray tB)) ((((w.alloc (.cells A.toArray tA)).alloc (.cells B.toArray tB)).alloc C).alloc (.cells D tD)) :=
    ((Below.refl _ _).alloc (by rw [s2]; exact Nat.le_refl _) _).alloc (by rw [s3]; omega) _
  have g := grown_setRow ((((w.alloc (.cells A.toArray tA)).alloc (.cells B.toArray tB)).alloc C).alloc (.cells D tD)) (w.heap.size + 1 + 1 + 1) xs.toArray
  have r0 : Row ((w.alloc (.cells A.toArray tA)).alloc (.cells B.toArray tB)) w.heap.size tA A := heap_alloc2_old w _ _
  have r1 : Row ((w.alloc (.cells A.toArray tA)).alloc (.cells B.toArray tB)) (w.heap.size + 1) tB B := heap_alloc2_new w _ _
  have b2 : Below w.heap.size w ((w.alloc (.cells A.toArray tA)).alloc (.cells B.toArray tB)) := ((Below.refl _ w).alloc (Nat.le_refl _) _).alloc (by omega) _
  refine ⟨(r0.later b3 (by omega)).grown g (by omega), (r1.later b3 (by omega)).grown g (by omega), setRow_heap _ _ _ _ _ _ (heap_at4 w _ _ _ _), (b2.trans (b3.mono (by omega))).grown g (by rw [World.size_alloc, s3]; omega) (fun k h => by cases h; omega), ?_⟩
  have := g.size
  rw [World.size_alloc, s3] at this
  exact this
set_option maxRecDepth 100000 in
set_option maxHeartbeats 2000000 in
theorem rstream_any (key nonce : List UInt8) (hk : key.length = 32) (hn : nonce.length = 32) (many : Nat) (hm : many ≤ 1000000000) (w : World) :
    Calls Tryd.prog 57 #[.agg (byts key).toArray, .agg (byts nonce).toArray, .int .i64 many] w fun e w' => ∃ A c, e = .returned (.slice A many c) ∧ Sl w' A c (byts (streamL key nonce many)) ∧ Below w.heap.size w w' := by
  obtain ⟨i0, hi, hz0, hz1, hz2⟩ := info_parts infoByte
  obtain ⟨K, hK⟩ : ∃ K, K = byts key := ⟨_, rfl⟩
  have hKl : K.length = 32 := by rw [hK, length_byts]; exact hk
  have hszK := Lib.hid (show (Tryd.prog.info? 25).map (·.size) = some K.toArray.size by rw [size_tag, List.size_toArray, hKl])
  obtain ⟨M, hM⟩ : ∃ M, M = byts nonce := ⟨_, rfl⟩
  have hMl : M.length = 32 := by rw [hM, length_byts]; exact hn
  have hszM := Lib.hid (show (Tryd.prog.info? 25).map (·.size) = some M.toArray.size by rw [size_tag, List.size_toArray, hMl])
  have hblk := Lib.hid (show ∀ w1 (i : Nat), i < 9223372036854775808 → Calls Tryd.prog 72 #[.agg K.toArray, .agg M.toArray, .int .i64 i] w1 fun e w' => e = .returned (.agg (byts (blockL key nonce i)).toArray) ∧ Below w1.heap.size w1 w' by
    rw [hK, hM]; exact fun w1 i hi => rblock_any key nonce hk hn i hi w1)
  rw [← hK, ← hM]
  clear hK hKl hM hMl hk hn
  go_enter Tryd.func57, Tryd.ntmps57
  go_wp2_with (with_reducible refine wpList_store_row rfl 25 (.tmp 8) (.tmp 11) rfl (w.heap.size + 1 + 1 + 1) _ rfl rfl 25 _ (heap_at4 w _ _ _ _) (by kernel_rfl) (by kernel_rfl) (by kernel_rfl) ?_; refine Hid.out ?_)
  refine Lib.hid ?_
  generalize hw4 : World.setRow _ _ _ = w4
  obtain ⟨r0, r1, r3, hb4, h4⟩ := rows4_set (A := K) (B := M) (xs := List.replicate 32 (.int .u8 0)) hw4
  rw [zero_cells] at r3
  clear hw4
  go_wp2_with fail
  go_loopw [7, 9] (fun v i wr => ∃ k : Nat, k ≤ many ∧ i = .int .i64 k ∧ Begun wr (w.heap.size + 1 + 1 + 1 + 1) 5 v k (byts (streamL key nonce k)) ∧ Row wr w.heap.size 25 K ∧ Row wr (w.heap.size + 1) 25 M ∧ (∃ T : List UInt8, T.length = 32 ∧ Row wr (w.heap.size + 1 + 1 + 1) 25 (byts T) ∧ (k % 32 ≠ 0 → T = blockL key nonce (k / 32))) ∧ Below w.heap.size w wr ∧ w.heap.size + 1 + 1 + 1 + 1 ≤ wr.heap.size) (fun _ i _ => many - (intOf i).toNat)
  case atStart => exact ⟨0, by omega, rfl, Begun.lit _ _ _ _, r0, r1, ⟨zeroT, rfl, r3, fun h => absurd rfl h⟩, hb4, h4⟩
  case round =>
    clear r0 r1 r3 hb4 h4
    obtain ⟨k, hk, rfl, hbeg, r0, r1, ⟨T, hTl, rT, hT⟩, hb, h4⟩ := hrel
    by_cases hlt : k < many
    · have n1 : k + 1 ≤ maxLen := by unfold maxLen; omega
      have n2 : (k + 1) * 1 ≤ 140737488355328 := by omega
      obtain ⟨r, hrk⟩ : ∃ r, r = k % 32 := ⟨_, rfl⟩
      have hr : r < 32 := by omega
      have hrem : (k : Int) % (32 : Int) = (r : Int) := by rw [hrk]; omega
      have hk32 := Lib.hid hrk
      have hT := fun h : r ≠ 0 => hT (by rw [← hrk]; exact h)
      clear hrk
      by_cases h0 : r = 0
      · have HR := Lib.hid hrem
        have hrem0 : (k : Int) % (32 : Int) = 0 := by rw [hrem, h0]; rfl
        clear hrem h0
        obtain ⟨q, hq⟩ : ∃ q, q = k / 32 := ⟨_, rfl⟩
        have hquo : (k : Int) / (32 : Int) = (q : Int) := by rw [hq]; omega
        have hqb : q < 9223372036854775808 := by omega
        obtain ⟨T', hT'⟩ : ∃ T', T' = blockL key nonce (k / 32) := ⟨_, rfl⟩
        obtain ⟨V, hV⟩ : ∃ V, V = byts T' := ⟨_, rfl⟩
        have hVl : V.length = 32 := by rw [hV, length_byts, hT']; exact length_blockL _ _ _
        have hone := Lib.hid (all_one (show ∀ v ∈ V, v.oneCell' = true by rw [hV]; exact byts_one _))
        have hsz := Lib.hid (show (Tryd.prog.info? 25).map (·.size) = some V.toArray.size by rw [size_tag, List.size_toArray, hVl])
        have hszo := Lib.hid (show (byts T).toArray.size = V.toArray.size by rw [List.size_toArray, List.size_toArray, length_byts, hTl, hVl])
        have hb1 := Lib.hid (show Calls Tryd.prog 72 #[.agg K.toArray, .agg M.toArray, .int .i64 (q : Int)] wr fun e w' => e = .returned (.agg V.toArray) ∧ Below wr.heap.size wr w' by rw [hV, hT', ← hq]; exact hblk.out wr q hqb)
        have HV := Lib.hid hV
        have HT' := Lib.hid hT'
        have HK1 := Lib.hid (show (k + 1) % 32 ≠ 0 → T' = blockL key nonce ((k + 1) / 32) from fun _ => by rw [hT', show (k + 1) / 32 = k / 32 by omega])
        have R0 := Lib.hid (show wr.heap[w.heap.size]? = some (.cells K.toArray 25 (0, 0)) from r0)
        have R1 := Lib.hid (show wr.heap[w.heap.size + 1]? = some (.cells M.toArray 25 (0, 0)) from r1)
        have hTl' : T'.length = 32 := by rw [hT']; exact length_blockL _ _ _
        clear hV hVl hT' hT hr hq hqb
        go_wp2_with (first
          | (with_reducible refine wpList_load_row rfl 25 (.tmp 3) rfl w.heap.size rfl 25 K.toArray (0, 0) (.array 32 5) R0.out Tryd.underlying25 rfl hszK.out ?_)
          | (with_reducible refine wpList_load_row rfl 25 (.tmp 4) rfl (w.heap.size + 1) rfl 25 M.toArray (0, 0) (.array 32 5) R1.out Tryd.underlying25 rfl hszM.out ?_)
          | (go_at_call 72; refine hb1.out.mono ?_; rintro e w5 ⟨rfl, hb5⟩; have RT := Lib.hid (show w5.heap[w.heap.size + 1 + 1 + 1]? = some (.cells (byts T).toArray 25 (0, 0)) from rT.later hb5 rT.lt))
          | (with_reducible refine wpList_store_row rfl 25 (.tmp 8) (.tmp 24) rfl (w.heap.size + 1 + 1 + 1) V.toArray rfl rfl 25 _ RT.out hsz.out hszo.out hone.out ?_; refine Hid.out ?_))
        refine Lib.hid ?_
        generalize hw6 : World.setRow _ _ _ = w6
        obtain ⟨r6, hg6⟩ := row_set (show Row w5 (w.heap.size + 1 + 1 + 1) 25 (byts T) from RT.out) hw6
        have hTl := hTl'
        have hT := HT'.out
        have hr : r < 32 := by have := hk32.out; omega
        rw [HV.out] at r6
        have r0' := (r0.later hb5 r0.lt).grown hg6 (by omega)
        have r1' := (r1.later hb5 r1.lt).grown hg6 (by omega)
        have hbeg6 := (hbeg.later hb5 (Nat.le_refl _)).grown hg6 (by omega)
        have hb6 := (hb.trans (hb5.mono hb.size)).grown hg6 (Nat.le_trans hb.size hb5.size) (fun k h => by cases h; omega)
        have H4 : w.heap.size + 1 + 1 + 1 + 1 ≤ w6.heap.size := Nat.le_trans h4 (Nat.le_trans hb5.size hg6.size)
        clear hw6 R0 R1 RT hb1 hsz hszo hone HV HT' hTl' hbeg r0 r1 rT
        generalize T' = T at *
        have hrem := HR.out
        clear hrem0
        have hcell : w6.cell? ⟨w.heap.size + 1 + 1 + 1, r, none⟩ = some (.int .u8 ((T.getD r 0).toNat : Int)) := by rw [r6.cell, get_byts _ _ (by rw [hTl]; exact hr)]
        have HS := Lib.hid (streamL_succ key nonce k)
        have HT := Lib.hid (show (blockL key nonce (k / 32)).getD (k % 32) 0 = T.getD r 0 by rw [← hT, ← hk32.out])
        generalize T.getD r 0 = x at *
        have hbsz := hb6.size
        have hbeg5 := (hbeg6).later ((Below.refl (w6).heap.size w6).alloc (Nat.le_refl _) (.cells (byts [x]).toArray 5)) (Nat.le_refl _)
        have hsx : Sl ((w6).alloc (.cells (byts [x]).toArray 5)) (some ⟨(w6).heap.size, 0, none⟩) 1 (byts [x]) := ⟨Rd.block (Go.heap_alloc_new (w6) _), by rw [length_byts]; exact Nat.le_refl _, fun h => by cases h⟩
        have hbx : w.heap.size + 1 + 1 + 1 + 1 ≤ ((w6).alloc (.cells (byts [x]).toArray 5)).heap.size := by rw [World.size_alloc]; exact Nat.le_succ_of_le H4
        have hrr : (r : Int) < 32 := by omega
        clear hT
        go_wp2_with (at_builtin; refine wpList_append_begun rfl (.tmp 25) (.tmp 30) 58 rfl (w.heap.size + 1 + 1 + 1 + 1) 5 i0 _ 1 Tryd.underlying58 hi hz0 hz1 hz2 rfl _ k (byts (streamL key nonce k)) rfl hbeg5 (some ⟨(w6).heap.size, 0, none⟩) 1 1 (byts [x]) rfl rfl (by decide) hsx (byts_one _) n1 n2 hbx ?_; intro v7 w7 hown7 hb7)
        have hbA := ((Below.refl (w6).heap.size w6).alloc (Nat.le_refl _) (.cells (byts [x]).toArray 5))
        have hb57 : Below (w.heap.size + 1 + 1 + 1 + 1) w6 w7 := (hbA.mono H4).trans hb7
        rw [← byts_append, ← HT.out, ← HS.out] at hown7
        go_roundw
        case rel => exact ⟨k + 1, by omega, by go_num, .inr hown7, r0'.later hb57 (by omega), r1'.later hb57 (by omega), ⟨T, hTl, r6.later hb57 (by omega), fun h => HK1.out h⟩, (hb6).trans (hb57.mono (by omega)), Nat.le_trans H4 hb57.size⟩
        case measure => simp [intOf]; omega
      · have hr0 : ¬ (r : Int) = 0 := by omega
        have hT := hT h0
        have r0' := r0
        have r1' := r1
        have H4 := h4
        have HK1 := Lib.hid (show (k + 1) % 32 ≠ 0 → T = blockL key nonce ((k + 1) / 32) from fun h => by rw [hT, show (k + 1) / 32 = k / 32 by omega])
        have hcell : wr.cell? ⟨w.heap.size + 1 + 1 + 1, r, none⟩ = some (.int .u8 ((T.getD r 0).toNat : Int)) := by rw [rT.cell, get_byts _ _ (by rw [hTl]; exact hr)]
        have HS := Lib.hid (streamL_succ key nonce k)
        have HT := Lib.hid (show (blockL key nonce (k / 32)).getD (k % 32) 0 = T.getD r 0 by rw [← hT, ← hk32.out])
        generalize T.getD r 0 = x at *
        have hbsz := hb.size
        have hbeg5 := (hbeg).later ((Below.refl (wr).heap.size wr).alloc (Nat.le_refl _) (.cells (byts [x]).toArray 5)) (Nat.le_refl _)
        have hsx : Sl ((wr).alloc (.cells (byts [x]).toArray 5)) (some ⟨(wr).heap.size, 0, none⟩) 1 (byts [x]) := ⟨Rd.block (Go.heap_alloc_new (wr) _), by rw [length_byts]; exact Nat.le_refl _, fun h => by cases h⟩
        have hbx : w.heap.size + 1 + 1 + 1 + 1 ≤ ((wr).alloc (.cells (byts [x]).toArray 5)).heap.size := by rw [World.size_alloc]; exact Nat.le_succ_of_le H4
        have hrr : (r : Int) < 32 := by omega
        clear hT
        go_wp2_with (at_builtin; refine wpList_append_begun rfl (.tmp 25) (.tmp 30) 58 rfl (w.heap.size + 1 + 1 + 1 + 1) 5 i0 _ 1 Tryd.underlying58 hi hz0 hz1 hz2 rfl _ k (byts (streamL key nonce k)) rfl hbeg5 (some ⟨(wr).heap.size, 0, none⟩) 1 1 (byts [x]) rfl rfl (by decide) hsx (byts_one _) n1 n2 hbx ?_; intro v7 w7 hown7 hb7)
        have hbA := ((Below.refl (wr).heap.size wr).alloc (Nat.le_refl _) (.cells (byts [x]).toArray 5))
        have hb57 : Below (w.heap.size + 1 + 1 + 1 + 1) wr w7 := (hbA.mono H4).trans hb7
        rw [← byts_append, ← HT.out, ← HS.out] at hown7
        go_roundw
        case rel => exact ⟨k + 1, by omega, by go_num, .inr hown7, r0'.later hb57 (by omega), r1'.later hb57 (by omega), ⟨T, hTl, rT.later hb57 (by omega), fun h => HK1.out h⟩, (hb).trans (hb57.mono (by omega)), Nat.le_trans H4 hb57.size⟩
        case measure => simp [intOf]; omega
    · obtain rfl : k = many := by omega
      obtain ⟨A, c, rfl, _, hsl⟩ := hbeg.sl
      clear hlt hk
      go_wp2
      go_ret
      exact ⟨A, c, rfl, hsl, hb⟩
end Go.Proofs.YtcbilopdeiapjaaDoor

/- LAYER 7: the document's turned bytes. -/
namespace Go.Proofs.YtcbilopdeiapjaaDoor
set_option maxRecDepth 100000
open Go Go.RowKit

set_option maxRecDepth 100000 in
set_option maxHeartbeats 2000000 in
theorem rturn7_any (key nonce : List UInt8) (hk : key.length = 32) (hn : nonce.length = 32) (s : List UInt8) (hs : s.length ≤ 1000000000) (w : World) :
    Calls Tryd.prog 41 #[.agg (byts key).toArray, .agg (byts nonce).toArray, .string (bstr s)] w fun e w' => e = .returned (.string (bstr (turnL key nonce s))) ∧ Below w.heap.size w w' := by
  obtain ⟨i0, hi, hz0, hz1, hz2⟩ := info_parts infoByte
  obtain ⟨K, hK⟩ : ∃ K, K = byts key := ⟨_, rfl⟩
  have hKl : K.length = 32 := by rw [hK, length_byts]; exact hk
  have hszK := Lib.hid (show (Tryd.prog.info? 25).map (·.size) = some K.toArray.size by rw [size_tag, List.size_toArray, hKl])
  obtain ⟨M, hM⟩ : ∃ M, M = byts nonce := ⟨_, rfl⟩
  have hMl : M.length = 32 := by rw [hM, length_byts]; exact hn
  have hszM := Lib.hid (show (Tryd.prog.info? 25).map (·.size) = some M.toArray.size by rw [size_tag, List.size_toArray, hMl])
  obtain ⟨X, hX⟩ : ∃ X, X = streamL key nonce s.length := ⟨_, rfl⟩
  have hXl : X.length = s.length := by rw [hX]; exact length_streamL _ _ _
  have hstr := Lib.hid (show ∀ w1, Calls Tryd.prog 57 #[.agg K.toArray, .agg M.toArray, .int .i64 s.length] w1 fun e w' => ∃ A c, e = .returned (.slice A s.length c) ∧ Sl w' A c (byts X) ∧ Below w1.heap.size w1 w' by
    rw [hK, hM, hX]; exact fun w1 => rstream_any key nonce hk hn s.length hs w1)
  have HX := Lib.hid hX
  have hz := size_bstr s
  have h0 := two_rows (w := w) (A := K) (B := M) (tA := 25) (tB := 25) rfl
  obtain ⟨r0, r1, hb0, _⟩ := h0
  have R0 := Lib.hid (show ((w.alloc (.cells K.toArray 25)).alloc (.cells M.toArray 25)).heap[w.heap.size]? = some (.cells K.toArray 25 (0, 0)) from r0)
  have R1 := Lib.hid (show ((w.alloc (.cells K.toArray 25)).alloc (.cells M.toArray 25)).heap[w.heap.size + 1]? = some (.cells M.toArray 25 (0, 0)) from r1)
  rw [← hK, ← hM]
  clear hK hKl hM hMl hk hn hX r0 r1
  go_enter Tryd.func41, Tryd.ntmps41
  go_wp2_with (first
    | (with_reducible refine wpList_load_row rfl 25 (.tmp 3) rfl w.heap.size rfl 25 K.toArray (0, 0) (.array 32 5) R0.out Tryd.underlying25 rfl hszK.out ?_)
    | (with_reducible refine wpList_load_row rfl 25 (.tmp 4) rfl (w.heap.size + 1) rfl 25 M.toArray (0, 0) (.array 32 5) R1.out Tryd.underlying25 rfl hszM.out ?_)
    | (go_at_call 57; refine (hstr.out _).mono ?_; rintro e w1 ⟨A1, c1, rfl, hslX, hb1⟩; have hbw1 := hb0.trans (hb1.mono hb0.size); have hown0 : (w1.alloc (.cells #[] 5)).ownsRow w1.heap.size 5 1 (.slice (some ⟨w1.heap.size, 0, none⟩) 0 0) 0 [] := World.ownsRow_lit w1 #[] 0 (Nat.le_refl _) (by unfold maxLen; omega) rfl; have hbl := (Below.refl w1.heap.size w1).alloc (Nat.le_refl _) (.cells #[] 5); clear hb1 hb0 R0 R1))
  go_loopw [8, 9] (fun v i wr => ∃ k : Nat, k ≤ s.length ∧ i = .int .i64 k ∧ wr.ownsRow w1.heap.size 5 1 v k (byts (xorWith (s.take k) (X.take k))) ∧ Below w1.heap.size w1 wr) (fun _ i _ => s.length - (intOf i).toNat)
  case atStart => exact ⟨0, by omega, rfl, hown0, hbl⟩
  case round =>
    clear hown0 hbl
    obtain ⟨k, hk, rfl, hown, hb⟩ := hrel
    by_cases hlt : k < s.length
    · obtain ⟨b, o, rfl, _, _⟩ := hslX.rd.get (i := 0) (by rw [length_byts]; omega)
      have n1 : k + 1 ≤ maxLen := by unfold maxLen; omega
      have n2 : (k + 1) * 1 ≤ 140737488355328 := by omega
      have hixs := index_bstr s k hlt
      have hixX := index_bytes (some ⟨b, o, none⟩) b o s.length c1 k rfl hlt
      have hcX : ∀ w', Below w1.heap.size w1 w' → w'.cell? ⟨b, o + k, none⟩ = some (.int .u8 ((X.getD k 0).toNat : Int)) := fun w' h => by
        obtain ⟨b', o', he, _, hc⟩ := (hslX.later (Nat.le_refl _) h).rd.get (i := k) (by rw [length_byts]; omega)
        cases he
        rw [hc, get_byts _ _ (by omega)]
      have HS := Lib.hid (xorWith_succ s X k hlt (by omega))
      generalize xorWith (s.take k) (X.take k) = F at *
      generalize s.getD k 0 = x at *
      generalize X.getD k 0 = y at *
      have hby := Lib.hid (show byts [x ^^^ y] = [Value.int .u8 (bits .xor .u8 (x.toNat : Int) (y.toNat : Int))] by rw [byte_xor]; rfl)
      generalize hU : bstr s = U at *
      clear hU
      go_wp2_with fail
      refine wp_region_noPanic ?_
      refine wp_region_held_drew (S := fun w' => Below w1.heap.size w1 w') (by kernel_rfl) (hb.drew) (fun hHeld => ?_)
      refine rt 0 22 hHeld ?_
      refine rt 1 23 hHeld ?_
      refine rt 2 24 hHeld ?_
      refine rt 3 25 hHeld ?_
      refine rt 4 26 hHeld ?_
      refine rt 5 27 hHeld ?_
      refine rt 6 28 hHeld ?_
      refine rt 7 29 hHeld ?_
      refine rt 8 30 hHeld ?_
      refine rc1 9 fun K hK => ?_
      refine step_alloc (some 31) rfl (by rfl) (.slice (some ⟨wr.heap.size, 0, none⟩) 1 1) (.cells (byts [x ^^^ y]).toArray 5) (by rw [hby.out]; go_simp) ?_; intro w4 hw4 hb4; have hsx : Sl w4 (some ⟨wr.heap.size, 0, none⟩) 1 (byts [x ^^^ y]) := (by rw [hw4]; exact ⟨Rd.block (Go.heap_alloc_new wr.drew _), by rw [length_byts]; exact Nat.le_refl _, fun h => by cases h⟩); have hown4 := own_later hown ((Below.refl wr.heap.size wr).drew.trans hb4) (Nat.le_refl _); clear hw4
      refine rk hK (hHeld.trans (hb4.mono hHeld.size)) fun hHeld => ?_
      clear hK K
      refine rc1 10 fun K hK => ?_
      refine step_append_at (some 32) rfl (by rfl) (.tmp 22) (.tmp 31) 58 rfl w1.heap.size 5 i0 _ 1 Tryd.underlying58 hi hz0 hz1 hz2 rfl _ k _ rfl hown4 (some ⟨wr.heap.size, 0, none⟩) 1 1 (byts [x ^^^ y]) rfl rfl hsx (byts_one _) n1 n2 w1 rfl hHeld ?_; intro v5 w5 hown5 hg5 hb5
      refine rk hK (hb5) fun hHeld => ?_
      clear hK K
      refine rt 11 8 hHeld ?_
      refine wpAnyH_done (by kernel_rfl) ?_ _
      refine NoPanic.normal ?_
      have e1 : byts F ++ byts [x ^^^ y] = byts (F ++ [x ^^^ y]) := (byts_append _ _).symm
      rw [e1, ← HS.out] at hown5
      clear hown4 hown hsx hb4 hg5 hb
      go_wp2_with fail
      go_roundw
      case rel => exact ⟨k + 1, by omega, by go_num, hown5, hb5⟩
      case measure => simp [intOf]; omega
    · obtain rfl : k = s.length := by omega
      rw [List.take_length, List.take_of_length_le (by omega)] at hown
      have hF : turnL key nonce s = xorWith s X := by rw [HX.out]; rfl
      obtain ⟨A, c, rfl, _, hsl⟩ := Sl.of_own hown
      have hFl : s.length = (xorWith s X).length := (length_xorWith s X hXl.symm).symm
      have hcv := conv_bytes hsl s.length hFl
      have hF := Lib.hid hF
      clear hlt hk hsl hown hslX hXl hFl
      generalize xorWith s X = F at *
      generalize hU : bstr s = U at *
      clear hU
      generalize s.length = n at *
      go_wp2
      go_ret
      exact ⟨by rw [hF.out]; rfl, hbw1.trans (hb.mono hbw1.size)⟩
end Go.Proofs.YtcbilopdeiapjaaDoor
