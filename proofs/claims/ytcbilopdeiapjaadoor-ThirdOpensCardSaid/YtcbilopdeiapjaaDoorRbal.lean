/- Texts of this claim, one behind the other. -/
import Derived.Test.YtcbilopdeiapjaaDoorRbak
import Derived.Test.YtcbilopdeiapjaaDoorRbai
import Derived.Test.YtcbilopdeiapjaaDoorRbac
import Derived.Test.YtcbilopdeiapjaaDoorRbah
/- LAYER 10: package packet: Same, Clone. -/
namespace Go.Proofs.YtcbilopdeiapjaaDoor
set_option maxRecDepth 100000
open Go Go.RowKit

theorem nil_none (w : World) : (binOp BinOp.eql 23 (.slice none 0 0) (.slice none 0 0)).run Tryd.prog w = .ok (.bool true) w := by kernel_rfl
theorem own_baseP {w : World} {b b' t k n : Nat} {v : Value} {xs : List Value} (h : w.ownsRow b t k v n xs) (hb : b' ≤ b) : w.ownsRow b' t k v n xs := by
  obtain ⟨hl, h | ⟨g, cap, cur, rfl, hg, h⟩⟩ := h
  · exact ⟨hl, .inl h⟩
  · exact ⟨hl, .inr ⟨g, cap, cur, rfl, Nat.le_trans hb hg, h⟩⟩
theorem nil_some (ad : Addr) (n c : Nat) (w : World) : (binOp BinOp.eql 23 (.slice (some ad) n c) (.slice none 0 0)).run Tryd.prog w = .ok (.bool false) w := by kernel_rfl
set_option maxRecDepth 100000 in
set_option maxHeartbeats 2000000 in
theorem psclone_own (cs : List Cav) (hm : cs.length ≤ 1000000) (A : Option Addr) (c : Nat) (w : World) (hs : Sl w A (c * 5) (cs.flatMap cavV)) :
    Calls Tryd.prog 44 #[.slice A cs.length c] w fun e w' => ∃ B d, e = .returned (.slice B cs.length d) ∧ w'.ownsRow w.heap.size 48 5 (.slice B cs.length d) cs.length (cs.flatMap cavV) ∧ Below w.heap.size w w' := by
  cases A with
  | none =>
    have h0 : cs.length = 0 := by
      have h1 := hs.bare rfl
      have h2 := hs.room
      rw [length_cavsV] at h2
      omega
    have hc : c = 0 := by
      have h1 := hs.bare rfl
      omega
    obtain rfl : cs = [] := List.eq_nil_of_length_eq_zero h0
    subst hc
    clear h0
    have hnil := nil_none
    go_enter Tryd.func44, Tryd.ntmps44
    go_wp2
    go_ret
    exact ⟨none, 0, rfl, World.ownsRow_nil w _ _ _, Below.refl _ _⟩
  | some ad =>
    obtain ⟨i0, hi, hz0, hz1, hz2⟩ := info_cav
    have HF := Lib.hid (length_cavsV cs)
    have hone := Lib.hid (cavV_one cs)
    have n1 : 0 + cs.length ≤ maxLen := by unfold maxLen; omega
    have n2 : (0 + cs.length) * 64 ≤ 140737488355328 := by omega
    have hb1 := (Below.refl w.heap.size w).alloc (Nat.le_refl _) (.cells #[] 48)
    have hs1 := hs.later (Nat.le_refl _) hb1
    have hown1 : (w.alloc (.cells #[] 48)).ownsRow w.heap.size 48 5 (.slice (some ⟨w.heap.size, 0, none⟩) 0 0) 0 [] := World.ownsRow_lit w _ 0 (Nat.le_refl _) (by decide) rfl
    generalize hw1 : w.alloc (.cells #[] 48) = w1 at hb1 hs1 hown1
    have HW := Lib.hid hw1
    clear hw1 hs
    generalize cs.length = n at *
    have hnil := nil_some ad n c
    go_enter Tryd.func44, Tryd.ntmps44
    go_wp2_with (at_builtin; rw [HW.out]; refine wpList_append_k rfl (.tmp 5) (.tmp 6) 23 rfl w.heap.size 48 i0 _ 5 64 Tryd.underlying23 hi hz0 hz1 (by omega) hz2 rfl _ 0 [] rfl hown1 (some ad) n c (cs.flatMap cavV) rfl HF.out hs1 hone.out n1 n2 hb1.size ?_; intro v7 w7 hown7 hg7; have hb7 := hb1.grown hg7 hb1.size (fun k hk => (hown1.lt k hk).1))
    rw [List.nil_append, Nat.zero_add] at hown7
    obtain ⟨A7, c7, rfl, _, _⟩ := Sl.of_ownk hown7
    replace hown7 := Lib.hid hown7
    go_ret
    exact ⟨A7, c7, rfl, hown7.out, hb7⟩
set_option maxRecDepth 100000 in
set_option maxHeartbeats 2000000 in
theorem pclone_own (t : Tok) (ht : t.Ok) (hm : t.cavs.length ≤ 1000000) (A : Option Addr) (c : Nat) (w : World) (hs : Sl w A (c * 5) (t.cavs.flatMap cavV)) :
    Calls Tryd.prog 31 #[.agg (tokV t A c).toArray] w fun e w' => ∃ B d, e = .returned (.agg (tokV t B d).toArray) ∧ w'.ownsRow w.heap.size 48 5 (.slice B t.cavs.length d) t.cavs.length (t.cavs.flatMap cavV) ∧ Below w.heap.size w w' := by
  have hck := Lib.hid (fun w1 h => psclone_own t.cavs hm A c w1 h)
  have hg := tokV_get t A c
  have hVs := Lib.hid (fun B d => show (tokV t A c).set 2 (.slice B t.cavs.length d) = tokV t B d from rfl)
  have hlen := Lib.hid (fun B d => length_tokV ht B d)
  have hone := Lib.hid (fun B d => all_one (tokV_one t B d))
  obtain ⟨V, hV⟩ : ∃ V, V = tokV t A c := ⟨_, rfl⟩
  rw [← hV] at hg hVs ⊢
  clear hV
  have c2 : ((w.alloc (.cells V.toArray 27)).alloc (.cells [Value.int .u64 0, .string { data := #[] }, .slice none 0 0, .bool false, .int .u8 0, .int .u8 0, .int .u8 0, .int .u8 0, .int .u8 0, .int .u8 0, .int .u8 0, .int .u8 0, .int .u8 0, .int .u8 0, .int .u8 0, .int .u8 0, .int .u8 0, .int .u8 0, .int .u8 0, .int .u8 0, .int .u8 0, .int .u8 0, .int .u8 0, .int .u8 0, .int .u8 0, .int .u8 0, .int .u8 0, .int .u8 0, .int .u8 0, .int .u8 0, .int .u8 0, .int .u8 0, .int .u8 0, .int .u8 0, .int .u8 0, .int .u8 0].toArray 27)).cell? ⟨w.heap.size, 2, none⟩ = some (.slice A t.cavs.length c) := by rw [(two_rows (w := w) (A := V) (B := [Value.int .u64 0, .string { data := #[] }, .slice none 0 0, .bool false, .int .u8 0, .int .u8 0, .int .u8 0, .int .u8 0, .int .u8 0, .int .u8 0, .int .u8 0, .int .u8 0, .int .u8 0, .int .u8 0, .int .u8 0, .int .u8 0, .int .u8 0, .int .u8 0, .int .u8 0, .int .u8 0, .int .u8 0, .int .u8 0, .int .u8 0, .int .u8 0, .int .u8 0, .int .u8 0, .int .u8 0, .int .u8 0, .int .u8 0, .int .u8 0, .int .u8 0, .int .u8 0, .int .u8 0, .int .u8 0, .int .u8 0, .int .u8 0]) (tA := 27) (tB := 27) rfl).1.cell]; exact hg.2.2.1
  go_enter Tryd.func31, Tryd.ntmps31
  go_wp2_with fail
  generalize hw2 : World.alloc (World.alloc w _) _ = w2 at c2 ⊢
  obtain ⟨r0, r1, hb1, hsz⟩ := two_rows (A := V) (B := [Value.int .u64 0, .string { data := #[] }, .slice none 0 0, .bool false, .int .u8 0, .int .u8 0, .int .u8 0, .int .u8 0, .int .u8 0, .int .u8 0, .int .u8 0, .int .u8 0, .int .u8 0, .int .u8 0, .int .u8 0, .int .u8 0, .int .u8 0, .int .u8 0, .int .u8 0, .int .u8 0, .int .u8 0, .int .u8 0, .int .u8 0, .int .u8 0, .int .u8 0, .int .u8 0, .int .u8 0, .int .u8 0, .int .u8 0, .int .u8 0, .int .u8 0, .int .u8 0, .int .u8 0, .int .u8 0, .int .u8 0, .int .u8 0]) (tA := 27) (tB := 27) hw2
  have hs1 := hs.later (Nat.le_refl _) hb1
  have hlt0 := r0.lt
  have hlt1 := r1.lt
  obtain ⟨Z, hZ⟩ : ∃ Z : List Value, Z = [Value.int .u64 0, .string { data := #[] }, .slice none 0 0, .bool false, .int .u8 0, .int .u8 0, .int .u8 0, .int .u8 0, .int .u8 0, .int .u8 0, .int .u8 0, .int .u8 0, .int .u8 0, .int .u8 0, .int .u8 0, .int .u8 0, .int .u8 0, .int .u8 0, .int .u8 0, .int .u8 0, .int .u8 0, .int .u8 0, .int .u8 0, .int .u8 0, .int .u8 0, .int .u8 0, .int .u8 0, .int .u8 0, .int .u8 0, .int .u8 0, .int .u8 0, .int .u8 0, .int .u8 0, .int .u8 0, .int .u8 0, .int .u8 0] := ⟨_, rfl⟩
  have hzl : Z.toArray.size = 36 := by rw [hZ]; rfl
  rw [← hZ] at r1
  clear hsz hw2 hs hZ c2
  have hsz36 := Lib.hid (show (Tryd.prog.info? 27).map (·.size) = some 36 from size_tok)
  go_wp2_with (first
    | (go_at_call 44; refine (hck.out _ hs1).mono ?_; rintro e w3 ⟨B, d, rfl, hown3, hb3⟩; replace hown3 := Lib.hid hown3; have hfz3 := (r0.later hb3 hlt0).free 2; have hcl3 : w3.cell? ⟨w.heap.size, 2, none⟩ = some (.slice A t.cavs.length c) := (by rw [(r0.later hb3 hlt0).cell]; exact hg.2.2.1); obtain ⟨V4, hV4⟩ : ∃ V4, V4 = tokV t B d := ⟨_, rfl⟩; have hl4 : V4.toArray.size = 36 := (by rw [hV4, List.size_toArray]; exact hlen.out B d); have hone4 := Lib.hid (show V4.toArray.all (·.oneCell') = true by rw [hV4]; exact hone.out B d); have R4 := Lib.hid (show (w3.setCell ⟨w.heap.size, 2, none⟩ (.slice B t.cavs.length d)).heap[w.heap.size]? = some (.cells V4.toArray 27 (0, 0)) by rw [hV4, ← hVs.out]; exact (r0.later hb3 hlt0).set 2 _); have RZ := Lib.hid (show (w3.setCell ⟨w.heap.size, 2, none⟩ (.slice B t.cavs.length d)).heap[w.heap.size + 1]? = some (.cells Z.toArray 27 (0, 0)) from (r1.later hb3 hlt1).far _ _ (by show w.heap.size + 1 ≠ w.heap.size; omega)); have hzf4 := Lib.hid (show (Tryd.prog.info? 27).map (·.size) = some V4.toArray.size by rw [hl4]; exact hsz36.out); have hzz := Lib.hid (show Z.toArray.size = V4.toArray.size by rw [hl4, hzl]); have HV4 := Lib.hid hV4; clear hV4 hl4)
    | (with_reducible refine wpList_load_row rfl 27 (.tmp 1) rfl w.heap.size rfl 27 V4.toArray (0, 0) _ R4.out Tryd.underlying27 rfl hzf4.out ?_)
    | (with_reducible refine wpList_store_row rfl 27 (.tmp 2) (.tmp 7) rfl (w.heap.size + 1) V4.toArray rfl rfl 27 Z.toArray RZ.out hzf4.out hzz.out hone4.out ?_; refine Hid.out ?_))
  refine Lib.hid ?_
  generalize hw9 : World.setRow _ _ _ = w9
  obtain ⟨r9, hg9⟩ := row_set (xs := V4) (show Row _ (w.heap.size + 1) 27 Z from RZ.out) hw9
  have R9 := Lib.hid (show w9.heap[w.heap.size + 1]? = some (.cells V4.toArray 27 (0, 0)) from r9)
  have hb4 := (hb1.trans (hb3.mono hb1.size)).grown (grown_setCell w3 w.heap.size 2 (.slice B t.cavs.length d)) (hb1.trans (hb3.mono hb1.size)).size (fun k h => by cases h; exact Nat.le_refl _)
  have hb9 := hb4.grown hg9 hb4.size (fun k h => by cases h; exact Nat.le_succ _)
  have own9 := Lib.hid (ownk_grown (ownk_grown hown3.out (grown_setCell w3 w.heap.size 2 (.slice B t.cavs.length d)) hlt0) hg9 hlt1)
  clear hw9 r9 hg9 hzz hzl hfz3 hcl3
  go_wp2_with (with_reducible refine bodyPost_ret (results_cell_row rfl _ _ (w.heap.size + 1) 27 V4.toArray (0, 0) _ rfl R9.out Tryd.underlying27 rfl hzf4.out) rfl ?_)
  exact ⟨B, d, by rw [HV4.out], own_baseP own9.out hb1.size, hb9⟩
end Go.Proofs.YtcbilopdeiapjaaDoor

/- LAYER 19: package chain: Start, Next, Tags, End, Mint. -/
namespace Go.Proofs.YtcbilopdeiapjaaDoor
set_option maxRecDepth 100000
open Go Go.RowKit

set_option maxHeartbeats 4000000 in
theorem jnext_T (key : List UInt8) (hk : key.length = 32) (c : Cav) (hp : c.party < 18446744073709551616) (hc : capC c ≤ 100000) (w : World) (hT : Tabs w) :
    Calls Tryd.prog 33 #[.agg (byts key).toArray, .agg (cavV c).toArray] w fun e w' => e = .returned (.agg (byts (nextT key c)).toArray) ∧ Below w.heap.size w w' := by
  have hKl := tag_fit key hk
  have hkz := Lib.hid (show (Tryd.prog.info? 25).map (·.size) = some (byts key).length by rw [size_tag, hKl])
  obtain ⟨V, hV⟩ : ∃ V, V = byts (nextT key c) := ⟨_, rfl⟩
  have hVl : V.length = 32 := by rw [hV]; exact tag_fit _ (length_keyD _ _ _)
  have hone := Lib.hid (show ∀ v ∈ V, v.oneCell' = true by rw [hV]; exact byts_one _)
  have hszl := Lib.hid (show (Tryd.prog.info? 25).map (·.size) = some V.length by rw [size_tag, hVl])
  have hsz2 := Lib.hid (show (Tryd.prog.info? 25).map (·.size) = some V.toArray.size by rw [size_tag, List.size_toArray, hVl])
  have hfit := Lib.hid (show 0 + V.length ≤ (List.replicate 32 (Value.int .u8 0)).length by rw [hVl, List.length_replicate]; decide)
  have HVr := Lib.hid (show splice (List.replicate 32 (Value.int .u8 0)) 0 V = V by
    unfold splice
    rw [List.take_zero, List.nil_append, Nat.zero_add, hVl, List.drop_eq_nil_of_le (by simp), List.append_nil])
  have HV := Lib.hid hV
  clear hV hVl hKl
  go_enter Tryd.func33, Tryd.ntmps33
  go_upto_region 1 with fail
  generalize hw1 : World.alloc (World.alloc (World.alloc _ _) _) _ = w1
  obtain ⟨r1, r2, r3, hb1, -⟩ := rows3 (C := List.replicate 32 (Value.int .u8 0)) hw1
  clear hw1
  refine wp_region_noPanic ?_
  refine wp_region_held_drew (S := fun w' => Row w' w.heap.size 25 (byts key) ∧ Row w' (w.heap.size + 1) 48 (cavV c)) (by kernel_rfl) (⟨r1.later ((Below.refl _ _).drew) r1.lt, r2.later ((Below.refl _ _).drew) r2.lt⟩) (fun hHeld => ?_)
  have hB : Below w1.heap.size w1 w1.drew := (Below.refl _ _).drew
  refine rt 0 5 hHeld ?_ (hy := by intro w hS; exact run_load_op 25 (.tmp 2) rfl _ 0 rfl (byts key) _ (row_range hS.1) Tryd.underlying25 rfl hkz.out)
  refine rt 1 6 hHeld ?_ (hy := by intro w hS; exact run_load_op 48 (.tmp 3) rfl _ 0 rfl (cavV c) _ (row_range hS.2) Tryd.underlying48 rfl size_cav)
  refine rc1 2 fun K hK => ?_
  go_simp
  refine (pcav_any c hp hc _).mono ?_; rintro e ww12 ⟨v2, rfl, ho2, hqw12⟩; obtain ⟨A2, c2, rfl, -, s2⟩ := Sl.of_own ho2
  try go_wp2_with fail
  refine hK.out _ _ ⟨hHeld.1.later hqw12 hHeld.1.lt, hHeld.2.later hqw12 hHeld.2.lt⟩ (fun hHeld => ?_)
  clear hK K
  have hB := below_step hB hqw12
  have hB2 : Below ww12.heap.size ww12 ww12 := Below.refl _ _
  refine rc1 3 fun K hK => ?_
  refine step_val (some 8) rfl (by rfl) (.string (bstr (capB c))) (by have hcv := conv_bytes s2 _ rfl; unfold capB; go_simp) ?_
  refine rk hK hHeld fun hHeld => ?_
  clear hK K
  refine rc1 4 fun K hK => ?_
  refine step_strs (some 9) rfl (by rfl) _ [capB c] (by have hss := slice_strs1 (capB c) ww12; go_simp; rfl) rfl ?_; intro ww14 s4 hqw14
  refine rk hK ⟨hHeld.1.later hqw14 hHeld.1.lt, hHeld.2.later hqw14 hHeld.2.lt⟩ fun hHeld => ?_
  clear hK K
  have hB := below_step hB hqw14
  have hB2 := below_step hB2 hqw14
  have hB4 : Below ww14.heap.size ww14 ww14 := Below.refl _ _
  refine rc1 5 fun K hK => ?_
  go_simp
  refine (dkey_any key hk [99, 97, 118, 101, 97, 116] _ 1 1 [capB c] _ (hT.later (hb1.trans (hB.mono hb1.size)) (Nat.le_refl _)) s4 rfl (by have hz := joinL_cav hc; show (6 + 1) + (((joinL (cavF c)).length + 1) + 0) ≤ _; omega)).mono ?_; rintro e ww15 ⟨rfl, hqw15⟩; rw [show keyD key [99, 97, 118, 101, 97, 116] [capB c] = nextT key c from rfl, ← HV.out]
  try go_wp2_with fail
  refine hK.out _ _ ⟨hHeld.1.later hqw15 hHeld.1.lt, hHeld.2.later hqw15 hHeld.2.lt⟩ (fun hHeld => ?_)
  clear hK K
  have hB := below_step hB hqw15
  have hB2 := below_step hB2 hqw15
  have hB4 := below_step hB4 hqw15
  have hB5 : Below ww15.heap.size ww15 ww15 := Below.refl _ _
  refine rc1 6 fun K hK => ?_
  refine step_store_row none rfl (by rfl) 25 (.tmp 4) (.tmp 10) rfl _ 0 25 _ V rfl rfl (r3.later hB r3.lt) hfit.out hszl.out hone.out ?_; intro wf rf hgf; have hBz := hB
  refine hK.out _ _ ⟨hHeld.1.grown hgf (by omega), hHeld.2.grown hgf (by omega)⟩ (fun hHeld => ?_)
  clear hK K
  rw [put_none]
  refine wpAnyH_done (by kernel_rfl) ?_ _
  refine NoPanic.normal ?_
  have r9 : Row wf (w.heap.size + 1 + 1) 25 V := by rw [HVr.out] at rf; exact rf
  have hb9 := (hb1.trans (hBz.mono hb1.size)).grown hgf (Nat.le_trans hb1.size hBz.size) (fun k h => by cases h; omega)
  have R9 := Lib.hid (show wf.heap[(w.heap.size + 1 + 1 : Nat)]? = some (.cells V.toArray 25 (0, 0)) from r9)
  clear r9 hgf rf hBz hHeld hb1
  go_wp2_with (with_reducible refine bodyPost_ret (results_cell_row rfl _ _ (w.heap.size + 1 + 1) 25 V.toArray (0, 0) (.array 32 5) rfl R9.out Tryd.underlying25 rfl hsz2.out) rfl ?_)
  exact ⟨by rw [HV.out], hb9⟩
end Go.Proofs.YtcbilopdeiapjaaDoor

/- 'append' of one thing onto a slice of the call's own, and where what comes of it lies. -/
namespace Go.Proofs.YtcbilopdeiapjaaDoor
set_option maxRecDepth 100000
open Go Go.RowKit

theorem run_append_one {P : Program} (w : World) (base : Nat) (t ty e : TypeId) (i : TypeInfo) (z : Value) (k bytes : Nat) (ht : P.underlying t = some (.slice e)) (hi : P.info? e = some i) (hz : i.zero = some z)
    (hsize : i.size = k) (hk : 0 < k) (hby : i.bytes = bytes) (hzs : z.cells.size = k) (v : Value) (n : Nat) (xs : List Value) (hown : w.ownsRow base e k v n xs)
    (ad : Addr) (c : Nat) (news : List Value) (hm : news.length = k) (hsl : Sl w (some ad) (c * k) news) (h1 : ∀ u ∈ news, u.oneCell' = true)
    (h63 : n + 1 ≤ maxLen) (hbytes : (n + 1) * bytes ≤ 140737488355328) (hbase : base ≤ w.heap.size) :
    ∃ v' w', (Builtin.append_ #[t, t] ty #[v, .slice (some ad) 1 c]).run P w = .ok v' w' ∧ w'.ownsRow base e k v' (n + 1) (xs ++ news) ∧ w.grownBy w' v.ownBlock ∧ (∀ g', v'.ownBlock = some g' → v.ownBlock = some g' ∨ w.heap.size ≤ g') := by
  obtain ⟨v', w', hrun, h2, h3, _⟩ := run_append_own (P := P) w base t ty e i z k bytes ht hi hz hsize hby hzs hk v n xs hown ad 1 c news (by omega) hsl.rd.at_add h1 h63 hbytes hbase
  refine ⟨v', w', hrun, h2, h3, ?_⟩
  subst hsize hby
  rcases hown.2 with ⟨rfl, rfl⟩ | ⟨g, cap, cur, rfl, hbg, hg, hnc, hcm, hcs, htake⟩
  · have hr := run_append_nil (P := P) w t ty e i z ht hi hz ad 1 c news (by omega) hsl.rd.at_add (by omega) (by omega) (by omega)
    rw [hr] at hrun
    injection hrun with hv _
    subst hv
    intro g' hg'
    cases hg'
    exact .inr (Nat.le_refl _)
  · by_cases hroom : n + 1 ≤ cap
    · have hfit : n * i.size + news.length ≤ cur.size := by
        have h4 : (n + 1) * i.size ≤ cap * i.size := Nat.mul_le_mul_right _ hroom
        rw [hcs, hm]
        rw [Nat.succ_mul] at h4; omega
      have hr := run_append_room (P := P) w t ty e i ht hi g n cap cur hg ad 1 c news (by omega) hsl.rd.at_add h1 hroom hfit
      rw [hr] at hrun
      injection hrun with hv _
      subst hv
      exact fun g' hg' => .inl hg'
    · have holds : ∀ j u, xs[j]? = some u → w.cell? ((⟨g, 0, none⟩ : Addr).add j) = some u := hown.cells (g := g) rfl
      have hsmall : n + 1 ≤ 9223372036854775807 := by simp only [maxLen] at h63; omega
      have hr := run_append_grow (P := P) w t ty e i z ht hi hz ⟨g, 0, none⟩ n cap xs hown.1 holds ad 1 c news (by omega) hsl.rd.at_add (by omega) (by omega) (growslice_fits (by omega) hbytes)
      rw [hr] at hrun
      injection hrun with hv _
      subst hv
      intro g' hg'
      cases hg'
      exact .inr (Nat.le_refl _)
theorem wpList_append_one {P : Program} {w : World} {ops : Array Oper} {rest : List Oper} {o : Oper} {a : Act} {Q : Exit → Act → World → Prop} (hgd : o.guard = none) (s x : Operand) (t : TypeId)
    (ho : o.op = .call { callee := .builtin .append, args := #[s, x], argTypes := #[t, t] })
    (base : Nat) (e : TypeId) (i : TypeInfo) (z : Value) (k bytes : Nat) (ht : P.underlying t = some (.slice e)) (hi : P.info? e = some i) (hz : i.zero = some z)
    (hsize : i.size = k) (hk : 0 < k) (hby : i.bytes = bytes) (hzs : z.cells.size = k) (v : Value) (n : Nat) (xs : List Value) (hs : a.eval s = v) (hown : w.ownsRow base e k v n xs)
    (ad : Addr) (c : Nat) (news : List Value) (hx : a.eval x = .slice (some ad) 1 c) (hm : news.length = k) (hsl : Sl w (some ad) (c * k) news) (h1 : ∀ u ∈ news, u.oneCell' = true)
    (h63 : n + 1 ≤ maxLen) (hbytes : (n + 1) * bytes ≤ 140737488355328) (hbase : base ≤ w.heap.size)
    (h : ∀ v' w', w'.ownsRow base e k v' (n + 1) (xs ++ news) → w.grownBy w' v.ownBlock → (∀ g', v'.ownBlock = some g' → v.ownBlock = some g' ∨ w.heap.size ≤ g') → wpList P ops Q rest (a.put o.dst v') w') : wpList P ops Q (o :: rest) a w := by
  refine wpList_plain hgd fun _ hK => ?_
  obtain ⟨v', w', hrun, h2, h3, h4⟩ := run_append_one (P := P) w base t o.type e i z k bytes ht hi hz hsize hk hby hzs v n xs hown ad c news hm hsl h1 h63 hbytes hbase
  unfold Oper.wp execOp
  simp only [ho, resolve, invoke, builtin, Sem.run_bind, Sem.run_pure, Result.andThen_ok, List.map_toArray, List.map_cons, List.map_nil, hs, hx, hrun]
  exact hK _ _ (h v' w' h2 h3 h4)
end Go.Proofs.YtcbilopdeiapjaaDoor

/- LAYER 19: package chain: Add. -/
namespace Go.Proofs.YtcbilopdeiapjaaDoor
set_option maxRecDepth 100000
open Go Go.RowKit

set_option maxHeartbeats 8000000 in
theorem jadd_T (t : Tok) (ht : t.Ok) (cv : Cav) (hp : cv.party < 18446744073709551616) (hcv : capC cv ≤ 100000) (hm : t.cavs.length ≤ 1000000) (hft : ({ t with cavs := t.cavs ++ [cv] } : Tok).Fit) (A : Option Addr) (c : Nat) (w : World) (hT : Tabs w) (hs : Sl w A (c * 5) (t.cavs.flatMap cavV)) :
    Calls Tryd.prog 18 #[.agg (tokV t A c).toArray, .agg (cavV cv).toArray] w (GaveTok (addT t cv) (errAdd t cv) w) := by
  obtain ⟨i0, hi, hz0, hsz0, hby0⟩ := info_cav
  obtain ⟨Z, hZ⟩ : ∃ Z, Z = tokV zeroK none 0 := ⟨_, rfl⟩
  have hZl : Z.length = 36 := by rw [hZ]; exact length_tokV zeroK_ok none 0
  have hZe := Lib.hid (hZ.trans ztok)
  have hzZ := Lib.hid (show (Tryd.prog.info? 27).map (·.size) = some Z.toArray.size by rw [List.size_toArray, hZl]; exact size_tok)
  have hZ1 := Lib.hid (show Z.toArray.all (·.oneCell') = true by rw [hZ, List.all_toArray, List.all_eq_true]; exact tokV_one _ _ _)
  obtain ⟨X, hX⟩ : ∃ X, X = tokV t A c := ⟨_, rfl⟩
  have hXl : X.length = 36 := by rw [hX]; exact length_tokV ht A c
  have hzX2 := Lib.hid (show (Tryd.prog.info? 27).map (·.size) = some X.toArray.size by rw [List.size_toArray, hXl]; exact size_tok)
  obtain ⟨w1, hw1⟩ : ∃ w1, w1 = ((w.alloc (.cells X.toArray 27)).alloc (.cells (cavV cv).toArray 48)).alloc (.cells Z.toArray 27) := ⟨_, rfl⟩
  obtain ⟨r1, r2, r3, hb1, hs1⟩ := rows3 hw1.symm
  have HW := Lib.hid (hw1.trans (by rw [hZe.out]))
  have ts := hs.later (Nat.le_refl _) hb1
  have hc3 : w1.cell? ⟨w.heap.size, 3, none⟩ = some (.bool t.bound) := by rw [r1.cell, hX]; rfl
  have Hcl := Lib.hid (show ∀ w', Sl w' A (c * 5) (t.cavs.flatMap cavV) → Calls Tryd.prog 31 #[.agg X.toArray] w' fun e w'' => ∃ B d, e = .returned (.agg (tokV t B d).toArray) ∧ w''.ownsRow w'.heap.size 48 5 (.slice B t.cavs.length d) t.cavs.length (t.cavs.flatMap cavV) ∧ Below w'.heap.size w' w'' by
    rw [hX]; exact fun w' h => pclone_own t ht hm A c w' h)
  have HZ := Lib.hid hZ
  have HX := Lib.hid hX
  have HTB := Lib.hid hT
  rw [← hX]
  clear hw1 hZ hX hs hT
  have Q3 := Lib.hid (show w1.heap[w.heap.size + 1 + 1]? = some (.cells Z.toArray 27 (0, 0)) from r3)
  have tok1 : True := trivial
  cases hbd : t.bound with
  | true =>
    have HE := Lib.hid (show errAdd t cv = 6 by unfold errAdd; rw [if_pos hbd])
    have HG := Lib.hid (show addT t cv = zeroK by unfold addT; rw [HE.out]; rfl)
    rw [hbd] at hc3
    clear r1 r2 r3 ts hXl hZl Hcl
    generalize addT t cv = U at *
    generalize errAdd t cv = er at *
    go_enter Tryd.func18, Tryd.ntmps18
    go_wp2_with (first
      | (have _t := tok1; rw [← HW.out]; clear tok1)
      | (have _t := Q3; refine wpList_store_row rfl 27 (.tmp 4) (.tmp 10) rfl (w.heap.size + 1 + 1) Z.toArray rfl (by rw [hZe.out]; rfl) 27 Z.toArray Q3.out hzZ.out rfl hZ1.out ?_; refine Hid.out ?_))
    refine Lib.hid ?_
    generalize hw8 : World.setRow _ _ _ = w8
    obtain ⟨r8, hg8⟩ := row_set (show Row w1 (w.heap.size + 1 + 1) 27 Z from Q3.out) hw8
    have hb8 := hb1.grown hg8 hb1.size (fun k h => by cases h; omega)
    have R8 := Lib.hid (show w8.heap[w.heap.size + 1 + 1]? = some (.cells Z.toArray 27 (0, 0)) from r8)
    clear hw8 r8 Q3
    go_wp2_with fail
    exact ⟨rfl, _, results_row_tmp rfl _ _ (w.heap.size + 1 + 1) 27 Z.toArray (0, 0) _ rfl R8.out Tryd.underlying27 rfl hzZ.out _ rfl, none, 0, by rw [HE.out, HG.out, HZ.out]; rfl, by rw [HG.out]; exact sl_zeroK _, (fun a h => by cases h), hb8⟩
  | false =>
    rw [hbd] at hc3
    have R1 := Lib.hid (show w1.heap[w.heap.size]? = some (.cells X.toArray 27 (0, 0)) from r1)
    have Hnx := Lib.hid (jnext_T t.tag ht.tag cv hp hcv)
    have n1 : t.cavs.length + 1 ≤ maxLen := by unfold maxLen; omega
    have n2 : (t.cavs.length + 1) * 64 ≤ 140737488355328 := by omega
    have hmo : (moreT t cv).Ok := moreT_ok ht hp
    have hto : ({ t with cavs := t.cavs ++ [cv] } : Tok).Ok := ⟨hmo.key, hmo.party, ht.tag⟩
    have hsc := Lib.hid (show (Tryd.prog.info? 48).map (·.size) = some (cavV cv).length from size_cav)
    have HER := Lib.hid (show errAdd t cv = errT ({ t with cavs := t.cavs ++ [cv] } : Tok) by unfold errAdd; rw [if_neg (by rw [hbd]; decide)]; rfl)
    have HEC := Lib.hid (show errAdd t cv = if checkT (moreT t cv) = true then 0 else 1 by unfold errAdd; rw [if_neg (by rw [hbd]; decide)])
    have HG := Lib.hid (show addT t cv = if errAdd t cv = 0 then moreT t cv else zeroK from rfl)
    go_enter Tryd.func18, Tryd.ntmps18
    go_wp2_with (first
      | (have _t := tok1; rw [← HW.out]; clear tok1)
      | (with_reducible refine wpList_load_row rfl 27 (.tmp 2) rfl w.heap.size rfl 27 X.toArray (0, 0) _ R1.out Tryd.underlying27 rfl hzX2.out ?_)
      | (go_at_call 31; refine (Hcl.out _ ts).mono ?_; rintro e w2 ⟨B, d, rfl, own2, hq⟩; have hYl := length_tokV ht B d; have hzY := Lib.hid (show (Tryd.prog.info? 27).map (·.size) = some (tokV t B d).toArray.size by rw [List.size_toArray, hYl]; exact size_tok); have h36 := Lib.hid (show 36 = (tokV t B d).toArray.size by rw [List.size_toArray, hYl]); have hY1 := Lib.hid (show (tokV t B d).toArray.all (·.oneCell') = true by rw [List.all_toArray, List.all_eq_true]; exact tokV_one _ _ _); clear hYl)
      | (have _t := hzY; with_reducible refine wpList_store_row rfl 27 (.tmp 6) (.tmp 12) rfl w2.heap.size (tokV t B d).toArray rfl rfl 27 _ (heap_alloc_new w2 _) hzY.out (Eq.trans (by kernel_rfl) h36.out) hY1.out ?_; refine Hid.out ?_))
    refine Lib.hid ?_
    generalize hw3 : World.setRow _ _ _ = w3
    obtain ⟨r6, hb3⟩ := row_new_set (xs := tokV t B d) hw3
    have hOB := Lib.hid (fun j hj => own2.lt j hj)
    have own := ownk_later own2 hb3 (Nat.le_refl _)
    have hq13 := hq.trans (hb3.mono hq.size)
    have r1 := r1.later hq13 r1.lt
    have r2 := r2.later hq13 r2.lt
    have r3 := r3.later hq13 r3.lt
    have hbw := hb1.trans (hq13.mono hb1.size)
    have h16 := hq.size
    have h63 := r6.lt
    have h13 := hq13.size
    clear hw3 hb3 hq hq13 hb1 own2 R1 HW hc3 Q3 ts Hcl hzY h36 hY1
    generalize hG1 : w1.heap.size = g1 at *
    generalize hG6 : w2.heap.size = g6 at *
    have hc2 : w3.cell? ⟨g6, 2, none⟩ = some (.slice B t.cavs.length d) := by rw [r6.cell]; rfl
    have K2 := Lib.hid (row_range r2)
    have hs1 := Lib.hid hs1
    have h16 := Lib.hid h16
    have h63 := Lib.hid h63
    have h13 := Lib.hid h13
    clear hG1 hG6
    go_wp2_with (first
      | (with_reducible refine wpList_load_mid rfl 48 (.tmp 3) rfl (w.heap.size + 1) 0 rfl (cavV cv) _ K2.out Tryd.underlying48 rfl hsc.out ?_)
      | (refine wpList_slice19 rfl 23 1 [_] rfl [(0, .agg (cavV cv).toArray)] rfl _ (slice_oneC cv w3) ?_; refine Hid.out ?_))
    refine Lib.hid ?_
    have hb4 := (Below.refl w3.heap.size w3).alloc (Nat.le_refl _) (.cells (cavV cv).toArray 48)
    have s4 : Sl (w3.alloc (.cells (cavV cv).toArray 48)) (some ⟨w3.heap.size, 0, none⟩) (1 * 5) (cavV cv) := sl_made (cavV cv) rfl 5 rfl
    generalize w3.alloc (.cells (cavV cv).toArray 48) = w4 at *
    have own := ownk_later own hb4 (Nat.le_refl _)
    have r1 := r1.later hb4 r1.lt
    have r2 := r2.later hb4 r2.lt
    have r3 := r3.later hb4 r3.lt
    have r6 := r6.later hb4 r6.lt
    have hbw := hbw.trans (hb4.mono hbw.size)
    have h14 : g1 ≤ w4.heap.size := Nat.le_trans h13.out hb4.size
    have h64 := Lib.hid (Nat.lt_of_lt_of_le h63.out hb4.size)
    clear hb4 K2 hc2
    go_wp2_with (at_builtin; refine wpList_append_one rfl (.tmp 14) (.tmp 16) 23 rfl g1 48 i0 _ 5 64 Tryd.underlying23 hi hz0 hsz0 (by omega) hby0 rfl _ t.cavs.length (t.cavs.flatMap cavV) rfl own ⟨w3.heap.size, 0, none⟩ 1 (cavV cv) rfl rfl s4 (cavV_one1 cv) n1 n2 h14 ?_; intro v5 w5 own5 hg5 hnew5; obtain ⟨B5, d5, rfl, -, s5⟩ := Sl.of_ownk own5; refine Hid.out ?_)
    refine Lib.hid ?_
    have hfr5 := ownk_fresh own5
    have e1 := hs1.out
    have e2 := h16.out
    have e3 := h64.out
    have hne6 : ∀ a, B5 = some a → a.block ≠ g6 := fun a ha => by
      rcases hnew5 a.block (by rw [ha]; rfl) with h | h
      · have := (hOB.out a.block h).2; omega
      · omega
    have r6 := Row.kept r6 hg5 (fun k hk e => by have := (hOB.out k hk).2; omega)
    have r1 := Row.kept r1 hg5 (fun k hk e => by have := (hOB.out k hk).1; omega)
    have r2 := Row.kept r2 hg5 (fun k hk e => by have := (hOB.out k hk).1; omega)
    have r3 := Row.kept r3 hg5 (fun k hk e => by have := (hOB.out k hk).1; omega)
    have hbw := hbw.grown hg5 hbw.size (fun k hk => by have := (hOB.out k hk).1; omega)
    have hcc : w5.cell? ⟨g6, 2, none⟩ = some (.slice B t.cavs.length d) := by rw [r6.cell]; rfl
    have hff := r6.free 2
    have hgs := grown_setCell w5 g6 2 (Value.slice B5 (t.cavs.length + 1) d5)
    have r6 : Row (w5.setCell ⟨g6, 2, none⟩ (Value.slice B5 (t.cavs.length + 1) d5)) g6 27 (tokV ({ t with cavs := t.cavs ++ [cv] } : Tok) B5 d5) := (tok_more t cv B B5 d d5) ▸ r6.set 2 (Value.slice B5 (t.cavs.length + 1) d5)
    have r1 := r1.grown hgs (by omega)
    have r2 := r2.grown hgs (by omega)
    have r3 := r3.grown hgs (by omega)
    have s6 := s6flat (s5.apart hgs (fun _ a ha => hne6 a ha))
    have hbs := hbw.grown hgs hbw.size (fun k h => by cases h; omega)
    have hck := Lib.hid (fun w' h => pcheck_any ({ t with cavs := t.cavs ++ [cv] } : Tok) hto hft B5 d5 w' h)
    rw [← HER.out] at hck
    have hput := Lib.hid (show splice (tokV ({ t with cavs := t.cavs ++ [cv] } : Tok) B5 d5) 4 (byts (nextT t.tag cv)) = tokV (moreT t cv) B5 d5 from tok_put_tag _ B5 d5 _ hto (length_nextT _ _))
    have hYl : (tokV ({ t with cavs := t.cavs ++ [cv] } : Tok) B5 d5).length = 36 := length_tokV hto B5 d5
    have hzY := Lib.hid (show (Tryd.prog.info? 27).map (·.size) = some (tokV ({ t with cavs := t.cavs ++ [cv] } : Tok) B5 d5).toArray.size by rw [List.size_toArray, hYl]; exact size_tok)
    have hnl := tag_fit _ (length_nextT t.tag cv)
    have hfit := Lib.hid (show 4 + (byts (nextT t.tag cv)).length ≤ (tokV ({ t with cavs := t.cavs ++ [cv] } : Tok) B5 d5).length by rw [hnl, hYl]; exact Nat.le_refl _)
    obtain ⟨V, hV⟩ : ∃ V, V = tokV (moreT t cv) B5 d5 := ⟨_, rfl⟩
    have hVl : V.length = 36 := by rw [hV]; exact length_tokV hmo B5 d5
    have hzV := Lib.hid (show (Tryd.prog.info? 27).map (·.size) = some V.toArray.size by rw [List.size_toArray, hVl]; exact size_tok)
    have hV1 := Lib.hid (show V.toArray.all (·.oneCell') = true by rw [hV, List.all_toArray, List.all_eq_true]; exact tokV_one _ _ _)
    have hVZ := Lib.hid (show Z.toArray.size = V.toArray.size by rw [List.size_toArray, List.size_toArray, hVl, hZl])
    have HV := Lib.hid hV
    rw [← hV] at hput
    have hfr := Lib.hid (show ∀ a, B5 = some a → w.heap.size + 2 < a.block ∧ a.block ≠ g6 from fun a ha => ⟨by have := hfr5 a ha; omega, hne6 a ha⟩)
    have h6g := Lib.hid (show w.heap.size + 2 < g6 by omega)
    clear hV hVl hYl hgs hg5 hnew5 own5 s5 own hfr5 hne6 hOB s4 e1 e2 e3 hs1 h16 h63 h13 h14 h64 hXl hZl hbw
    generalize tokV ({ t with cavs := t.cavs ++ [cv] } : Tok) B5 d5 = Y at *
    have R6 := Lib.hid (show (w5.setCell ⟨g6, 2, none⟩ (Value.slice B5 (t.cavs.length + 1) d5)).heap[g6]? = some (.cells Y.toArray 27 (0, 0)) from r6)
    go_wp2_with (first
      | (with_reducible refine wpList_load_row rfl 27 (.tmp 6) rfl g6 rfl 27 Y.toArray (0, 0) _ R6.out Tryd.underlying27 rfl hzY.out ?_)
      | (go_at_call 32; refine (hck.out _ s6).mono ?_; rintro e w6 ⟨rfl, hq⟩; have r1 := r1.later hq r1.lt; have r2 := r2.later hq r2.lt; have r3 := r3.later hq r3.lt; have r6 := r6.later hq r6.lt; have s6 := s6.later (Nat.le_refl _) hq; have hB := hbs.trans (hq.mono hbs.size); clear hq; refine Hid.out ?_))
    refine Lib.hid ?_
    clear R6 hck hcc hff hbs
    have Q3 := Lib.hid (show w6.heap[w.heap.size + 1 + 1]? = some (.cells Z.toArray 27 (0, 0)) from r3)
    have hnz := Lib.hid (show (Tryd.prog.info? 25).map (·.size) = some (byts (nextT t.tag cv)).length by rw [size_tag, hnl])
    have hone := Lib.hid (byts_one (nextT t.tag cv))
    clear hnl
    generalize addT t cv = U at *
    generalize errAdd t cv = er at *
    generalize hM : moreT t cv = M at *
    have HMS := Lib.hid (show ∀ w', Sl w' B5 (d5 * 5) (({ t with cavs := t.cavs ++ [cv] } : Tok).cavs.flatMap cavV) → Sl w' B5 (d5 * 5) (M.cavs.flatMap cavV) from fun w' h => by rw [← hM]; exact h)
    have K1 := Lib.hid (tok_tag_range (HX.out ▸ r1))
    have K2 := Lib.hid (row_range r2)
    have hkz := Lib.hid (show (Tryd.prog.info? 25).map (·.size) = some (byts t.tag).length by rw [size_tag, tag_fit _ ht.tag])
    clear hM
    generalize nextT t.tag cv = nx at *
    cases hok : checkT M with
    | false =>
      rw [hok] at HEC
      have e1 : er = 1 := HEC.out.trans (if_neg (by decide))
      have e2 : U = zeroK := by rw [HG.out, e1]; rfl
      have hne : (er != 0) = true := by rw [e1]; rfl
      have E2 := Lib.hid e2
      clear e1 e2 HEC HG HER r1 r2 r6 s6 r3
      go_wp2_with (first
        | (have _t := Q3; refine wpList_store_row rfl 27 (.tmp 4) (.tmp 23) rfl (w.heap.size + 1 + 1) Z.toArray rfl (by rw [hZe.out]; rfl) 27 Z.toArray Q3.out hzZ.out rfl hZ1.out ?_; refine Hid.out ?_))
      refine Lib.hid ?_
      generalize hw8 : World.setRow _ _ _ = w8
      obtain ⟨r8, hg8⟩ := row_set (show Row w6 (w.heap.size + 1 + 1) 27 Z from Q3.out) hw8
      have hb8 := hB.grown hg8 hB.size (fun k h => by cases h; omega)
      have R8 := Lib.hid (show w8.heap[w.heap.size + 1 + 1]? = some (.cells Z.toArray 27 (0, 0)) from r8)
      clear hw8 r8 Q3
      go_wp2_with fail
      exact ⟨rfl, _, results_row_tmp rfl _ _ (w.heap.size + 1 + 1) 27 Z.toArray (0, 0) _ rfl R8.out Tryd.underlying27 rfl hzZ.out _ rfl, none, 0, by rw [E2.out, HZ.out]; rfl, by rw [E2.out]; exact sl_zeroK _, (fun a h => by cases h), hb8⟩
    | true =>
      rw [hok] at HEC
      have e1 : er = 0 := HEC.out.trans (if_pos rfl)
      have e2 : U = M := by rw [HG.out, e1]; rfl
      have hne : (er != 0) = false := by rw [e1]; rfl
      have E1 := Lib.hid e1
      have E2 := Lib.hid e2
      clear e1 e2 HEC HG HER r1 r2 Q3
      have h6 := h6g.out
      go_wp2_with (first
        | (with_reducible refine wpList_load_mid rfl 25 (.tmp 25) rfl w.heap.size 4 rfl (byts t.tag) _ K1.out Tryd.underlying25 rfl hkz.out ?_)
        | (with_reducible refine wpList_load_mid rfl 48 (.tmp 3) rfl (w.heap.size + 1) 0 rfl (cavV cv) _ K2.out Tryd.underlying48 rfl hsc.out ?_)
        | (go_at_call 33; refine (Hnx.out _ (HTB.out.later hB (Nat.le_refl _))).mono ?_; rintro e w7 ⟨rfl, hq⟩; have r6 := r6.later hq r6.lt; have s6 := s6.later (Nat.le_refl _) hq; have r3 := r3.later hq r3.lt; have hB := hB.trans (hq.mono hB.size); clear hq)
        | (have _t := w7; refine wpList_store_mid rfl 25 (.tmp 29) (.tmp 28) rfl g6 4 27 Y (byts nx) rfl rfl r6 hfit.out hnz.out hone.out ?_; intro w9 r6x hg9; refine Hid.out ?_))
      refine Lib.hid ?_
      have r6 : Row w9 g6 27 V := by rw [hput.out] at r6x; exact r6x
      have s6 := s6.apart hg9 (fun _ a ha => (hfr.out a ha).2)
      have r3 := r3.grown hg9 (by omega)
      have hB := hB.grown hg9 hB.size (fun k h => by cases h; omega)
      have K6 := Lib.hid (show w9.heap[g6]? = some (.cells V.toArray 27 (0, 0)) from r6)
      have Q3 := Lib.hid (show w9.heap[w.heap.size + 1 + 1]? = some (.cells Z.toArray 27 (0, 0)) from r3)
      clear r6x hg9 K1 K2 hput hfit hone hnz Hnx hkz hsc hmo hto r3
      go_wp2_with (first
        | (with_reducible refine wpList_load_row rfl 27 (.tmp 6) rfl g6 rfl 27 V.toArray (0, 0) _ K6.out Tryd.underlying27 rfl hzV.out ?_)
        | (have _t := Q3; refine wpList_store_row rfl 27 (.tmp 4) (.tmp 30) rfl (w.heap.size + 1 + 1) V.toArray rfl rfl 27 Z.toArray Q3.out hzV.out hVZ.out hV1.out ?_; refine Hid.out ?_))
      refine Lib.hid ?_
      generalize hw8 : World.setRow _ _ _ = w8
      obtain ⟨r8, hg8⟩ := row_set (show Row w9 (w.heap.size + 1 + 1) 27 Z from Q3.out) hw8
      have hb8 := hB.grown hg8 hB.size (fun k h => by cases h; omega)
      have R8 := Lib.hid (show w8.heap[w.heap.size + 1 + 1]? = some (.cells V.toArray 27 (0, 0)) from r8)
      clear hw8 r8 Q3
      go_wp2_with fail
      exact ⟨rfl, _, results_row_tmp rfl _ _ (w.heap.size + 1 + 1) 27 V.toArray (0, 0) _ rfl R8.out Tryd.underlying27 rfl hzV.out _ rfl, B5, d5, by rw [E2.out, E1.out, HV.out]; rfl, by rw [E2.out]; exact HMS.out _ (s6.apart hg8 (fun _ a ha => by have := (hfr.out a ha).1; omega)), (fun a ha => by have := (hfr.out a ha).1; omega), hb8⟩
end Go.Proofs.YtcbilopdeiapjaaDoor

/- LAYER 20: package third: Add. -/
namespace Go.Proofs.YtcbilopdeiapjaaDoor
set_option maxRecDepth 100000
open Go Go.RowKit

theorem size_dealP : (Tryd.prog.info? 35).map (·.size) = some 130 := by kernel_rfl
set_option maxHeartbeats 4000000 in
theorem pdealt20_T (t : List UInt8) (d : Deal) (ht : t.length = 32) (hd : d.Ok) (hc : d.cond.length ≤ 10000) (w : World) (hT : Tabs w) :
    Calls Tryd.prog 19 #[.agg (byts t).toArray, .agg (dealV d).toArray] w fun e w' => e = .returned (.agg (cavV (cavD t d)).toArray) ∧ Below w.heap.size w w' := by
  have htz := Lib.hid (tagz ht)
  have hkz := Lib.hid (tagz hd.key)
  have hrz := Lib.hid (tagz hd.root)
  have haz := Lib.hid (tagz hd.ask)
  have hvz := Lib.hid (tagz hd.vault)
  have hlo := Lib.hid (fun w' h => plock20_T d.key d.ask d.root d.cond hd.key hd.ask hd.root hc w' h)
  have hhi := Lib.hid (fun w' h => phide20_T t d.vault d.root ht hd.vault hd.root w' h)
  have HC : cavD t d = ⟨true, [], d.party, lockL d.key d.ask d.root d.cond, hideL t d.vault d.root⟩ := rfl
  generalize lockL d.key d.ask d.root d.cond = L at *
  generalize hideL t d.vault d.root = HI at *
  have HC := Lib.hid HC
  generalize cavD t d = CC at *
  have HD := Lib.hid hd
  clear ht hd hc
  go_enter Tryd.func19, Tryd.ntmps19
  go_upto_region 1 with fail
  generalize hw1 : World.alloc (World.alloc (World.alloc _ _) _) _ = w1
  obtain ⟨r1, r2, r3, hb1, -⟩ := rows3 (C := [Value.bool false, .string { data := #[] }, .int .u64 0, .string { data := #[] }, .string { data := #[] }]) hw1
  clear hw1
  have hlt3 := Lib.hid r3.lt
  refine wp_region_noPanic ?_
  refine wp_region_held_drew (S := fun w' => Row w' w.heap.size 25 (byts t) ∧ Row w' (w.heap.size + 1) 35 (dealV d)) (by kernel_rfl) (⟨r1.later ((Below.refl _ _).drew) r1.lt, r2.later ((Below.refl _ _).drew) r2.lt⟩) (fun hHeld => ?_)
  have hB : Below w1.heap.size w1 w1.drew := (Below.refl _ _).drew
  refine rt 0 5 hHeld ?_
  refine rt 1 6 hHeld ?_ (hy := by intro w hS; have h1 := deal_party hS.2; go_simp; try with_reducible rfl)
  refine rt 2 7 hHeld ?_
  refine rt 3 8 hHeld ?_ (hy := by intro w hS; exact run_load_op 25 (.tmp 7) rfl _ 1 rfl (byts d.key) _ (deal_key hS.2) Tryd.underlying25 rfl hkz.out)
  refine rt 4 9 hHeld ?_
  refine rt 5 10 hHeld ?_ (hy := by intro w hS; exact run_load_op 25 (.tmp 9) rfl _ 66 rfl (byts d.ask) _ (deal_ask hS.2 HD.out) Tryd.underlying25 rfl haz.out)
  refine rt 6 11 hHeld ?_
  refine rt 7 12 hHeld ?_ (hy := by intro w hS; exact run_load_op 25 (.tmp 11) rfl _ 33 rfl (byts d.root) _ (deal_root hS.2 HD.out) Tryd.underlying25 rfl hrz.out)
  refine rt 8 13 hHeld ?_
  refine rt 9 14 hHeld ?_ (hy := by intro w hS; have h1 := deal_cond hS.2 HD.out; go_simp; try with_reducible rfl)
  refine rt 11 16 hHeld ?_ (hy := by intro w hS; exact run_load_op 25 (.tmp 2) rfl _ 0 rfl (byts t) _ (row_range hS.1) Tryd.underlying25 rfl htz.out)
  refine rt 12 17 hHeld ?_
  refine rt 13 18 hHeld ?_ (hy := by intro w hS; exact run_load_op 25 (.tmp 17) rfl _ 98 rfl (byts d.vault) _ (deal_vault hS.2 HD.out) Tryd.underlying25 rfl hvz.out)
  refine rt 14 19 hHeld ?_
  refine rt 15 20 hHeld ?_ (hy := by intro w hS; exact run_load_op 25 (.tmp 19) rfl _ 33 rfl (byts d.root) _ (deal_root hS.2 HD.out) Tryd.underlying25 rfl hrz.out)
  refine rc1 10 fun K hK => ?_
  go_simp
  refine (hlo.out _ (hT.later (hb1.trans (hB.mono hb1.size)) (Nat.le_refl _))).mono ?_; rintro e ww110 ⟨rfl, hqw110⟩
  try go_wp2_with fail
  refine hK.out _ _ ⟨hHeld.1.later hqw110 hHeld.1.lt, hHeld.2.later hqw110 hHeld.2.lt⟩ (fun hHeld => ?_)
  clear hK K
  have hB := below_step hB hqw110
  have hB10 : Below ww110.heap.size ww110 ww110 := Below.refl _ _
  refine rc1 16 fun K hK => ?_
  go_simp
  refine (hhi.out _ (hT.later (hb1.trans (hB.mono hb1.size)) (Nat.le_refl _))).mono ?_; rintro e ww116 ⟨rfl, hqw116⟩
  try go_wp2_with fail
  refine hK.out _ _ ⟨hHeld.1.later hqw116 hHeld.1.lt, hHeld.2.later hqw116 hHeld.2.lt⟩ (fun hHeld => ?_)
  clear hK K
  have hB := below_step hB hqw116
  have hB10 := below_step hB10 hqw116
  have hB16 : Below ww116.heap.size ww116 ww116 := Below.refl _ _
  refine rt 17 22 hHeld ?_
  refine rc1 18 fun K hK => ?_
  refine step_store_row none rfl (by rfl) 48 (.tmp 4) (.tmp 22) rfl _ 0 48 _ (cavV ⟨true, [], d.party, L, HI⟩) rfl rfl (r3.later hB r3.lt) (by show 0 + 5 ≤ 5; decide) size_cav (cavV_one1 _) ?_; intro wf rf hgf; have hBz := hB
  refine hK.out _ _ ⟨hHeld.1.grown hgf (by omega), hHeld.2.grown hgf (by omega)⟩ (fun hHeld => ?_)
  clear hK K
  rw [put_none]
  refine wpAnyH_done (by kernel_rfl) ?_ _
  refine NoPanic.normal ?_
  have r9 : Row wf (w.heap.size + 1 + 1) 48 (cavV CC) := by rw [HC.out]; exact rf
  have hb9 := (hb1.trans (hBz.mono hb1.size)).grown hgf (Nat.le_trans hb1.size hBz.size) (fun k h => by cases h; omega)
  have R9 := Lib.hid (show wf.heap[w.heap.size + 1 + 1]? = some (.cells (cavV CC).toArray 48 (0, 0)) from r9)
  have hzC := Lib.hid (show (Tryd.prog.info? 48).map (·.size) = some (cavV CC).toArray.size from size_cav)
  clear r9 hgf rf hBz hHeld hb1
  go_wp2_with (with_reducible refine bodyPost_ret (results_cell_row rfl _ _ (w.heap.size + 1 + 1) 48 (cavV CC).toArray (0, 0) _ rfl R9.out Tryd.underlying48 rfl hzC.out) rfl ?_)
  try exact ⟨rfl, hb9⟩
set_option maxHeartbeats 8000000 in
theorem padd20_T (t : Tok) (ht : t.Ok) (d : Deal) (hd : d.Ok) (hc : d.cond.length ≤ 10000) (hm : t.cavs.length ≤ 1000000) (hft : ({ t with cavs := t.cavs ++ [cavD t.tag d] } : Tok).Fit) (A : Option Addr) (c : Nat) (w : World) (hT : Tabs w) (hs : Sl w A (c * 5) (t.cavs.flatMap cavV)) :
    Calls Tryd.prog 7 #[.agg (tokV t A c).toArray, .agg (dealV d).toArray] w (GaveTok (thirdT t d) (errThird t d) w) := by
  obtain ⟨Z, hZ⟩ : ∃ Z, Z = tokV zeroK none 0 := ⟨_, rfl⟩
  have hZl : Z.length = 36 := by rw [hZ]; exact length_tokV zeroK_ok none 0
  have hZe := Lib.hid (hZ.trans ztok)
  have hzZ := Lib.hid (show (Tryd.prog.info? 27).map (·.size) = some Z.toArray.size by rw [List.size_toArray, hZl]; exact size_tok)
  have hZ1 := Lib.hid (show Z.toArray.all (·.oneCell') = true by rw [hZ, List.all_toArray, List.all_eq_true]; exact tokV_one _ _ _)
  obtain ⟨X, hX⟩ : ∃ X, X = tokV t A c := ⟨_, rfl⟩
  have hXl : X.length = 36 := by rw [hX]; exact length_tokV ht A c
  have hzX := Lib.hid (show (Tryd.prog.info? 27).map (·.size) = some X.length by rw [hXl]; exact size_tok)
  obtain ⟨D, hD⟩ : ∃ D, D = dealV d := ⟨_, rfl⟩
  have hzD := Lib.hid (show (Tryd.prog.info? 35).map (·.size) = some D.length by rw [hD, length_dealV hd]; exact size_dealP)
  obtain ⟨w1, hw1⟩ : ∃ w1, w1 = ((w.alloc (.cells X.toArray 27)).alloc (.cells D.toArray 35)).alloc (.cells Z.toArray 27) := ⟨_, rfl⟩
  obtain ⟨r1, r2, r3, hb1, -⟩ := rows3 hw1.symm
  have HW := Lib.hid (hw1.trans (by rw [hZe.out]))
  have ts := hs.later (Nat.le_refl _) hb1
  have hc3 : w1.cell? ⟨w.heap.size, 3, none⟩ = some (.bool t.bound) := by rw [r1.cell, hX]; rfl
  have hcd := Lib.hid (show ∀ w', Tabs w' → Calls Tryd.prog 19 #[.agg (byts t.tag).toArray, .agg D.toArray] w' fun e w'' => e = .returned (.agg (cavV (cavD t.tag d)).toArray) ∧ Below w'.heap.size w' w'' by rw [hD]; exact fun w' h => pdealt20_T t.tag d ht.tag hd hc w' h)
  have had := Lib.hid (show ∀ w', Tabs w' → Sl w' A (c * 5) (t.cavs.flatMap cavV) → Calls Tryd.prog 18 #[.agg X.toArray, .agg (cavV (cavD t.tag d)).toArray] w' (GaveTok (addT t (cavD t.tag d)) (errAdd t (cavD t.tag d)) w') by
    rw [hX]; exact fun w' hT h => jadd_T t ht (cavD t.tag d) hd.party (by rw [capC_cavD t.tag d hd]; omega) hm hft A c w' hT h)
  have hUo : (addT t (cavD t.tag d)).Ok := by
    unfold addT; split
    · exact moreT_ok ht hd.party
    · exact zeroK_ok
  have htz := Lib.hid (tagz ht.tag)
  have HZ := Lib.hid hZ
  have HX := Lib.hid hX
  have HD := Lib.hid hD
  have HOk := Lib.hid hd
  have HT := Lib.hid hT
  have HE : errThird t d = if t.bound = true then 6 else if 512 < d.cond.length then 1 else errAdd t (cavD t.tag d) := rfl
  have HG := Lib.hid (show thirdT t d = if errThird t d = 0 then moreT t (cavD t.tag d) else zeroK from rfl)
  have HA := Lib.hid (show addT t (cavD t.tag d) = if errAdd t (cavD t.tag d) = 0 then moreT t (cavD t.tag d) else zeroK from rfl)
  have hzc := size_bstr d.cond
  have k65 : w1.cell? ⟨w.heap.size + 1, 65, none⟩ = some (.string (bstr d.cond)) := deal_cond (hD ▸ r2) hd
  rw [← hX, ← hD]
  clear hw1 hZ hX hD hs hd ht hc hm hft hT
  have Q3 := Lib.hid (show w1.heap[w.heap.size + 1 + 1]? = some (.cells Z.toArray 27 (0, 0)) from r3)
  have tok1 : True := trivial
  generalize addT t (cavD t.tag d) = UU at *
  generalize errAdd t (cavD t.tag d) = ee at *
  generalize moreT t (cavD t.tag d) = MM at *
  generalize thirdT t d = U at *
  generalize errThird t d = er at *
  cases hbd : t.bound with
  | true =>
    rw [hbd] at hc3 HE
    have e1 : er = 6 := HE.trans (if_pos rfl)
    have e2 : U = zeroK := by rw [HG.out, e1]; rfl
    have E1 := Lib.hid e1
    have E2 := Lib.hid e2
    clear r1 r2 r3 ts hXl hZl HE HG HA e1 e2 had hcd hzc k65
    go_enter Tryd.func7, Tryd.ntmps7
    go_wp2_with (first
      | (have _t := tok1; rw [← HW.out]; clear tok1)
      | (have _t := Q3; refine wpList_store_row rfl 27 (.tmp 4) (.tmp 8) rfl (w.heap.size + 1 + 1) Z.toArray rfl (by rw [hZe.out]; rfl) 27 Z.toArray Q3.out hzZ.out rfl hZ1.out ?_; refine Hid.out ?_))
    refine Lib.hid ?_
    generalize hw8 : World.setRow _ _ _ = w8
    obtain ⟨r8, hg8⟩ := row_set (show Row w1 (w.heap.size + 1 + 1) 27 Z from Q3.out) hw8
    have hb8 := hb1.grown hg8 hb1.size (fun k h => by cases h; omega)
    have R8 := Lib.hid (show w8.heap[w.heap.size + 1 + 1]? = some (.cells Z.toArray 27 (0, 0)) from r8)
    clear hw8 r8 Q3
    go_wp2_with fail
    exact ⟨rfl, _, results_row_tmp rfl _ _ (w.heap.size + 1 + 1) 27 Z.toArray (0, 0) _ rfl R8.out Tryd.underlying27 rfl hzZ.out _ rfl, none, 0, by rw [E2.out, E1.out, HZ.out]; rfl, by rw [E2.out]; exact sl_zeroK _, (fun a h => by cases h), hb8⟩
  | false =>
    rw [hbd] at hc3 HE
    replace HE := HE.trans (if_neg (by decide))
    clear hbd
    by_cases h512 : 512 < d.cond.length
    · have h5 : (512 : Int) < ((bstr d.cond).size : Int) := by rw [hzc]; omega
      have e1 : er = 1 := HE.trans (if_pos h512)
      have e2 : U = zeroK := by rw [HG.out, e1]; rfl
      have E1 := Lib.hid e1
      have E2 := Lib.hid e2
      clear r1 r2 r3 ts hXl hZl HE HG HA e1 e2 had hcd hzc
      go_enter Tryd.func7, Tryd.ntmps7
      go_wp2_with (first
        | (have _t := tok1; rw [← HW.out]; clear tok1)
        | (have _t := Q3; refine wpList_store_row rfl 27 (.tmp 4) (.tmp 13) rfl (w.heap.size + 1 + 1) Z.toArray rfl (by rw [hZe.out]; rfl) 27 Z.toArray Q3.out hzZ.out rfl hZ1.out ?_; refine Hid.out ?_))
      refine Lib.hid ?_
      generalize hw8 : World.setRow _ _ _ = w8
      obtain ⟨r8, hg8⟩ := row_set (show Row w1 (w.heap.size + 1 + 1) 27 Z from Q3.out) hw8
      have hb8 := hb1.grown hg8 hb1.size (fun k h => by cases h; omega)
      have R8 := Lib.hid (show w8.heap[w.heap.size + 1 + 1]? = some (.cells Z.toArray 27 (0, 0)) from r8)
      clear hw8 r8 Q3
      go_wp2_with fail
      exact ⟨rfl, _, results_row_tmp rfl _ _ (w.heap.size + 1 + 1) 27 Z.toArray (0, 0) _ rfl R8.out Tryd.underlying27 rfl hzZ.out _ rfl, none, 0, by rw [E2.out, E1.out, HZ.out]; rfl, by rw [E2.out]; exact sl_zeroK _, (fun a h => by cases h), hb8⟩
    replace HE := HE.trans (if_neg h512)
    have h5 : ¬ (512 : Int) < ((bstr d.cond).size : Int) := by rw [hzc]; omega
    have e2 : U = UU := by rw [HG.out, HA.out, HE]
    rw [← HE, ← e2] at had
    rw [← e2] at hUo
    unfold GaveTok at had
    have hlt3 := Lib.hid r3.lt
    have HZl := Lib.hid hZl
    clear hXl hZl HE HG HA e2 hzc Q3
    go_enter Tryd.func7, Tryd.ntmps7
    go_upto_region 5 with (have _t := tok1; rw [← HW.out]; clear tok1)
    clear k65 h5 h512 hc3 HW
    refine wp_region_noPanic ?_
    refine wp_region_held_drew (S := fun w' => Row w' w.heap.size 27 X ∧ Row w' (w.heap.size + 1) 35 D) (by kernel_rfl) (⟨r1.later ((Below.refl _ _).drew) r1.lt, r2.later ((Below.refl _ _).drew) r2.lt⟩) (fun hHeld => ?_)
    have hB : Below w1.heap.size w1 w1.drew := (Below.refl _ _).drew
    refine rt 0 14 hHeld ?_ (hy := by intro w hS; exact run_load_op 27 (.tmp 2) rfl _ 0 rfl X _ (row_range hS.1) Tryd.underlying27 rfl hzX.out)
    refine rt 1 15 hHeld ?_
    refine rt 2 16 hHeld ?_ (hy := by intro w hS; exact run_load_op 25 (.tmp 15) rfl _ 4 rfl (byts t.tag) _ (tok_tag_range (A := A) (c := c) (HX.out ▸ hS.1)) Tryd.underlying25 rfl htz.out)
    refine rt 3 17 hHeld ?_ (hy := by intro w hS; exact run_load_op 35 (.tmp 3) rfl _ 0 rfl D _ (row_range hS.2) Tryd.underlying35 rfl hzD.out)
    refine rc1 4 fun K hK => ?_
    go_simp
    refine (hcd.out _ (HT.out.later (hb1.trans (hB.mono hb1.size)) (Nat.le_refl _))).mono ?_; rintro e ww14 ⟨rfl, hqw14⟩
    try go_wp2_with fail
    refine hK.out _ _ ⟨hHeld.1.later hqw14 hHeld.1.lt, hHeld.2.later hqw14 hHeld.2.lt⟩ (fun hHeld => ?_)
    clear hK K
    have hB := below_step hB hqw14
    have hB4 : Below ww14.heap.size ww14 ww14 := Below.refl _ _
    refine rc1 5 fun K hK => ?_
    go_simp
    refine (had.out _ (HT.out.later (hb1.trans (hB.mono hb1.size)) (Nat.le_refl _)) (ts.later (Nat.le_refl _) hB)).mono ?_; rintro e ww15 ⟨B, dd, rfl, s4, hap, hqw15⟩; have hap := Lib.hid hap; have hgt := Lib.hid hB.size
    try go_wp2_with fail
    refine hK.out _ _ ⟨hHeld.1.later hqw15 hHeld.1.lt, hHeld.2.later hqw15 hHeld.2.lt⟩ (fun hHeld => ?_)
    clear hK K
    have hB := below_step hB hqw15
    have hB4 := below_step hB4 hqw15
    have hB5 : Below ww15.heap.size ww15 ww15 := Below.refl _ _
    refine rt 6 20 hHeld ?_
    refine rt 7 21 hHeld ?_
    refine rc1 8 fun K hK => ?_
    have hVl := length_tokV hUo B dd; refine step_store_row none rfl (by rfl) 27 (.tmp 4) (.tmp 20) rfl _ 0 27 _ (tokV U B dd) rfl rfl (r3.later hB r3.lt) (by rw [hVl, HZl.out]; exact Nat.le_refl _) (by rw [hVl]; exact size_tok) (tokV_one _ _ _) ?_; intro wf rf hgf; have hBz := hB
    refine hK.out _ _ ⟨hHeld.1.grown hgf (by omega), hHeld.2.grown hgf (by omega)⟩ (fun hHeld => ?_)
    clear hK K
    rw [put_none]
    refine rt 9 5 hHeld ?_
    refine wpAnyH_done (by kernel_rfl) ?_ _
    refine NoPanic.normal ?_
    have hspl : splice Z 0 (tokV U B dd) = tokV U B dd := by
      unfold splice
      rw [List.take_zero, List.nil_append, Nat.zero_add, List.drop_eq_nil_of_le (by rw [hVl, HZl.out]; exact Nat.le_refl _), List.append_nil]
    rw [hspl] at rf
    have hb9 := (hb1.trans (hBz.mono hb1.size)).grown hgf (Nat.le_trans hb1.size hBz.size) (fun k h => by cases h; omega)
    have hl3 := hlt3.out
    have hl2 := hb1.size
    have s9 := s4.apart hgf (fun _ a ha => by have := hap.out a ha; have := hgt.out; omega)
    have R9 := Lib.hid (show wf.heap[w.heap.size + 1 + 1]? = some (.cells (tokV U B dd).toArray 27 (0, 0)) from rf)
    have hzV := Lib.hid (show (Tryd.prog.info? 27).map (·.size) = some (tokV U B dd).toArray.size by rw [List.size_toArray, hVl]; exact size_tok)
    clear rf hgf hBz hHeld hspl hVl
    go_wp2_with fail
    exact ⟨rfl, _, results_row_tmp rfl _ _ (w.heap.size + 1 + 1) 27 (tokV U B dd).toArray (0, 0) _ rfl R9.out Tryd.underlying27 rfl hzV.out _ rfl, B, dd, rfl, s9, (fun a ha => by have := hap.out a ha; have := hgt.out; omega), hb9⟩
end Go.Proofs.YtcbilopdeiapjaaDoor

/- LAYER 20: package third by the names that the laws' walks use. -/
namespace Go.Proofs.YtcbilopdeiapjaaDoor
set_option maxRecDepth 100000
open Go Go.RowKit

theorem mem_capT (l : List Cav) : ∀ c ∈ l, capC c ≤ (l.map capC).sum := by
  induction l with
  | nil => intro c h; cases h
  | cons a l ih =>
    intro c h
    rw [List.map_cons, List.sum_cons]
    rcases List.mem_cons.1 h with rfl | h
    · omega
    · have := ih c h; omega
theorem fit_moreT {t : Tok} (h : capT t ≤ 10000) {d : Deal} (hd : d.Ok) (hc : d.cond.length ≤ 600) : ({ t with cavs := t.cavs ++ [cavD t.tag d] } : Tok).Fit := by
  have h1 := capT_len t.cavs
  unfold capT at h
  refine ⟨by show t.id.length ≤ _; omega, by show (t.cavs ++ [cavD t.tag d]).length ≤ _; rw [List.length_append]; show t.cavs.length + 1 ≤ _; omega, fun e he => ?_⟩
  have h3 : capC e ≤ 100000 := by
    rcases List.mem_append.1 he with he | he
    · have := mem_capT t.cavs e he; omega
    · rw [List.mem_singleton.1 he, capC_cavD t.tag d hd]; omega
  unfold capC at h3
  exact ⟨by omega, by omega, by omega⟩
theorem tadd20_any (t : Tok) (ht : t.Ok) (hcap : capT t ≤ 10000) (d : Deal) (hd : d.Ok) (hc : d.cond.length ≤ 600) (A : Option Addr) (c : Nat) (w : World) (hT : Tabs w) (hs : Sl w A (c * 5) (t.cavs.flatMap cavV)) :
    Calls Tryd.prog 7 #[.agg (tokV t A c).toArray, .agg (dealV d).toArray] w (GaveTok (thirdT t d) (errThird t d) w) :=
  padd20_T t ht d hd (by omega) (by have h1 := capT_len t.cavs; unfold capT at hcap; omega) (fit_moreT hcap hd hc) A c w hT hs
theorem tlock20_any (key nonce root cond : List UInt8) (hk : key.length = 32) (hn : nonce.length = 32) (hr : root.length = 32) (hc : cond.length ≤ 600) (w : World) (hT : Tabs w) :
    Calls Tryd.prog 14 #[.agg (byts key).toArray, .agg (byts nonce).toArray, .agg (byts root).toArray, .string (bstr cond)] w fun e w' => e = .returned (.string (bstr (lockL key nonce root cond))) ∧ Below w.heap.size w w' := plock20_T key nonce root cond hk hn hr (by omega) w hT
theorem thide20_any (key nonce root : List UInt8) (hk : key.length = 32) (hn : nonce.length = 32) (hr : root.length = 32) (w : World) (hT : Tabs w) :
    Calls Tryd.prog 16 #[.agg (byts key).toArray, .agg (byts nonce).toArray, .agg (byts root).toArray] w fun e w' => e = .returned (.string (bstr (hideL key nonce root))) ∧ Below w.heap.size w w' := phide20_T key nonce root hk hn hr w hT
theorem tunlock20_any (key s : List UInt8) (hk : key.length = 32) (hs : s.length ≤ 600) (w : World) (hT : Tabs w) :
    Calls Tryd.prog 10 #[.agg (byts key).toArray, .string (bstr s)] w fun e w' => e = .returned (.tuple #[.agg (byts (unlockL key s).1).toArray, .string (bstr (unlockL key s).2.1), .bool (unlockL key s).2.2]) ∧ Below w.heap.size w w' := punlock20_T key s hk (by omega) w hT
theorem treveal20_any (key s : List UInt8) (hk : key.length = 32) (hs : s.length ≤ 600) (w : World) (hT : Tabs w) :
    Calls Tryd.prog 12 #[.agg (byts key).toArray, .string (bstr s)] w fun e w' => e = .returned (.tuple #[.agg (byts (revealL key s).1).toArray, .bool (revealL key s).2]) ∧ Below w.heap.size w w' := preveal20_T key s hk (by omega) w hT
end Go.Proofs.YtcbilopdeiapjaaDoor

/- LAYER 20: thirdAlive. -/
namespace Go.Proofs.YtcbilopdeiapjaaDoor
set_option maxRecDepth 100000
open Go Go.RowKit

theorem wpList_build0T {P : Program} {w : World} {ops : Array Oper} {rest : List Oper} {o : Oper} {a : Act} {Q : Exit → Act → World → Prop} (hgd : o.guard = none) (ty : TypeId) (ho : o.op = .build ty #[]) (v : Value)
    (hv : (Instr.build ty #[]).run P w = .ok v w) (h : wpList P ops Q rest (a.put o.dst v) w) : wpList P ops Q (o :: rest) a w := by
  refine wpList_plain hgd fun _ hK => ?_
  unfold Oper.wp execOp
  simp only [ho, Sem.run_bind, Sem.run_pure, Result.andThen_ok, List.map_toArray, List.map_nil, hv]
  exact hK _ _ h
theorem wpList_build1T {P : Program} {w : World} {ops : Array Oper} {rest : List Oper} {o : Oper} {a : Act} {Q : Exit → Act → World → Prop} (hgd : o.guard = none) (ty : TypeId) (k0 : Nat) (x0 : Operand) (ho : o.op = .build ty #[(k0, x0)]) (v0 v : Value) (hx0 : a.eval x0 = v0)
    (hv : (Instr.build ty #[(k0, v0)]).run P w = .ok v w) (h : wpList P ops Q rest (a.put o.dst v) w) : wpList P ops Q (o :: rest) a w := by
  refine wpList_plain hgd fun _ hK => ?_
  unfold Oper.wp execOp
  simp only [ho, Sem.run_bind, Sem.run_pure, Result.andThen_ok, List.map_toArray, List.map_cons, List.map_nil, hx0, hv]
  exact hK _ _ h
def dealA : Deal := ⟨0, zero32, zero32, [97, 98, 99, 100], zero32, zero32⟩
theorem dealA_ok : dealA.Ok := ⟨by decide, rfl, rfl, rfl, rfl⟩
theorem build_dealA (w : World) : (Instr.build 35 #[(3, .string { data := #[97, 98, 99, 100] })]).run Tryd.prog w = .ok (.agg (dealV dealA).toArray) w := by go_simp; rfl
theorem build_tokZ (w : World) : (Instr.build 27 #[]).run Tryd.prog w = .ok (.agg (tokV zeroK none 0).toArray) w := by go_simp; rfl
def cavA : Cav := cavD zero32 dealA
theorem cavA_id : (lockL zero32 zero32 zero32 [97, 98, 99, 100]).length = 100 := length_lockL _ _ _ _ rfl rfl
theorem cavA_vault : (hideL zero32 zero32 zero32).length = 96 := length_hideL _ _ _ rfl rfl
theorem third_alive : errThird zeroK dealA = 0 ∧ thirdT zeroK dealA = moreT zeroK cavA := by
  have hc : canC cavA = true := by
    show (decide (([] : List UInt8) = []) && decide ((lockL zero32 zero32 zero32 [97, 98, 99, 100]).length ≤ 1024) && decide ((hideL zero32 zero32 zero32).length ≤ 1024)) = true
    rw [cavA_id, cavA_vault]; rfl
  have h : checkT (moreT zeroK cavA) = true := by
    show (decide ((0 : Nat) ≤ 1024) && decide ((1 : Nat) ≤ 64) && [cavA].all canC) = true
    rw [List.all_cons, hc]; rfl
  have e : errThird zeroK dealA = 0 := by
    unfold errThird errAdd
    rw [if_neg (by show ¬ false = true; decide), if_neg (by show ¬ 512 < 4; decide), if_neg (by show ¬ false = true; decide)]
    exact if_pos h
  exact ⟨e, by unfold thirdT; rw [e]; rfl⟩
set_option maxHeartbeats 8000000 in
theorem talive20_any (w : World) (hT : Tabs w) : Calls Tryd.prog 5 #[] w fun e w' => e = .returned (.bool true) ∧ Below w.heap.size w w' := by
  have hu : (moreT zeroK cavA).Ok := moreT_ok zeroK_ok (by show (0 : Nat) < _; decide)
  have had := Lib.hid (show Calls Tryd.prog 7 #[.agg (tokV zeroK none 0).toArray, .agg (dealV dealA).toArray] w (GaveTok (moreT zeroK cavA) 0 w) by
    have h := tadd20_any zeroK zeroK_ok (by show (0 : Nat) ≤ _; decide) dealA dealA_ok (by show (4 : Nat) ≤ _; decide) none 0 w hT (sl_zeroK w)
    rw [third_alive.1, third_alive.2] at h
    exact h)
  have hbd := Lib.hid (build_dealA w)
  have hbt := Lib.hid (build_tokZ w)
  unfold GaveTok at had
  generalize (dealV dealA).toArray = DA at *
  generalize (tokV zeroK none 0).toArray = ZA at *
  clear hT
  go_enter Tryd.func5, Tryd.ntmps5
  go_wp2_with (first
    | (refine wpList_build0T rfl 27 rfl (.agg ZA) hbt.out ?_)
    | (refine wpList_build1T rfl 35 3 _ rfl (.string { data := #[97, 98, 99, 100] }) (.agg DA) rfl hbd.out ?_)
    | (go_at_call 7; refine had.out.mono ?_; rintro e w2 ⟨A, c, rfl, s2, -, hb2⟩; have hVl := length_tokV hu A c; have hzV := Lib.hid (show (Tryd.prog.info? 27).map (·.size) = some (tokV (moreT zeroK cavA) A c).toArray.size by rw [List.size_toArray, hVl]; exact size_tok); have h36 := Lib.hid (show 36 = (tokV (moreT zeroK cavA) A c).toArray.size by rw [List.size_toArray, hVl]); have hV1 := Lib.hid (show (tokV (moreT zeroK cavA) A c).toArray.all (·.oneCell') = true by rw [List.all_toArray, List.all_eq_true]; exact tokV_one _ _ _); clear hVl)
    | (have _t := h36; with_reducible refine wpList_store_row rfl 27 (.tmp 1) (.tmp 7) rfl w2.heap.size (tokV (moreT zeroK cavA) A c).toArray rfl rfl 27 _ (heap_alloc_new w2 _) hzV.out (Eq.trans (by kernel_rfl) h36.out) hV1.out ?_; refine Hid.out ?_))
  refine Lib.hid ?_
  generalize hw3 : World.setRow _ _ _ = w3
  obtain ⟨r1, hq⟩ := row_new_set (xs := tokV (moreT zeroK cavA) A c) hw3
  have s3 : Sl w3 A (c * 5) (cavV cavA ++ []) := s2.later (Nat.le_refl _) hq
  have hb3 := hb2.trans (hq.mono hb2.size)
  obtain ⟨b, o, rfl, hb0, hr0⟩ := s3.rd.get (i := 0) (by show (0 : Nat) < 5; decide)
  have hc2 : w3.cell? ⟨w2.heap.size, 2, none⟩ = some (.slice (some ⟨b, o, none⟩) 1 c) := by rw [r1.cell]; rfl
  have hix := index_cav (some ⟨b, o, none⟩) b o 1 c 0 rfl (by decide)
  have hrg := s3.range
  have k0 : w3.cell? ⟨b, o, none⟩ = some (.bool true) := hrg 0 _ rfl
  have k3 : w3.cell? ⟨b, o + 3, none⟩ = some (.string (bstr (lockL zero32 zero32 zero32 [97, 98, 99, 100]))) := hrg 3 _ rfl
  have k4 : w3.cell? ⟨b, o + 4, none⟩ = some (.string (bstr (hideL zero32 zero32 zero32))) := hrg 4 _ rfl
  have z3 := size_bstr (lockL zero32 zero32 zero32 [97, 98, 99, 100])
  have z4 := size_bstr (hideL zero32 zero32 zero32)
  rw [cavA_id] at z3
  rw [cavA_vault] at z4
  generalize lockL zero32 zero32 zero32 [97, 98, 99, 100] = L at *
  generalize hideL zero32 zero32 zero32 = HI at *
  generalize bstr L = LB at *
  generalize bstr HI = HB at *
  have z3 : (((LB.size : Nat) : Int) == 100) = true := by rw [z3]; rfl
  have z4 : (((HB.size : Nat) : Int) == 96) = true := by rw [z4]; rfl
  clear hw3 hq s2 s3 r1 hb0 hr0 hrg hb2 hzV h36 hV1 had hbd hbt hu
  go_wp2
  go_ret
  exact ⟨rfl, hb3⟩
end Go.Proofs.YtcbilopdeiapjaaDoor
