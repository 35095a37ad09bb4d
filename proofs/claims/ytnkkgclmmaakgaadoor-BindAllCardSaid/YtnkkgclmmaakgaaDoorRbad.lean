/- Texts of this claim, one behind the other. -/
import Derived.Test.YtnkkgclmmaakgaaDoorRbab
import Derived.Test.YtnkkgclmmaakgaaDoorRbac
import Derived.Lib.AppendStr
import Derived.Laws.MakeOwn
import Derived.Test.YtnkkgclmmaakgaaDoorRbaa
/- LAYER 10: package packet: can, Check. -/
namespace Go.Proofs.YtnkkgclmmaakgaaDoor
set_option maxRecDepth 100000
open Go Go.RowKit

set_option maxHeartbeats 1000000 in
theorem pcan_any (c : Cav) (w : World) :
    Calls Tryd.prog 46 #[.agg (cavV c).toArray] w fun e w' => e = .returned (.bool (canC c)) ∧ Below w.heap.size w w' := by
  obtain ⟨third, text, party, id, vault⟩ := c
  have h1 := size_bstr text
  have h2 := size_bstr id
  have h3 := size_bstr vault
  have e1 := bstr_toList text
  have e2 := bstr_toList id
  have e3 := bstr_toList vault
  unfold cavV
  cases third
  · go_enter Tryd.func46, Tryd.ntmps46
    go_wp2
    all_goals go_ret
    all_goals refine ⟨?_, (Below.refl _ _).alloc (Nat.le_refl _) _⟩
    all_goals simp_all [canC]
    all_goals first | (intro; omega) | (have hq : text.length ≤ 512 := (by omega); cases vault <;> simp [hq]) | (have hq : id.length ≤ 1024 := (by omega); rw [decide_eq_true hq, Bool.true_and]; exact decide_eq_decide.2 (by omega)) | omega
  · go_enter Tryd.func46, Tryd.ntmps46
    go_wp2
    all_goals go_ret
    all_goals refine ⟨?_, (Below.refl _ _).alloc (Nat.le_refl _) _⟩
    all_goals simp_all [canC]
    all_goals first | (intro; omega) | (have hq : text.length ≤ 512 := (by omega); cases vault <;> simp [hq]) | (have hq : id.length ≤ 1024 := (by omega); rw [decide_eq_true hq, Bool.true_and]; exact decide_eq_decide.2 (by omega))
theorem pnot_any (c : Cav) (w : World) :
    Calls Tryd.prog 45 #[.agg (cavV c).toArray] w fun e w' => e = .returned (.bool (!canC c)) ∧ Below w.heap.size w w' := by
  have hcan := Lib.hid (pcan_any c)
  have hb1 := (Below.refl w.heap.size w).alloc (Nat.le_refl _) (.cells (cavV c).toArray 50)
  unfold cavV at *
  generalize canC c = r at *
  go_enter Tryd.func45, Tryd.ntmps45
  go_wp2_with (go_at_call 46; refine (hcan.out _).mono ?_; rintro e w6 ⟨rfl, hb6⟩; have hbw6 := hb1.trans (hb6.mono hb1.size))
  go_ret
  exact ⟨rfl, hbw6⟩
set_option maxRecDepth 100000 in
set_option maxHeartbeats 2000000 in
theorem pindex_any (A : Option Addr) (c : Nat) (cs : List Cav) (w : World) (hs : Sl w A (c * 5) (cs.flatMap cavV)) (hm : cs.length ≤ 1000000) :
    Calls Tryd.prog 60 #[.slice A cs.length c, .func (.func 45) #[] #[]] w fun e w' => ∃ r : Int, e = .returned (.int .i64 r) ∧ (r = -1 ∧ cs.all canC = true ∨ 0 ≤ r ∧ cs.all canC = false) ∧ Below w.heap.size w w' := by
  have h2' : (cs.length : Int) ≤ 1000000 := by omega
  go_enter Tryd.func60, Tryd.ntmps60
  go_wp2_with fail
  go_loopw [8] (fun i wr => ∃ k : Nat, k ≤ cs.length ∧ i = .int .i64 k ∧ (cs.take k).all canC = true ∧ Below w.heap.size w wr) (fun i _ => cs.length - (intOf i).toNat)
  case atStart => exact ⟨0, by omega, rfl, rfl, Below.refl _ _⟩
  case round =>
    obtain ⟨k, hk, rfl, hall, hb⟩ := hrel
    by_cases hlt : k < cs.length
    · obtain ⟨cv, hcv⟩ : ∃ cv, cs[k]? = some cv := ⟨_, List.getElem?_eq_getElem hlt⟩
      obtain ⟨b, o, rfl, hb0, hr0⟩ := hs.rd.get (i := 0) (by rw [length_cavsV]; omega)
      clear hb0 hr0
      have hix := index_cav (some ⟨b, o, none⟩) b o cs.length c k rfl hlt
      have hrg := (hs.later (Nat.le_refl _) hb).thing (k := 5) (fun _ _ => rfl) k cv hcv
      have HA := Lib.hid (all_take hall hcv)
      have HB := Lib.hid (all_bad hcv)
      have hcan := Lib.hid (pnot_any cv)
      have hzf := Lib.hid (show (Tryd.prog.info? 50).map (·.size) = some (cavV cv).length from size_cav)
      obtain ⟨V2, hV2q⟩ : ∃ V, V = cavV cv := ⟨_, rfl⟩
      rw [← hV2q] at hrg hcan hzf
      clear hV2q hcv hall
      generalize canC cv = r at *
      go_wp2_with (first
        | (with_reducible refine wpList_load_mid rfl 50 (.tmp 14) rfl b (o + k * 5) rfl V2 _ hrg Tryd.underlying50 rfl hzf.out ?_)
        | (go_at_call 45; refine (hcan.out _).mono ?_; rintro e w6 ⟨rfl, hb6⟩; have hbw6 := hb.trans (hb6.mono hb.size); cases r))
      · go_ret
        exact ⟨k, rfl, .inr ⟨by omega, HB.out (by first | rfl | trivial)⟩, hbw6⟩
      · go_roundw
        case rel => exact ⟨k + 1, by omega, by go_num, HA.out, hbw6⟩
        case measure => simp [intOf]; omega
    · obtain rfl : k = cs.length := by omega
      rw [List.take_length] at hall
      clear hlt hk hs
      generalize cs.length = n at *
      go_wp2
      go_ret
      exact ⟨-1, rfl, .inl ⟨rfl, hall⟩, hb⟩
theorem phas_any (A : Option Addr) (c : Nat) (cs : List Cav) (w : World) (hs : Sl w A (c * 5) (cs.flatMap cavV)) (hm : cs.length ≤ 1000000) :
    Calls Tryd.prog 47 #[.slice A cs.length c, .func (.func 45) #[] #[]] w fun e w' => e = .returned (.bool (!cs.all canC)) ∧ Below w.heap.size w w' := by
  have hi := Lib.hid (pindex_any A c cs w hs hm)
  generalize cs.all canC = r at *
  generalize cs.length = n at *
  clear hs
  go_enter Tryd.func47, Tryd.ntmps47
  go_wp2_with (go_at_call 60; refine hi.out.mono ?_; rintro e w6 ⟨x, rfl, hx, hb6⟩)
  · rcases hx with ⟨rfl, rfl⟩ | ⟨h1, rfl⟩
    all_goals go_wp2
    all_goals go_ret
    all_goals first | exact ⟨rfl, hb6⟩ | (exfalso; omega) | trace_state
set_option maxRecDepth 100000 in
set_option maxHeartbeats 2000000 in
theorem pcheck_any (t : Tok) (_ht : t.Ok) (_hf : t.Fit) (A : Option Addr) (c : Nat) (w : World) (hs : Sl w A (c * 5) (t.cavs.flatMap cavV)) :
    Calls Tryd.prog 33 #[.agg (tokV t A c).toArray] w fun e w' => e = .returned (.int .i64 (errT t)) ∧ Below w.heap.size w w' := by
  have hb1 : Below w.heap.size w (w.alloc (.cells (tokV t A c).toArray 27)) := (Below.refl _ _).alloc (Nat.le_refl _) _
  have hr : Row (w.alloc (.cells (tokV t A c).toArray 27)) w.heap.size 27 (tokV t A c) := Row.new w 27 _
  have hg := tokV_get t A c
  obtain ⟨V, hV⟩ : ∃ V, V = tokV t A c := ⟨_, rfl⟩
  rw [← hV] at hb1 hr hg ⊢
  clear hV
  have hc1 : (w.alloc (.cells V.toArray 27)).cell? ⟨w.heap.size, 1, none⟩ = some (.string (bstr t.id)) := by rw [hr.cell]; exact hg.2.1
  have hc2 : (w.alloc (.cells V.toArray 27)).cell? ⟨w.heap.size, 2, none⟩ = some (.slice A t.cavs.length c) := by rw [hr.cell]; exact hg.2.2.1
  have hz := size_bstr t.id
  clear hg hr
  obtain ⟨E, hE⟩ : ∃ E, E = errT t := ⟨_, rfl⟩
  rw [← hE]
  unfold errT at hE
  replace hE := Lib.hid hE
  by_cases h1 : 1024 < t.id.length
  · have HE := Lib.hid (check_id h1)
    have h1' : (1024 : Int) < (t.id.length : Int) := by omega
    clear hs h1
    go_enter Tryd.func33, Tryd.ntmps33
    go_wp2
    go_ret
    exact ⟨by rw [hE.out, HE.out]; rfl, hb1⟩
  by_cases h2 : 64 < t.cavs.length
  · have HE := Lib.hid (check_many h2)
    have h1' : (t.id.length : Int) ≤ 1024 := by omega
    have h2' : (64 : Int) < (t.cavs.length : Int) := by omega
    clear hs h1 h2
    go_enter Tryd.func33, Tryd.ntmps33
    go_wp2
    go_ret
    exact ⟨by rw [hE.out, HE.out]; rfl, hb1⟩
  have HE := Lib.hid (check_cavs (t := t) (by omega) (by omega))
  have h1' : (t.id.length : Int) ≤ 1024 := by omega
  have h2' : (t.cavs.length : Int) ≤ 64 := by omega
  have hhas := Lib.hid (fun w1 h => phas_any A c t.cavs w1 h (by omega))
  generalize t.cavs.all canC = r at *
  have hs1 := hs.later (Nat.le_refl _) hb1
  clear h1 h2 hs
  go_enter Tryd.func33, Tryd.ntmps33
  go_wp2_with (go_at_call 47; refine (hhas.out _ hs1).mono ?_; rintro e w6 ⟨rfl, hb6⟩; have hbw6 := hb1.trans (hb6.mono hb1.size); cases r)
  all_goals go_ret
  all_goals exact ⟨by rw [hE.out, HE.out]; rfl, hbw6⟩
end Go.Proofs.YtnkkgclmmaakgaaDoor

/- LAYER 10: package packet: Same, Clone. -/
namespace Go.Proofs.YtnkkgclmmaakgaaDoor
set_option maxRecDepth 100000
open Go Go.RowKit

theorem nil_none (w : World) : (binOp BinOp.eql 25 (.slice none 0 0) (.slice none 0 0)).run Tryd.prog w = .ok (.bool true) w := by kernel_rfl
theorem own_baseP {w : World} {b b' t k n : Nat} {v : Value} {xs : List Value} (h : w.ownsRow b t k v n xs) (hb : b' ≤ b) : w.ownsRow b' t k v n xs := by
  obtain ⟨hl, h | ⟨g, cap, cur, rfl, hg, h⟩⟩ := h
  · exact ⟨hl, .inl h⟩
  · exact ⟨hl, .inr ⟨g, cap, cur, rfl, Nat.le_trans hb hg, h⟩⟩
theorem nil_some (ad : Addr) (n c : Nat) (w : World) : (binOp BinOp.eql 25 (.slice (some ad) n c) (.slice none 0 0)).run Tryd.prog w = .ok (.bool false) w := by kernel_rfl
set_option maxRecDepth 100000 in
set_option maxHeartbeats 2000000 in
theorem psclone_own (cs : List Cav) (hm : cs.length ≤ 1000000) (A : Option Addr) (c : Nat) (w : World) (hs : Sl w A (c * 5) (cs.flatMap cavV)) :
    Calls Tryd.prog 26 #[.slice A cs.length c] w fun e w' => ∃ B d, e = .returned (.slice B cs.length d) ∧ w'.ownsRow w.heap.size 50 5 (.slice B cs.length d) cs.length (cs.flatMap cavV) ∧ Below w.heap.size w w' := by
  cases A with
  | none =>
    have h0 : cs.length = 0 := by
      have h1 := hs.bare rfl
      have h2 := hs.room
      rw [length_cavsV] at h2
      omega
    have hc : c = 0 := by
      have h1 := hs.bare rfl
      omega
    obtain rfl : cs = [] := List.eq_nil_of_length_eq_zero h0
    subst hc
    clear h0
    have hnil := nil_none
    go_enter Tryd.func26, Tryd.ntmps26
    go_wp2
    go_ret
    exact ⟨none, 0, rfl, World.ownsRow_nil w _ _ _, Below.refl _ _⟩
  | some ad =>
    obtain ⟨i0, hi, hz0, hz1, hz2⟩ := info_cav
    have HF := Lib.hid (length_cavsV cs)
    have hone := Lib.hid (cavV_one cs)
    have n1 : 0 + cs.length ≤ maxLen := by unfold maxLen; omega
    have n2 : (0 + cs.length) * 64 ≤ 140737488355328 := by omega
    have hb1 := (Below.refl w.heap.size w).alloc (Nat.le_refl _) (.cells #[] 50)
    have hs1 := hs.later (Nat.le_refl _) hb1
    have hown1 : (w.alloc (.cells #[] 50)).ownsRow w.heap.size 50 5 (.slice (some ⟨w.heap.size, 0, none⟩) 0 0) 0 [] := World.ownsRow_lit w _ 0 (Nat.le_refl _) (by decide) rfl
    generalize hw1 : w.alloc (.cells #[] 50) = w1 at hb1 hs1 hown1
    have HW := Lib.hid hw1
    clear hw1 hs
    generalize cs.length = n at *
    have hnil := nil_some ad n c
    go_enter Tryd.func26, Tryd.ntmps26
    go_wp2_with (at_builtin; rw [HW.out]; refine wpList_append_k rfl (.tmp 5) (.tmp 6) 25 rfl w.heap.size 50 i0 _ 5 64 Tryd.underlying25 hi hz0 hz1 (by omega) hz2 rfl _ 0 [] rfl hown1 (some ad) n c (cs.flatMap cavV) rfl HF.out hs1 hone.out n1 n2 hb1.size ?_; intro v7 w7 hown7 hg7; have hb7 := hb1.grown hg7 hb1.size (fun k hk => (hown1.lt k hk).1))
    rw [List.nil_append, Nat.zero_add] at hown7
    obtain ⟨A7, c7, rfl, _, _⟩ := Sl.of_ownk hown7
    replace hown7 := Lib.hid hown7
    go_ret
    exact ⟨A7, c7, rfl, hown7.out, hb7⟩
set_option maxRecDepth 100000 in
set_option maxHeartbeats 2000000 in
theorem pclone_own (t : Tok) (ht : t.Ok) (hm : t.cavs.length ≤ 1000000) (A : Option Addr) (c : Nat) (w : World) (hs : Sl w A (c * 5) (t.cavs.flatMap cavV)) :
    Calls Tryd.prog 19 #[.agg (tokV t A c).toArray] w fun e w' => ∃ B d, e = .returned (.agg (tokV t B d).toArray) ∧ w'.ownsRow w.heap.size 50 5 (.slice B t.cavs.length d) t.cavs.length (t.cavs.flatMap cavV) ∧ Below w.heap.size w w' := by
  have hck := Lib.hid (fun w1 h => psclone_own t.cavs hm A c w1 h)
  have hg := tokV_get t A c
  have hVs := Lib.hid (fun B d => show (tokV t A c).set 2 (.slice B t.cavs.length d) = tokV t B d from rfl)
  have hlen := Lib.hid (fun B d => length_tokV ht B d)
  have hone := Lib.hid (fun B d => all_one (tokV_one t B d))
  obtain ⟨V, hV⟩ : ∃ V, V = tokV t A c := ⟨_, rfl⟩
  rw [← hV] at hg hVs ⊢
  clear hV
  have c2 : ((w.alloc (.cells V.toArray 27)).alloc (.cells [Value.int .u64 0, .string { data := #[] }, .slice none 0 0, .bool false, .int .u8 0, .int .u8 0, .int .u8 0, .int .u8 0, .int .u8 0, .int .u8 0, .int .u8 0, .int .u8 0, .int .u8 0, .int .u8 0, .int .u8 0, .int .u8 0, .int .u8 0, .int .u8 0, .int .u8 0, .int .u8 0, .int .u8 0, .int .u8 0, .int .u8 0, .int .u8 0, .int .u8 0, .int .u8 0, .int .u8 0, .int .u8 0, .int .u8 0, .int .u8 0, .int .u8 0, .int .u8 0, .int .u8 0, .int .u8 0, .int .u8 0, .int .u8 0].toArray 27)).cell? ⟨w.heap.size, 2, none⟩ = some (.slice A t.cavs.length c) := by rw [(two_rows (w := w) (A := V) (B := [Value.int .u64 0, .string { data := #[] }, .slice none 0 0, .bool false, .int .u8 0, .int .u8 0, .int .u8 0, .int .u8 0, .int .u8 0, .int .u8 0, .int .u8 0, .int .u8 0, .int .u8 0, .int .u8 0, .int .u8 0, .int .u8 0, .int .u8 0, .int .u8 0, .int .u8 0, .int .u8 0, .int .u8 0, .int .u8 0, .int .u8 0, .int .u8 0, .int .u8 0, .int .u8 0, .int .u8 0, .int .u8 0, .int .u8 0, .int .u8 0, .int .u8 0, .int .u8 0, .int .u8 0, .int .u8 0, .int .u8 0, .int .u8 0]) (tA := 27) (tB := 27) rfl).1.cell]; exact hg.2.2.1
  go_enter Tryd.func19, Tryd.ntmps19
  go_wp2_with fail
  generalize hw2 : World.alloc (World.alloc w _) _ = w2 at c2 ⊢
  obtain ⟨r0, r1, hb1, hsz⟩ := two_rows (A := V) (B := [Value.int .u64 0, .string { data := #[] }, .slice none 0 0, .bool false, .int .u8 0, .int .u8 0, .int .u8 0, .int .u8 0, .int .u8 0, .int .u8 0, .int .u8 0, .int .u8 0, .int .u8 0, .int .u8 0, .int .u8 0, .int .u8 0, .int .u8 0, .int .u8 0, .int .u8 0, .int .u8 0, .int .u8 0, .int .u8 0, .int .u8 0, .int .u8 0, .int .u8 0, .int .u8 0, .int .u8 0, .int .u8 0, .int .u8 0, .int .u8 0, .int .u8 0, .int .u8 0, .int .u8 0, .int .u8 0, .int .u8 0, .int .u8 0]) (tA := 27) (tB := 27) hw2
  have hs1 := hs.later (Nat.le_refl _) hb1
  have hlt0 := r0.lt
  have hlt1 := r1.lt
  obtain ⟨Z, hZ⟩ : ∃ Z : List Value, Z = [Value.int .u64 0, .string { data := #[] }, .slice none 0 0, .bool false, .int .u8 0, .int .u8 0, .int .u8 0, .int .u8 0, .int .u8 0, .int .u8 0, .int .u8 0, .int .u8 0, .int .u8 0, .int .u8 0, .int .u8 0, .int .u8 0, .int .u8 0, .int .u8 0, .int .u8 0, .int .u8 0, .int .u8 0, .int .u8 0, .int .u8 0, .int .u8 0, .int .u8 0, .int .u8 0, .int .u8 0, .int .u8 0, .int .u8 0, .int .u8 0, .int .u8 0, .int .u8 0, .int .u8 0, .int .u8 0, .int .u8 0, .int .u8 0] := ⟨_, rfl⟩
  have hzl : Z.toArray.size = 36 := by rw [hZ]; rfl
  rw [← hZ] at r1
  clear hsz hw2 hs hZ c2
  have hsz36 := Lib.hid (show (Tryd.prog.info? 27).map (·.size) = some 36 from size_tok)
  go_wp2_with (first
    | (go_at_call 26; refine (hck.out _ hs1).mono ?_; rintro e w3 ⟨B, d, rfl, hown3, hb3⟩; replace hown3 := Lib.hid hown3; have hfz3 := (r0.later hb3 hlt0).free 2; have hcl3 : w3.cell? ⟨w.heap.size, 2, none⟩ = some (.slice A t.cavs.length c) := (by rw [(r0.later hb3 hlt0).cell]; exact hg.2.2.1); obtain ⟨V4, hV4⟩ : ∃ V4, V4 = tokV t B d := ⟨_, rfl⟩; have hl4 : V4.toArray.size = 36 := (by rw [hV4, List.size_toArray]; exact hlen.out B d); have hone4 := Lib.hid (show V4.toArray.all (·.oneCell') = true by rw [hV4]; exact hone.out B d); have R4 := Lib.hid (show (w3.setCell ⟨w.heap.size, 2, none⟩ (.slice B t.cavs.length d)).heap[w.heap.size]? = some (.cells V4.toArray 27 (0, 0)) by rw [hV4, ← hVs.out]; exact (r0.later hb3 hlt0).set 2 _); have RZ := Lib.hid (show (w3.setCell ⟨w.heap.size, 2, none⟩ (.slice B t.cavs.length d)).heap[w.heap.size + 1]? = some (.cells Z.toArray 27 (0, 0)) from (r1.later hb3 hlt1).far _ _ (by show w.heap.size + 1 ≠ w.heap.size; omega)); have hzf4 := Lib.hid (show (Tryd.prog.info? 27).map (·.size) = some V4.toArray.size by rw [hl4]; exact hsz36.out); have hzz := Lib.hid (show Z.toArray.size = V4.toArray.size by rw [hl4, hzl]); have HV4 := Lib.hid hV4; clear hV4 hl4)
    | (with_reducible refine wpList_load_row rfl 27 (.tmp 1) rfl w.heap.size rfl 27 V4.toArray (0, 0) _ R4.out Tryd.underlying27 rfl hzf4.out ?_)
    | (with_reducible refine wpList_store_row rfl 27 (.tmp 2) (.tmp 7) rfl (w.heap.size + 1) V4.toArray rfl rfl 27 Z.toArray RZ.out hzf4.out hzz.out hone4.out ?_; refine Hid.out ?_))
  refine Lib.hid ?_
  generalize hw9 : World.setRow _ _ _ = w9
  obtain ⟨r9, hg9⟩ := row_set (xs := V4) (show Row _ (w.heap.size + 1) 27 Z from RZ.out) hw9
  have R9 := Lib.hid (show w9.heap[w.heap.size + 1]? = some (.cells V4.toArray 27 (0, 0)) from r9)
  have hb4 := (hb1.trans (hb3.mono hb1.size)).grown (grown_setCell w3 w.heap.size 2 (.slice B t.cavs.length d)) (hb1.trans (hb3.mono hb1.size)).size (fun k h => by cases h; exact Nat.le_refl _)
  have hb9 := hb4.grown hg9 hb4.size (fun k h => by cases h; exact Nat.le_succ _)
  have own9 := Lib.hid (ownk_grown (ownk_grown hown3.out (grown_setCell w3 w.heap.size 2 (.slice B t.cavs.length d)) hlt0) hg9 hlt1)
  clear hw9 r9 hg9 hzz hzl hfz3 hcl3
  go_wp2_with (with_reducible refine bodyPost_ret (results_cell_row rfl _ _ (w.heap.size + 1) 27 V4.toArray (0, 0) _ rfl R9.out Tryd.underlying27 rfl hzf4.out) rfl ?_)
  exact ⟨B, d, by rw [HV4.out], own_baseP own9.out hb1.size, hb9⟩
theorem pclone_fresh (t : Tok) (ht : t.Ok) (hm : t.cavs.length ≤ 1000000) (A : Option Addr) (c : Nat) (w : World) (hs : Sl w A (c * 5) (t.cavs.flatMap cavV)) :
    Calls Tryd.prog 19 #[.agg (tokV t A c).toArray] w fun e w' => ∃ B d, e = .returned (.agg (tokV t B d).toArray) ∧ Sl w' B (d * 5) (t.cavs.flatMap cavV) ∧ (∀ a, B = some a → w.heap.size ≤ a.block) ∧ Below w.heap.size w w' :=
  (pclone_own t ht hm A c w hs).mono fun _ _ ⟨B, d, h1, h2, h3⟩ => ⟨B, d, h1, (by obtain ⟨_, _, he, _, h⟩ := Sl.of_ownk h2; cases he; exact h), ownk_fresh h2, h3⟩
end Go.Proofs.YtnkkgclmmaakgaaDoor

/- LAYER 5: package tag: bytes held against each other; 32 bytes as a tag. -/
namespace Go.Proofs.YtnkkgclmmaakgaaDoor
set_option maxRecDepth 100000
open Go Go.RowKit

/-! ### Numbers of 64 bits that are none below 0 -/
theorem ofInt64 (a : Nat) : BitVec.ofInt 64 (a : Int) = BitVec.ofNat 64 a := by simp
theorem nat_xor (a b : Nat) (ha : a < 9223372036854775808) (hb : b < 9223372036854775808) : bits .xor .i64 (a : Int) (b : Int) = ((a ^^^ b : Nat) : Int) := by
  show IntKind.i64.wrap ((BitVec.ofInt 64 (a : Int) ^^^ BitVec.ofInt 64 (b : Int)).toNat : Int) = _
  have h : a ^^^ b < 2 ^ 63 := Nat.xor_lt_two_pow (by omega) (by omega)
  rw [ofInt64, ofInt64, BitVec.toNat_xor, BitVec.toNat_ofNat, BitVec.toNat_ofNat, Nat.mod_eq_of_lt (by omega), Nat.mod_eq_of_lt (by omega), IntKind.wrap_i64]
  omega
theorem nat_or (a b : Nat) (ha : a < 9223372036854775808) (hb : b < 9223372036854775808) : bits .or .i64 (a : Int) (b : Int) = ((a ||| b : Nat) : Int) := by
  show IntKind.i64.wrap ((BitVec.ofInt 64 (a : Int) ||| BitVec.ofInt 64 (b : Int)).toNat : Int) = _
  have h : a ||| b < 2 ^ 63 := Nat.or_lt_two_pow (by omega) (by omega)
  rw [ofInt64, ofInt64, BitVec.toNat_or, BitVec.toNat_ofNat, BitVec.toNat_ofNat, Nat.mod_eq_of_lt (by omega), Nat.mod_eq_of_lt (by omega), IntKind.wrap_i64]
  omega

/-! ### Bytes held against each other -/
/-- What has been found unlike behind j bytes. -/
def unlikeL (l k : List UInt8) : Nat → Nat
  | 0 => l.length ^^^ k.length
  | j + 1 => unlikeL l k j ||| (l.getD j 0 ^^^ k.getD j 0).toNat
theorem unlike_lt (l k : List UInt8) (hl : l.length < 9223372036854775808) (hk : k.length < 9223372036854775808) (j : Nat) : unlikeL l k j < 9223372036854775808 := by
  induction j with
  | zero =>
    show l.length ^^^ k.length < 2 ^ 63
    exact Nat.xor_lt_two_pow (by omega) (by omega)
  | succ j ih =>
    have := (l.getD j 0 ^^^ k.getD j 0).toNat_lt
    show unlikeL l k j ||| (l.getD j 0 ^^^ k.getD j 0).toNat < 2 ^ 63
    exact Nat.or_lt_two_pow (by omega) (by omega)
theorem or_zero (a b : Nat) : a ||| b = 0 ↔ a = 0 ∧ b = 0 := by
  constructor
  · intro h
    have h1 : a ≤ a ||| b := Nat.left_le_or
    have h2 : b ≤ a ||| b := Nat.right_le_or
    omega
  · rintro ⟨rfl, rfl⟩; rfl
theorem xor_zero (a b : Nat) : a ^^^ b = 0 ↔ a = b := by
  constructor
  · intro h
    apply Nat.eq_of_testBit_eq
    intro i
    have := congrArg (fun n => n.testBit i) h
    simpa using this
  · rintro rfl; exact Nat.xor_self _
theorem xor_zero8 (a b : UInt8) : (a ^^^ b).toNat = 0 ↔ a = b := by
  rw [← UInt8.xor_eq_zero_iff, ← UInt8.toNat_inj]; rfl
theorem unlike_zero (l k : List UInt8) (j : Nat) : unlikeL l k j = 0 ↔ l.length = k.length ∧ ∀ i, i < j → l.getD i 0 = k.getD i 0 := by
  induction j with
  | zero =>
    show l.length ^^^ k.length = 0 ↔ _
    rw [xor_zero]
    exact ⟨fun h => ⟨h, fun i hi => absurd hi (Nat.not_lt_zero _)⟩, fun h => h.1⟩
  | succ j ih =>
    show unlikeL l k j ||| (l.getD j 0 ^^^ k.getD j 0).toNat = 0 ↔ _
    rw [or_zero, ih, xor_zero8]
    constructor
    · rintro ⟨⟨h1, h2⟩, h3⟩
      refine ⟨h1, fun i hi => ?_⟩
      by_cases e : i = j
      · rw [e]; exact h3
      · exact h2 i (by omega)
    · rintro ⟨h1, h2⟩
      exact ⟨⟨h1, fun i hi => h2 i (by omega)⟩, h2 j (by omega)⟩
theorem unlike_end (l k : List UInt8) (j : Nat) (hl : l.length ≤ j) : decide (unlikeL l k j = 0) = decide (l = k) := by
  rw [decide_eq_decide, unlike_zero]
  constructor
  · rintro ⟨h1, h2⟩
    apply List.ext_getElem h1
    intro i h3 h4
    have := h2 i (by omega)
    simpa [h3, h4] using this
  · rintro rfl
    exact ⟨rfl, fun _ _ => rfl⟩
theorem tat_any (A : Option Addr) (n c : Nat) (l : List UInt8) (i : Nat) (w : World) (hs : Sl w A c (byts l)) (hn : n = l.length) :
    Calls Tryd.prog 32 #[.slice A n c, .int .i64 i] w fun e w' => e = .returned (.int .u8 ((l.getD i 0).toNat : Int)) ∧ w = w' := by
  subst hn
  by_cases hlt : i < l.length
  · obtain ⟨b, o, rfl, _, hc⟩ := hs.rd.get (i := i) (by rw [length_byts]; exact hlt)
    rw [get_byts l i hlt] at hc
    generalize ((l.getD i 0).toNat : Int) = y at *
    clear hs
    go_enter Tryd.func32, Tryd.ntmps32
    go_wp2
    go_ret
    exact ⟨rfl, rfl⟩
  · have e0 : ((l.getD i 0).toNat : Int) = 0 := by simp [show l.length ≤ i by omega]
    rw [e0]
    clear e0 hs
    go_enter Tryd.func32, Tryd.ntmps32
    go_wp2
    go_ret
    exact ⟨rfl, rfl⟩
theorem equal_any (A : Option Addr) (n c : Nat) (l : List UInt8) (B : Option Addr) (m d : Nat) (k : List UInt8) (w : World) (hs : Sl w A c (byts l)) (hn : n = l.length) (hp : Sl w B d (byts k)) (hm : m = k.length)
    (hl : l.length < 9223372036854775808) (hk : k.length < 9223372036854775808) :
    Calls Tryd.prog 22 #[.slice A n c, .slice B m d] w fun e w' => e = .returned (.bool (decide (l = k))) ∧ w = w' := by
  have hx := nat_xor n m (by omega) (by omega)
  have h0 := Lib.hid (show (n ^^^ m : Nat) = unlikeL l k 0 by rw [hn, hm]; rfl)
  have HN := Lib.hid hn
  have HM := Lib.hid hm
  have hnb : n < 9223372036854775808 := by omega
  have hmb : m < 9223372036854775808 := by omega
  clear hn hm
  go_enter Tryd.func22, Tryd.ntmps22
  go_wp2_with fail
  · go_loop [5, 6, 17] (fun u _ i => ∃ j : Nat, j ≤ m ∧ i = .int .i64 j ∧ u = .int .i64 (unlikeL l k j : Nat)) (fun _ _ i => m - (intOf i).toNat)
    case atStart => exact ⟨0, by omega, rfl, by rw [← h0.out]⟩
    case round =>
      obtain ⟨j, hj, rfl, rfl⟩ := hrel
      have hu := unlike_lt l k hl hk j
      have hz : ((unlikeL l k j : Nat) : Int) = 0 ↔ unlikeL l k j = 0 := by omega
      have hend := Lib.hid (unlike_end l k j)
      have hstep := Lib.hid (show unlikeL l k (j + 1) = unlikeL l k j ||| (l.getD j 0 ^^^ k.getD j 0).toNat from rfl)
      generalize unlikeL l k j = U at *
      by_cases hlt : j < m
      · have hb := (l.getD j 0 ^^^ k.getD j 0).toNat_lt
        have hbx := byte_xor (l.getD j 0) (k.getD j 0)
        have hor := nat_or U (l.getD j 0 ^^^ k.getD j 0).toNat hu (by omega)
        have hcv : wrap64 ((l.getD j 0 ^^^ k.getD j 0).toNat : Int) = ((l.getD j 0 ^^^ k.getD j 0).toNat : Int) := IntWalk.wrap64_in _ (by omega)
        generalize (l.getD j 0 ^^^ k.getD j 0).toNat = x at *
        have tok1 : True := trivial
        go_wp2_with (first
          | (go_at_call 32; have _t := tok1; refine (tat_any A n c l j w hs HN.out).mono ?_; rintro e w1 ⟨rfl, rfl⟩; clear tok1)
          | (go_at_call 32; refine (tat_any B m d k j w hp HM.out).mono ?_; rintro e w1 ⟨rfl, rfl⟩))
        rw [List.getD_eq_getElem?_getD, List.getD_eq_getElem?_getD] at hbx
        rw [hbx, hcv, hor, ← hstep.out]
        go_round
        case rel => exact ⟨j + 1, by omega, by go_num, rfl⟩
        case measure => simp [intOf]; omega
      · obtain rfl : j = m := by omega
        have hE := hend.out (by rw [← HN.out]; omega)
        have HE := Lib.hid hE
        clear hE hend
        by_cases hU : U = 0
        · subst hU
          go_wp2
          go_ret
          exact ⟨by rw [← HE.out]; rfl, rfl⟩
        · have hU' : ((U : Int) == 0) = false := by rw [beq_eq_false_iff_ne]; omega
          go_wp2
          go_ret
          exact ⟨by rw [← HE.out, decide_eq_false hU]; rfl, rfl⟩
  · go_loop [5, 6, 17] (fun u _ i => ∃ j : Nat, j ≤ n ∧ i = .int .i64 j ∧ u = .int .i64 (unlikeL l k j : Nat)) (fun _ _ i => n - (intOf i).toNat)
    case atStart => exact ⟨0, by omega, rfl, by rw [← h0.out]⟩
    case round =>
      obtain ⟨j, hj, rfl, rfl⟩ := hrel
      have hu := unlike_lt l k hl hk j
      have hz : ((unlikeL l k j : Nat) : Int) = 0 ↔ unlikeL l k j = 0 := by omega
      have hend := Lib.hid (unlike_end l k j)
      have hstep := Lib.hid (show unlikeL l k (j + 1) = unlikeL l k j ||| (l.getD j 0 ^^^ k.getD j 0).toNat from rfl)
      generalize unlikeL l k j = U at *
      by_cases hlt : j < n
      · have hb := (l.getD j 0 ^^^ k.getD j 0).toNat_lt
        have hbx := byte_xor (l.getD j 0) (k.getD j 0)
        have hor := nat_or U (l.getD j 0 ^^^ k.getD j 0).toNat hu (by omega)
        have hcv : wrap64 ((l.getD j 0 ^^^ k.getD j 0).toNat : Int) = ((l.getD j 0 ^^^ k.getD j 0).toNat : Int) := IntWalk.wrap64_in _ (by omega)
        generalize (l.getD j 0 ^^^ k.getD j 0).toNat = x at *
        have tok1 : True := trivial
        go_wp2_with (first
          | (go_at_call 32; have _t := tok1; refine (tat_any A n c l j w hs HN.out).mono ?_; rintro e w1 ⟨rfl, rfl⟩; clear tok1)
          | (go_at_call 32; refine (tat_any B m d k j w hp HM.out).mono ?_; rintro e w1 ⟨rfl, rfl⟩))
        rw [List.getD_eq_getElem?_getD, List.getD_eq_getElem?_getD] at hbx
        rw [hbx, hcv, hor, ← hstep.out]
        go_round
        case rel => exact ⟨j + 1, by omega, by go_num, rfl⟩
        case measure => simp [intOf]; omega
      · obtain rfl : j = n := by omega
        have hE := hend.out (by rw [← HN.out]; omega)
        have HE := Lib.hid hE
        clear hE hend
        by_cases hU : U = 0
        · subst hU
          go_wp2
          go_ret
          exact ⟨by rw [← HE.out]; rfl, rfl⟩
        · have hU' : ((U : Int) == 0) = false := by rw [beq_eq_false_iff_ne]; omega
          go_wp2
          go_ret
          exact ⟨by rw [← HE.out, decide_eq_false hU]; rfl, rfl⟩

/-! ### 32 bytes as a tag -/
def zeroT : List UInt8 := List.replicate 32 0
theorem zero_cells : (List.replicate 32 (Value.int .u8 0)) = byts zeroT := by kernel_rfl
end Go.Proofs.YtnkkgclmmaakgaaDoor

/- LAYER 11: package bundle: unfit, Check. -/
namespace Go.Proofs.YtnkkgclmmaakgaaDoor
set_option maxRecDepth 100000
open Go Go.RowKit

set_option maxRecDepth 100000 in
set_option maxHeartbeats 2000000 in
theorem punfit_any (t : Tok) (ht : t.Ok) (hf : t.Fit) (A : Option Addr) (c : Nat) (w : World) (hs : Sl w A (c * 5) (t.cavs.flatMap cavV)) :
    Calls Tryd.prog 35 #[.agg (tokV t A c).toArray] w fun e w' => e = .returned (.bool (!fitD t)) ∧ Below w.heap.size w w' := by
  have hb1 : Below w.heap.size w (w.alloc (.cells (tokV t A c).toArray 27)) := (Below.refl _ _).alloc (Nat.le_refl _) _
  have hr : Row (w.alloc (.cells (tokV t A c).toArray 27)) w.heap.size 27 (tokV t A c) := Row.new w 27 _
  have hk := (tokV_get t A c).1
  have hl := length_tokV ht A c
  have hck := Lib.hid (fun w' h => pcheck_any t ht hf A c w' h)
  obtain ⟨V, hV⟩ : ∃ V, V = tokV t A c := ⟨_, rfl⟩
  rw [← hV] at hb1 hr hk hl hck ⊢
  clear hV
  have hzV := Lib.hid (show (Tryd.prog.info? 27).map (·.size) = some V.toArray.size by rw [size_tok, List.size_toArray, hl])
  have R0 := Lib.hid (show (w.alloc (.cells V.toArray 27)).heap[w.heap.size]? = some (.cells V.toArray 27 (0, 0)) from hr)
  have c0 : (w.alloc (.cells V.toArray 27)).cell? ⟨w.heap.size, 0, none⟩ = some (.int .u64 t.key) := by rw [hr.cell]; exact hk
  have hs1 := hs.later (Nat.le_refl _) hb1
  obtain ⟨R, hR⟩ : ∃ R, R = (!fitD t) := ⟨_, rfl⟩
  rw [← hR]
  have HR := Lib.hid (show R = !(checkT t && decide (t.key = 0)) from hR)
  clear hs hr hk hl hR
  by_cases hz : t.key = 0
  · have hz' : (t.key : Int) = 0 := by omega
    cases hc : checkT t with
    | true =>
      have HE := Lib.hid (show R = false by rw [HR.out, hc, decide_eq_true hz]; rfl)
      rw [show errT t = 0 from if_pos hc] at hck
      clear hz hc HR
      go_enter Tryd.func35, Tryd.ntmps35
      go_wp2_with (first
        | (refine wpList_step fun K hK => ?_; refine step_load_mid (some 7) rfl (by rfl) 27 (.tmp 1) rfl w.heap.size 0 rfl V _ (row_range (show Row _ w.heap.size 27 V from R0.out)) Tryd.underlying27 rfl (Eq.trans hzV.out (by rw [List.size_toArray])) ?_; refine hK _ _ ?_; clear hK)
        | (go_at_call 33; refine (hck.out _ hs1).mono ?_; rintro e w6 ⟨rfl, hb6⟩; have hbw6 := hb1.trans (hb6.mono hb1.size)))
      go_ret
      exact ⟨by rw [HE.out]; rfl, hbw6⟩
    | false =>
      have HE := Lib.hid (show R = true by rw [HR.out, hc]; rfl)
      rw [show errT t = 1 by unfold errT; rw [hc]; rfl] at hck
      clear hz hc HR
      go_enter Tryd.func35, Tryd.ntmps35
      go_wp2_with (first
        | (refine wpList_step fun K hK => ?_; refine step_load_mid (some 7) rfl (by rfl) 27 (.tmp 1) rfl w.heap.size 0 rfl V _ (row_range (show Row _ w.heap.size 27 V from R0.out)) Tryd.underlying27 rfl (Eq.trans hzV.out (by rw [List.size_toArray])) ?_; refine hK _ _ ?_; clear hK)
        | (go_at_call 33; refine (hck.out _ hs1).mono ?_; rintro e w6 ⟨rfl, hb6⟩; have hbw6 := hb1.trans (hb6.mono hb1.size)))
      go_ret
      exact ⟨by rw [HE.out]; rfl, hbw6⟩
  · have hz' : ((t.key : Int) != 0) = true := by rw [bne_iff_ne]; omega
    have HE := Lib.hid (show R = true by rw [HR.out, decide_eq_false hz, Bool.and_false]; rfl)
    clear hz HR
    go_enter Tryd.func35, Tryd.ntmps35
    go_wp2
    go_ret
    exact ⟨by rw [HE.out]; rfl, hb1⟩
set_option maxRecDepth 100000 in
set_option maxHeartbeats 2000000 in
theorem bindex_any (ds : List Dis) (hok : ∀ d ∈ toks ds, d.Ok) (hfit : ∀ d ∈ toks ds, d.Fit) (B : Option Addr) (d : Nat) (w : World) (hp : Bs w B d ds) (hm : ds.length ≤ 1000000) :
    Calls Tryd.prog 48 #[.slice B ds.length d, .func (.func 35) #[] #[]] w fun e w' => ∃ r : Int, e = .returned (.int .i64 r) ∧ (r = -1 ∧ (toks ds).all fitD = true ∨ 0 ≤ r ∧ (toks ds).all fitD = false) ∧ Below w.heap.size w w' := by
  have h2' : (ds.length : Int) ≤ 1000000 := by omega
  have hlen : (toks ds).length = ds.length := toks_len ds
  go_enter Tryd.func48, Tryd.ntmps48
  go_wp2_with fail
  go_loopw [8] (fun i wr => ∃ k : Nat, k ≤ ds.length ∧ i = .int .i64 k ∧ ((toks ds).take k).all fitD = true ∧ Below w.heap.size w wr) (fun i _ => ds.length - (intOf i).toNat)
  case atStart => exact ⟨0, by omega, rfl, rfl, Below.refl _ _⟩
  case round =>
    obtain ⟨k, hk, rfl, hall, hb⟩ := hrel
    by_cases hlt : k < ds.length
    · obtain ⟨dd, hdd⟩ : ∃ dd, ds[k]? = some dd := ⟨_, List.getElem?_eq_getElem hlt⟩
      obtain ⟨b, o, rfl⟩ := hp.nonil hok hlt
      have hix := index_tok (some ⟨b, o, none⟩) b o ds.length d k rfl hlt
      have hme : dd.1 ∈ toks ds := List.mem_of_getElem? (toks_get hdd)
      have HA := Lib.hid (all_take_of (f := fitD) hall (toks_get hdd))
      have HB := Lib.hid (all_bad_of (f := fitD) (toks_get hdd))
      have hcan := Lib.hid (fun w' h => punfit_any dd.1 (hok _ hme) (hfit _ hme) dd.2.1 dd.2.2 w' h)
      have hlV := length_disV (hok dd.1 (List.mem_of_getElem? (toks_get hdd)))
      have hrg := (hp.sl.later (Nat.le_refl _) hb).thing (k := 36) (dis_ok hok) k dd hdd
      have hsd := (hp.each dd (List.mem_of_getElem? hdd)).later (Nat.le_refl _) hb
      have hofn : ∀ v ∈ disV dd, v.oneCell' = true := fun v hv => disV_one [dd] v (by simpa using hv)
      obtain ⟨V2, hV2q⟩ : ∃ V, V = disV dd := ⟨_, rfl⟩
      rw [← hV2q] at hlV hrg hofn
      have hzf := Lib.hid (show (Tryd.prog.info? 27).map (·.size) = some V2.length by rw [size_tok, hlV])
      have hzf2 := Lib.hid (show (Tryd.prog.info? 27).map (·.size) = some V2.toArray.size by rw [size_tok, List.size_toArray, hlV])
      have hof := Lib.hid (all_one hofn)
      have hV2 := Lib.hid (show (36 : Nat) = V2.toArray.size by rw [List.size_toArray, hlV])
      rw [show tokV dd.1 dd.2.1 dd.2.2 = V2 from hV2q.symm] at hcan
      clear hV2q hdd hall hlV hofn hp hme hok hfit hlen
      generalize fitD dd.1 = r at *
      go_wp2_with (first
        | (with_reducible refine wpList_load_mid rfl 27 (.tmp 14) rfl b (o + k * 36) rfl V2 _ hrg Tryd.underlying27 rfl hzf.out ?_)
        | (go_at_call 35; refine (hcan.out _ hsd).mono ?_; rintro e w6 ⟨rfl, hb6⟩; have hbw6 := hb.trans (hb6.mono hb.size); cases r))
      · go_ret
        exact ⟨k, rfl, .inr ⟨by omega, HB.out (by first | rfl | trivial)⟩, hbw6⟩
      · go_roundw
        case rel => exact ⟨k + 1, by omega, by go_num, HA.out (by first | rfl | trivial), hbw6⟩
        case measure => simp [intOf]; omega
    · obtain rfl : k = ds.length := by omega
      rw [← hlen, List.take_length] at hall
      clear hlt hk hp hok hfit hlen
      generalize ds.length = n at *
      go_wp2
      go_ret
      exact ⟨-1, rfl, .inl ⟨rfl, hall⟩, hb⟩
theorem bhas_any (ds : List Dis) (hok : ∀ d ∈ toks ds, d.Ok) (hfit : ∀ d ∈ toks ds, d.Fit) (B : Option Addr) (d : Nat) (w : World) (hp : Bs w B d ds) (hm : ds.length ≤ 1000000) :
    Calls Tryd.prog 34 #[.slice B ds.length d, .func (.func 35) #[] #[]] w fun e w' => e = .returned (.bool (!(toks ds).all fitD)) ∧ Below w.heap.size w w' := by
  have hi := Lib.hid (bindex_any ds hok hfit B d w hp hm)
  generalize (toks ds).all fitD = r at *
  generalize ds.length = n at *
  clear hp hok hfit
  go_enter Tryd.func34, Tryd.ntmps34
  go_wp2_with (go_at_call 48; refine hi.out.mono ?_; rintro e w6 ⟨x, rfl, hx, hb6⟩)
  · rcases hx with ⟨rfl, rfl⟩ | ⟨h1, rfl⟩
    all_goals go_wp2
    all_goals go_ret
    all_goals first | exact ⟨rfl, hb6⟩ | (exfalso; omega) | trace_state
def chkB (b : Bun) : Int := if checkB b then 0 else 1
set_option maxRecDepth 100000 in
set_option maxHeartbeats 2000000 in
theorem bcheck_any (t : Tok) (ds : List Dis) (ht : t.Ok) (hok : ∀ d ∈ toks ds, d.Ok) (A : Option Addr) (c : Nat) (B : Option Addr) (d : Nat) (w : World) (hs : Sl w A (c * 5) (t.cavs.flatMap cavV)) (hp : Bs w B d ds) (hf : t.Fit) (hfit : ∀ d ∈ toks ds, d.Fit) :
    Calls Tryd.prog 23 #[.agg (bunV t A c B ds.length d).toArray] w fun e w' => e = .returned (.int .i64 (chkB (bunOf t ds))) ∧ Below w.heap.size w w' := by
  have hb1 : Below w.heap.size w (w.alloc (.cells (bunV t A c B ds.length d).toArray 40)) := (Below.refl _ _).alloc (Nat.le_refl _) _
  have hr : Row (w.alloc (.cells (bunV t A c B ds.length d).toArray 40)) w.heap.size 40 (bunV t A c B ds.length d) := Row.new w 40 _
  have hlt := hr.lt
  have hT := fun w' (h : Below _ _ w') => row_bun_tok (hr.later h hlt)
  have hD := fun w' (h : Below _ _ w') => row_bun_dis ht (hr.later h hlt)
  have hBd := fun w' (h : Below _ _ w') => row_bun_bound (hr.later h hlt)
  have hlB := length_bunV ht A c B ds.length d
  have hlen : (toks ds).length = ds.length := toks_len ds
  obtain ⟨V, hV⟩ : ∃ V, V = bunV t A c B ds.length d := ⟨_, rfl⟩
  obtain ⟨VT, hVT⟩ : ∃ V, V = tokV t A c := ⟨_, rfl⟩
  have hlT : VT.length = 36 := by rw [hVT]; exact length_tokV ht A c
  have hzT := Lib.hid (show (Tryd.prog.info? 27).map (·.size) = some VT.length by rw [size_tok, hlT])
  have hck := Lib.hid (show ∀ w', Sl w' A (c * 5) (t.cavs.flatMap cavV) → Calls Tryd.prog 33 #[.agg VT.toArray] w' fun e w'' => e = .returned (.int .i64 (errT t)) ∧ Below w'.heap.size w' w'' by rw [hVT]; exact fun w' h => pcheck_any t ht hf A c w' h)
  obtain ⟨R, hR0⟩ : ∃ R, R = chkB (bunOf t ds) := ⟨_, rfl⟩
  rw [← hR0]
  have HR := Lib.hid (show R = if (checkT t && !t.bound && decide (ds.length ≤ 16) && (toks ds).all fitD) = true then 0 else 1 by rw [hR0]; unfold chkB checkB; dsimp only; rw [hlen])
  clear hR0
  rw [← hVT] at hT
  rw [← hV] at hb1 hr hlt hT hD hBd hlB ⊢
  clear hV hVT hlT
  have hzB := Lib.hid (show (Tryd.prog.info? 40).map (·.size) = some V.toArray.size by rw [size_bun, List.size_toArray, hlB])
  have hR := Lib.hid (show (w.alloc (.cells V.toArray 40)).heap[w.heap.size]? = some (.cells V.toArray 40 (0, 0)) from hr)
  have hs1 := hs.later (Nat.le_refl _) hb1
  have hT1 := hT _ (Below.refl _ _)
  have hd1 := hD _ (Below.refl _ _)
  have hbd1 := hBd _ (Below.refl _ _)
  have hp1 := hp.later (Nat.le_refl _) hb1
  clear hs hr hlt hT hlB hzB hR
  by_cases h3 : 16 < ds.length
  · have HE := Lib.hid (HR.out.trans (if_neg (by rw [show decide (ds.length ≤ 16) = false from decide_eq_false (by omega)]; simp)))
    have h3' : (16 : Int) < (ds.length : Int) := by omega
    clear h3 HR hp hlen
    go_enter Tryd.func23, Tryd.ntmps23
    go_wp2
    go_ret
    exact ⟨by rw [HE.out]; rfl, hb1⟩
  · have h3' : decide ((16 : Int) < (ds.length : Int)) = false := decide_eq_false (by omega)
    cases h2 : t.bound with
    | true =>
      have HE := Lib.hid (HR.out.trans (if_neg (by rw [h2]; simp)))
      rw [h2] at hBd hbd1
      clear h2 HR hp hlen
      go_enter Tryd.func23, Tryd.ntmps23
      go_wp2
      go_ret
      exact ⟨by rw [HE.out]; rfl, hb1⟩
    | false =>
      rw [h2] at hBd hbd1
      cases h1 : checkT t with
      | false =>
        have HE := Lib.hid (HR.out.trans (if_neg (by rw [h1]; simp)))
        rw [show errT t = 1 by unfold errT; rw [h1]; rfl] at hck
        clear h1 h2 HR hp hlen h3
        go_enter Tryd.func23, Tryd.ntmps23
        go_wp2_with (first
          | (refine wpList_step fun K hK => ?_; refine step_load_mid (some 14) rfl (by rfl) 27 (.tmp 13) rfl w.heap.size 0 rfl VT _ hT1 Tryd.underlying27 rfl hzT.out ?_; refine hK _ _ ?_; clear hK)
          | (go_at_call 33; refine (hck.out _ hs1).mono ?_; rintro e w6 ⟨rfl, hb6⟩; have hbw6 := hb1.trans (hb6.mono hb1.size); have hd6 := hD _ hb6; have hp6 := hp1.later (Nat.le_refl _) hb6))
        go_ret
        exact ⟨by rw [HE.out]; rfl, hbw6⟩
      | true =>
        have HE := Lib.hid (show R = if (toks ds).all fitD = true then 0 else 1 by rw [HR.out, h1, h2, show decide (ds.length ≤ 16) = true from decide_eq_true (by omega)]; rfl)
        rw [show errT t = 0 from if_pos h1] at hck
        have hhas := Lib.hid (fun w' h => bhas_any ds hok hfit B d w' h (by omega))
        clear h1 h2 HR hp hlen h3 hok hfit
        generalize (toks ds).all fitD = r at *
        go_enter Tryd.func23, Tryd.ntmps23
        go_wp2_with (first
          | (refine wpList_step fun K hK => ?_; refine step_load_mid (some 14) rfl (by rfl) 27 (.tmp 13) rfl w.heap.size 0 rfl VT _ hT1 Tryd.underlying27 rfl hzT.out ?_; refine hK _ _ ?_; clear hK)
          | (go_at_call 33; refine (hck.out _ hs1).mono ?_; rintro e w6 ⟨rfl, hb6⟩; have hbw6 := hb1.trans (hb6.mono hb1.size); have hd6 := hD _ hb6; have hp6 := hp1.later (Nat.le_refl _) hb6)
          | (go_at_call 34; refine (hhas.out _ hp6).mono ?_; rintro e w7 ⟨rfl, hb7⟩; have hbw7 := hbw6.trans (hb7.mono hbw6.size); cases r))
        all_goals go_ret
        all_goals exact ⟨by rw [HE.out]; rfl, hbw7⟩
end Go.Proofs.YtnkkgclmmaakgaaDoor

/- 'append' of one thing onto a slice of the call's own, and where what comes of it lies. -/
namespace Go.Proofs.YtnkkgclmmaakgaaDoor
set_option maxRecDepth 100000
open Go Go.RowKit

theorem run_append_one {P : Program} (w : World) (base : Nat) (t ty e : TypeId) (i : TypeInfo) (z : Value) (k bytes : Nat) (ht : P.underlying t = some (.slice e)) (hi : P.info? e = some i) (hz : i.zero = some z)
    (hsize : i.size = k) (hk : 0 < k) (hby : i.bytes = bytes) (hzs : z.cells.size = k) (v : Value) (n : Nat) (xs : List Value) (hown : w.ownsRow base e k v n xs)
    (ad : Addr) (c : Nat) (news : List Value) (hm : news.length = k) (hsl : Sl w (some ad) (c * k) news) (h1 : ∀ u ∈ news, u.oneCell' = true)
    (h63 : n + 1 ≤ maxLen) (hbytes : (n + 1) * bytes ≤ 140737488355328) (hbase : base ≤ w.heap.size) :
    ∃ v' w', (Builtin.append_ #[t, t] ty #[v, .slice (some ad) 1 c]).run P w = .ok v' w' ∧ w'.ownsRow base e k v' (n + 1) (xs ++ news) ∧ w.grownBy w' v.ownBlock ∧ (∀ g', v'.ownBlock = some g' → v.ownBlock = some g' ∨ w.heap.size ≤ g') := by
  obtain ⟨v', w', hrun, h2, h3, _⟩ := run_append_own (P := P) w base t ty e i z k bytes ht hi hz hsize hby hzs hk v n xs hown ad 1 c news (by omega) hsl.rd.at_add h1 h63 hbytes hbase
  refine ⟨v', w', hrun, h2, h3, ?_⟩
  subst hsize hby
  rcases hown.2 with ⟨rfl, rfl⟩ | ⟨g, cap, cur, rfl, hbg, hg, hnc, hcm, hcs, htake⟩
  · have hr := run_append_nil (P := P) w t ty e i z ht hi hz ad 1 c news (by omega) hsl.rd.at_add (by omega) (by omega) (by omega)
    rw [hr] at hrun
    injection hrun with hv _
    subst hv
    intro g' hg'
    cases hg'
    exact .inr (Nat.le_refl _)
  · by_cases hroom : n + 1 ≤ cap
    · have hfit : n * i.size + news.length ≤ cur.size := by
        have h4 : (n + 1) * i.size ≤ cap * i.size := Nat.mul_le_mul_right _ hroom
        rw [hcs, hm]
        rw [Nat.succ_mul] at h4; omega
      have hr := run_append_room (P := P) w t ty e i ht hi g n cap cur hg ad 1 c news (by omega) hsl.rd.at_add h1 hroom hfit
      rw [hr] at hrun
      injection hrun with hv _
      subst hv
      exact fun g' hg' => .inl hg'
    · have holds : ∀ j u, xs[j]? = some u → w.cell? ((⟨g, 0, none⟩ : Addr).add j) = some u := hown.cells (g := g) rfl
      have hsmall : n + 1 ≤ 9223372036854775807 := by simp only [maxLen] at h63; omega
      have hr := run_append_grow (P := P) w t ty e i z ht hi hz ⟨g, 0, none⟩ n cap xs hown.1 holds ad 1 c news (by omega) hsl.rd.at_add (by omega) (by omega) (growslice_fits (by omega) hbytes)
      rw [hr] at hrun
      injection hrun with hv _
      subst hv
      intro g' hg'
      cases hg'
      exact .inr (Nat.le_refl _)
theorem wpList_append_one {P : Program} {w : World} {ops : Array Oper} {rest : List Oper} {o : Oper} {a : Act} {Q : Exit → Act → World → Prop} (hgd : o.guard = none) (s x : Operand) (t : TypeId)
    (ho : o.op = .call { callee := .builtin .append, args := #[s, x], argTypes := #[t, t] })
    (base : Nat) (e : TypeId) (i : TypeInfo) (z : Value) (k bytes : Nat) (ht : P.underlying t = some (.slice e)) (hi : P.info? e = some i) (hz : i.zero = some z)
    (hsize : i.size = k) (hk : 0 < k) (hby : i.bytes = bytes) (hzs : z.cells.size = k) (v : Value) (n : Nat) (xs : List Value) (hs : a.eval s = v) (hown : w.ownsRow base e k v n xs)
    (ad : Addr) (c : Nat) (news : List Value) (hx : a.eval x = .slice (some ad) 1 c) (hm : news.length = k) (hsl : Sl w (some ad) (c * k) news) (h1 : ∀ u ∈ news, u.oneCell' = true)
    (h63 : n + 1 ≤ maxLen) (hbytes : (n + 1) * bytes ≤ 140737488355328) (hbase : base ≤ w.heap.size)
    (h : ∀ v' w', w'.ownsRow base e k v' (n + 1) (xs ++ news) → w.grownBy w' v.ownBlock → (∀ g', v'.ownBlock = some g' → v.ownBlock = some g' ∨ w.heap.size ≤ g') → wpList P ops Q rest (a.put o.dst v') w') : wpList P ops Q (o :: rest) a w := by
  refine wpList_plain hgd fun _ hK => ?_
  obtain ⟨v', w', hrun, h2, h3, h4⟩ := run_append_one (P := P) w base t o.type e i z k bytes ht hi hz hsize hk hby hzs v n xs hown ad c news hm hsl h1 h63 hbytes hbase
  unfold Oper.wp execOp
  simp only [ho, resolve, invoke, builtin, Sem.run_bind, Sem.run_pure, Result.andThen_ok, List.map_toArray, List.map_cons, List.map_nil, hs, hx, hrun]
  exact hK _ _ (h v' w' h2 h3 h4)
theorem step_append_one {P : Program} {w : World} {ops : Array Oper} {o : Oper} {a : Act} {K : Act → World → Prop} {Q : Exit → Act → World → Prop} {E : Prop} (dst : Option Tmp) (hdst : o.dst = dst) (hgd : Region.wanted o (yielded ops a.tmps) = true) (s x : Operand) (t : TypeId)
    (ho : o.op = .call { callee := .builtin .append, args := #[s, x], argTypes := #[t, t] })
    (base : Nat) (e : TypeId) (i : TypeInfo) (z : Value) (k bytes : Nat) (ht : P.underlying t = some (.slice e)) (hi : P.info? e = some i) (hz : i.zero = some z)
    (hsize : i.size = k) (hk : 0 < k) (hby : i.bytes = bytes) (hzs : z.cells.size = k) (v : Value) (n : Nat) (xs : List Value) (hs : a.eval s = v) (hown : w.ownsRow base e k v n xs)
    (ad : Addr) (c : Nat) (news : List Value) (hx : a.eval x = .slice (some ad) 1 c) (hm : news.length = k) (hsl : Sl w (some ad) (c * k) news) (h1 : ∀ u ∈ news, u.oneCell' = true)
    (h63 : n + 1 ≤ maxLen) (hbytes : (n + 1) * bytes ≤ 140737488355328) (hbase : base ≤ w.heap.size)
    (h : ∀ v' w', w'.ownsRow base e k v' (n + 1) (xs ++ news) → w.grownBy w' v.ownBlock → (∀ g', v'.ownBlock = some g' → v.ownBlock = some g' ∨ w.heap.size ≤ g') → K (a.put dst v') w') :
    if Region.wanted o (yielded ops a.tmps) = true then Oper.wp P o a w K Q else E := by
  subst hdst
  rw [if_pos hgd]
  obtain ⟨v', w', hrun, h2, h3, h4⟩ := run_append_one (P := P) w base t o.type e i z k bytes ht hi hz hsize hk hby hzs v n xs hown ad c news hm hsl h1 h63 hbytes hbase
  unfold Oper.wp execOp
  simp only [ho, resolve, invoke, builtin, Sem.run_bind, Sem.run_pure, Result.andThen_ok, List.map_toArray, List.map_cons, List.map_nil, hs, hx, hrun]
  exact h v' w' h2 h3 h4
end Go.Proofs.YtnkkgclmmaakgaaDoor

/- LAYER 11: 'append' of one thing onto a slice of the call's own, and where what comes of it lies; a bundle that is being built in memory. -/
namespace Go.Proofs.YtnkkgclmmaakgaaDoor
set_option maxRecDepth 100000
open Go Go.RowKit

/-- A token's caveats lie at lo or above, apart from block g, and from the slice B's own. -/
def Apart (lo g : Nat) (B : Option Addr) (e : Dis) : Prop := 0 < e.1.cavs.length → ∀ a, e.2.1 = some a → lo ≤ a.block ∧ a.block ≠ g ∧ ∀ p, B = some p → p.block ≠ a.block
def Low (lo : Nat) (e : Dis) : Prop := 0 < e.1.cavs.length → ∀ a, e.2.1 = some a → lo ≤ a.block
def Cvs (w : World) (e : Dis) : Prop := Sl w e.2.1 (e.2.2 * 5) (e.1.cavs.flatMap cavV)
/-- The value is a bundle that lies in w, at lo or above. -/
def BunV (lo : Nat) (b : Bun) (w : World) (v : Value) : Prop :=
  ∃ A c B d ds, v = .agg (bunV b.root A c B ds.length d).toArray ∧ toks ds = b.dis ∧ Sl w B (d * 36) (ds.flatMap disV) ∧ (∀ e ∈ (b.root, A, c) :: ds, Cvs w e ∧ Low lo e) ∧ ∀ a, B = some a → lo ≤ a.block
/-- A bundle that is being built: block g is its row; its discharges are the call's own, made since base. -/
def BunAt (w : World) (lo base g : Nat) (b : Bun) : Prop :=
  ∃ A c B d ds, toks ds = b.dis ∧ Row w g 40 (bunV b.root A c B ds.length d) ∧ w.ownsRow base 27 36 (.slice B ds.length d) ds.length (ds.flatMap disV) ∧ ∀ e ∈ (b.root, A, c) :: ds, Cvs w e ∧ Apart lo g B e
theorem Cvs.later {w w' : World} {e : Dis} {B : Nat} (h : Cvs w e) (hB : w.heap.size ≤ B) (hb : Below B w w') : Cvs w' e := Sl.later h hB hb
theorem cavs_pos {t : Tok} (h : 0 < (t.cavs.flatMap cavV).length) : 0 < t.cavs.length := by
  rw [length_cavsV] at h; omega
theorem Cvs.set {w w' : World} {e : Dis} {lo g : Nat} (h : Cvs w e) (hl : Low lo e) (hgr : w.grownBy w' (some g)) (hg : g < lo) : Cvs w' e :=
  Sl.apart h hgr (fun hx a ha => by have := hl (cavs_pos hx) a ha; omega)
theorem BunV.later {w w' : World} {lo : Nat} {b : Bun} {v : Value} (h : BunV lo b w v) (hb : Below w.heap.size w w') : BunV lo b w' v := by
  obtain ⟨A, c, B, d, ds, h1, h2, h3, h4, h5⟩ := h
  exact ⟨A, c, B, d, ds, h1, h2, h3.later (Nat.le_refl _) hb, fun e he => ⟨(h4 e he).1.later (Nat.le_refl _) hb, (h4 e he).2⟩, h5⟩
theorem BunV.mono {w : World} {lo lo' : Nat} {b : Bun} {v : Value} (h : BunV lo b w v) (hl : lo' ≤ lo) : BunV lo' b w v := by
  obtain ⟨A, c, B, d, ds, h1, h2, h3, h4, h5⟩ := h
  exact ⟨A, c, B, d, ds, h1, h2, h3, fun e he => ⟨(h4 e he).1, fun hp a ha => Nat.le_trans hl ((h4 e he).2 hp a ha)⟩, fun a ha => Nat.le_trans hl (h5 a ha)⟩
/-- Such a bundle as an argument. -/
theorem BunV.parts {w : World} {lo : Nat} {b : Bun} {v : Value} (h : BunV lo b w v) : ∃ A c B d ds, v = .agg (bunV b.root A c B ds.length d).toArray ∧ b = bunOf b.root ds ∧ Sl w A (c * 5) (b.root.cavs.flatMap cavV) ∧ Bs w B d ds := by
  obtain ⟨A, c, B, d, ds, h1, h2, h3, h4, h5⟩ := h
  exact ⟨A, c, B, d, ds, h1, by cases b; simp only at h2; rw [← h2], (h4 _ List.mem_cons_self).1, h3, fun e he => (h4 e (List.mem_cons_of_mem _ he)).1⟩
theorem BunV.zero (lo : Nat) (w : World) : BunV lo zeroB w (.agg (bunV zeroK none 0 none 0 0).toArray) :=
  ⟨none, 0, none, 0, [], rfl, rfl, ⟨.inl rfl, Nat.le_refl _, fun _ => rfl⟩, fun e he => by rw [List.mem_singleton.1 he]; exact ⟨⟨.inl rfl, Nat.le_refl _, fun _ => rfl⟩, fun h => by cases h⟩, fun a h => by cases h⟩
theorem BunAt.start {w : World} {lo base g : Nat} {t : Tok} {A : Option Addr} {c : Nat} (r : Row w g 40 (bunV t A c none 0 0)) (hs : Sl w A (c * 5) (t.cavs.flatMap cavV)) (hl : 0 < t.cavs.length → ∀ a, A = some a → lo ≤ a.block ∧ a.block ≠ g) : BunAt w lo base g ⟨t, []⟩ :=
  ⟨A, c, none, 0, [], rfl, r, World.ownsRow_nil w base _ _, fun e he => by rw [List.mem_singleton.1 he]; exact ⟨hs, fun hp a ha => ⟨(hl hp a ha).1, (hl hp a ha).2, fun p h => by cases h⟩⟩⟩
theorem bun_set (t : Tok) (ht : t.Ok) (A : Option Addr) (c : Nat) (B : Option Addr) (n d : Nat) (B' : Option Addr) (n' d' : Nat) : (bunV t A c B n d).set 36 (.slice B' n' d') = bunV t A c B' n' d' := by
  have h := length_tokV ht A c
  unfold bunV
  rw [List.set_append_right _ _ (by omega), h]; rfl
/-- Behind 'append' of one token, and the store of what came of it into the row. -/
theorem bunAt_append {w w2 : World} {lo base g : Nat} {t : Tok} {A : Option Addr} {c : Nat} {B : Option Addr} {d : Nat} {ds : List Dis} {dd : Dis} {v' : Value} (ht : t.Ok) (hg : g < base)
    (r : Row w g 40 (bunV t A c B ds.length d)) (hown : w.ownsRow base 27 36 (.slice B ds.length d) ds.length (ds.flatMap disV)) (hsl : ∀ e ∈ (t, A, c) :: ds, Cvs w e ∧ Apart lo g B e) (hdd : Cvs w dd ∧ Apart lo g B dd)
    (own : w2.ownsRow base 27 36 v' (ds.length + 1) (ds.flatMap disV ++ disV dd)) (hgr : w.grownBy w2 (Value.ownBlock (.slice B ds.length d)))
    (hnew : ∀ g', v'.ownBlock = some g' → Value.ownBlock (.slice B ds.length d) = some g' ∨ w.heap.size ≤ g') :
    BunAt (w2.setCell ⟨g, 36, none⟩ v') lo base g ⟨t, toks ds ++ [dd.1]⟩ ∧ w2.cell? ⟨g, 36, none⟩ = some (.slice B ds.length d) ∧ w2.frozen? ⟨g, 36, none⟩ = false := by
  have hglt := r.lt
  have hgne : some g ≠ Value.ownBlock (.slice B ds.length d) := fun e => by
    have := (hown.lt g e.symm).1
    omega
  have r2 : Row w2 g 40 (bunV t A c B ds.length d) := by
    unfold Row; rw [hgr.block g hglt hgne]; exact r
  have hlb := length_bunV ht A c B ds.length d
  refine ⟨?_, by rw [r2.cell]; exact bunV_dis ht A c B ds.length d, r2.free 36⟩
  have hvs := own
  obtain ⟨B', d', rfl, _, _⟩ := Sl.of_ownk hvs
  have hall : ∀ e ∈ (t, A, c) :: (ds ++ [dd]), Cvs w e ∧ Apart lo g B e := by
    intro e he
    rcases List.mem_cons.1 he with rfl | he
    · exact hsl _ List.mem_cons_self
    · rcases List.mem_append.1 he with he | he
      · exact hsl _ (List.mem_cons_of_mem _ he)
      · rw [List.mem_singleton.1 he]; exact hdd
  have hlen : (ds ++ [dd]).length = ds.length + 1 := by rw [List.length_append]; rfl
  refine ⟨A, c, B', d', ds ++ [dd], by rw [toks_append]; rfl, ?_, ?_, fun e he => ?_⟩
  · have h := r2.set 36 (.slice B' (ds.length + 1) d')
    rw [bun_set t ht] at h
    rw [hlen]; exact h
  · rw [hlen, List.flatMap_append, show ([dd] : List Dis).flatMap disV = disV dd from by simp]
    exact ownk_grown own (grown_setCell w2 g 36 _) hg
  · obtain ⟨h1, h2⟩ := hall e he
    refine ⟨?_, fun hp a ha => ⟨(h2 hp a ha).1, (h2 hp a ha).2.1, fun p hpB => ?_⟩⟩
    · have h3 : Cvs w2 e := by
        unfold Cvs at h1 ⊢
        cases B with
        | none => exact h1.apart (g := w2.heap.size) ⟨hgr.os, hgr.tape, hgr.output, hgr.size, fun k hk _ => hgr.block k hk (fun e => by cases e)⟩ (fun hx a ha => by have := h1.block_lt hx ha; have := hgr.size; omega)
        | some p => exact h1.apart hgr (fun hx a ha => fun e => (h2 (cavs_pos hx) a ha).2.2 p rfl e.symm)
      exact Sl.apart h3 (grown_setCell w2 g 36 _) (fun hx a ha => (h2 (cavs_pos hx) a ha).2.1)
    · rcases hnew p.block (by rw [hpB]; rfl) with h | h
      · cases B with
        | none => cases h
        | some q =>
          have hq : q.block = p.block := Option.some.inj h
          rw [← hq]; exact (h2 hp a ha).2.2 q rfl
      · have hx : 0 < (e.1.cavs.flatMap cavV).length := by rw [length_cavsV]; omega
        have := Sl.block_lt h1 hx ha
        omega
theorem infoTok : (Tryd.prog.info? 27).map (fun i => (i.zero, i.size, i.bytes)) = some (some (.agg (tokV zeroK none 0).toArray), 36, 88) := by kernel_rfl
theorem info_tok : ∃ i, Tryd.prog.info? 27 = some i ∧ i.zero = some (.agg (tokV zeroK none 0).toArray) ∧ i.size = 36 ∧ i.bytes = 88 := by
  have h := infoTok
  cases hq : Tryd.prog.info? 27 with
  | none => rw [hq] at h; cases h
  | some i =>
    rw [hq] at h
    simp only [Option.map_some, Option.some.injEq, Prod.mk.injEq] at h
    exact ⟨i, rfl, h.1, h.2.1, h.2.2⟩
theorem set_zip : ∀ (V : List Value) (k : Nat) (Z : List Value), k + V.length ≤ Z.length → (V.zipIdx k).foldl (fun (cs : Array Value) x => cs.setIfInBounds x.2 x.1) Z.toArray = (Z.take k ++ V ++ Z.drop (k + V.length)).toArray
  | [], k, Z, _ => by simp
  | v :: V, k, Z, h => by
    rw [List.length_cons] at h
    rw [List.zipIdx_cons, List.foldl_cons]
    show (V.zipIdx (k + 1)).foldl _ (Z.toArray.setIfInBounds k v) = _
    have e : Z.toArray.setIfInBounds k v = (Z.set k v).toArray := by simp
    rw [e, set_zip V (k + 1) (Z.set k v) (by rw [List.length_set]; omega)]
    congr 1
    rw [List.length_cons, List.drop_set_of_lt (by omega), show k + 1 + V.length = k + (V.length + 1) by omega]
    have h2 : (Z.set k v).take (k + 1) = Z.take k ++ [v] := by
      rw [List.take_add_one, List.take_set_of_le (Nat.le_refl k), List.getElem?_set_self (by omega)]; rfl
    rw [h2, List.append_assoc, List.append_assoc, List.append_assoc]; rfl
set_option maxRecDepth 100000 in
set_option maxHeartbeats 2000000 in
theorem build_bun (V : List Value) (h : V.length = 36) (w : World) : (Instr.build 40 #[(0, .agg V.toArray)]).run Tryd.prog w = .ok (.agg (V ++ [Value.slice none 0 0]).toArray) w := by
  have hz := set_zip V 0 [Value.int .u64 0, .string { data := #[] }, .slice none 0 0, .bool false, .int .u8 0, .int .u8 0, .int .u8 0, .int .u8 0, .int .u8 0, .int .u8 0, .int .u8 0, .int .u8 0, .int .u8 0, .int .u8 0, .int .u8 0, .int .u8 0, .int .u8 0, .int .u8 0, .int .u8 0, .int .u8 0, .int .u8 0, .int .u8 0, .int .u8 0, .int .u8 0, .int .u8 0, .int .u8 0, .int .u8 0, .int .u8 0, .int .u8 0, .int .u8 0, .int .u8 0, .int .u8 0, .int .u8 0, .int .u8 0, .int .u8 0, .int .u8 0, .slice none 0 0] (by rw [h]; decide)
  rw [h] at hz
  go_simp
set_option maxRecDepth 100000 in
set_option maxHeartbeats 2000000 in
theorem build_one (V : List Value) (h : V.length = 36) (w : World) : (Instr.buildSlice 38 1 #[(0, .agg V.toArray)]).run Tryd.prog w = .ok (.slice (some ⟨w.heap.size, 0, none⟩) 1 1) (w.alloc (.cells V.toArray 27)) := by
  have hz := set_zip V 0 [Value.int .u64 0, .string { data := #[] }, .slice none 0 0, .bool false, .int .u8 0, .int .u8 0, .int .u8 0, .int .u8 0, .int .u8 0, .int .u8 0, .int .u8 0, .int .u8 0, .int .u8 0, .int .u8 0, .int .u8 0, .int .u8 0, .int .u8 0, .int .u8 0, .int .u8 0, .int .u8 0, .int .u8 0, .int .u8 0, .int .u8 0, .int .u8 0, .int .u8 0, .int .u8 0, .int .u8 0, .int .u8 0, .int .u8 0, .int .u8 0, .int .u8 0, .int .u8 0, .int .u8 0, .int .u8 0, .int .u8 0, .int .u8 0] (by rw [h]; decide)
  rw [h] at hz
  simp only [List.take_zero, List.nil_append] at hz
  have hd : ([Value.int .u64 0, .string { data := #[] }, .slice none 0 0, .bool false, .int .u8 0, .int .u8 0, .int .u8 0, .int .u8 0, .int .u8 0, .int .u8 0, .int .u8 0, .int .u8 0, .int .u8 0, .int .u8 0, .int .u8 0, .int .u8 0, .int .u8 0, .int .u8 0, .int .u8 0, .int .u8 0, .int .u8 0, .int .u8 0, .int .u8 0, .int .u8 0, .int .u8 0, .int .u8 0, .int .u8 0, .int .u8 0, .int .u8 0, .int .u8 0, .int .u8 0, .int .u8 0, .int .u8 0, .int .u8 0, .int .u8 0, .int .u8 0] : List Value).drop (0 + 36) = [] := rfl
  rw [hd, List.append_nil] at hz
  go_simp
theorem wpList_build1B {P : Program} {w : World} {ops : Array Oper} {rest : List Oper} {o : Oper} {a : Act} {Q : Exit → Act → World → Prop} (hgd : o.guard = none) (ty : TypeId) (k : Nat) (x : Operand) (ho : o.op = .build ty #[(k, x)]) (v0 v : Value) (hx : a.eval x = v0)
    (hv : (Instr.build ty #[(k, v0)]).run P w = .ok v w) (h : wpList P ops Q rest (a.put o.dst v) w) : wpList P ops Q (o :: rest) a w := by
  refine wpList_plain hgd fun _ hK => ?_
  unfold Oper.wp execOp
  simp only [ho, Sem.run_bind, Sem.run_pure, Result.andThen_ok, List.map_toArray, List.map_cons, List.map_nil, hx, hv]
  exact hK _ _ h
theorem wpList_slice1 {P : Program} {w w' : World} {ops : Array Oper} {rest : List Oper} {o : Oper} {a : Act} {Q : Exit → Act → World → Prop} (hgd : o.guard = none) (ty : TypeId) (n k : Nat) (x : Operand) (ho : o.op = .buildSlice ty n #[(k, x)]) (v0 v : Value) (hx : a.eval x = v0)
    (hv : (Instr.buildSlice ty n #[(k, v0)]).run P w = .ok v w') (h : wpList P ops Q rest (a.put o.dst v) w') : wpList P ops Q (o :: rest) a w := by
  refine wpList_plain hgd fun _ hK => ?_
  unfold Oper.wp execOp
  simp only [ho, Sem.run_bind, Sem.run_pure, Result.andThen_ok, List.map_toArray, List.map_cons, List.map_nil, hx, hv]
  exact hK _ _ h
theorem step_slice1 {P : Program} {w w' : World} {ops : Array Oper} {o : Oper} {a : Act} {K : Act → World → Prop} {Q : Exit → Act → World → Prop} {E : Prop} (dst : Option Tmp) (hdst : o.dst = dst) (hgd : Region.wanted o (yielded ops a.tmps) = true) (ty : TypeId) (n k : Nat) (x : Operand) (ho : o.op = .buildSlice ty n #[(k, x)]) (v0 v : Value) (hx : a.eval x = v0)
    (hv : (Instr.buildSlice ty n #[(k, v0)]).run P w = .ok v w') (h : K (a.put dst v) w') : if Region.wanted o (yielded ops a.tmps) = true then Oper.wp P o a w K Q else E := by
  subst hdst
  rw [if_pos hgd]
  unfold Oper.wp execOp
  simp only [ho, Sem.run_bind, Sem.run_pure, Result.andThen_ok, List.map_toArray, List.map_cons, List.map_nil, hx, hv]
  exact h
theorem tok_sl (w : World) (V : List Value) : Sl (w.alloc (.cells V.toArray 27)) (some ⟨w.heap.size, 0, none⟩) V.length V :=
  ⟨Rd.block (Go.heap_alloc_new w _), Nat.le_refl _, fun h => by cases h⟩
end Go.Proofs.YtnkkgclmmaakgaaDoor
