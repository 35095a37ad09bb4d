/- Texts of this claim, one behind the other. -/
import Derived.Test.YtimdhdimhboboaaGreatDoorRaap
import Derived.Test.YtimdhdimhboboaaGreatDoorRaai
import Derived.Test.YtimdhdimhboboaaGreatDoorRaaj
import Derived.Test.YtimdhdimhboboaaGreatDoorRaaq
import Derived.Deep.DeepCutAuto
/- LAYER 19, ChainTells: the walk of the law. -/
namespace Go.Proofs.YtimdhdimhboboaaGreatDoor
set_option maxRecDepth 100000
open Go Go.RowKit

/-- The token that holds one caveat alone. -/
def loneT (cv : Cav) : Tok := ⟨0, [], [cv], false, List.replicate 32 0⟩
theorem index_tag19 (A : Option Addr) (b o n c k : Nat) (hA : A = some ⟨b, o, none⟩) (hk : k < n) (w : World) :
    (Instr.indexAt 32 (.slice A n c) (.int .i64 k)).run Tryz.prog w = .ok (.pointer (some ⟨b, o + k * 32, none⟩)) w := by
  subst hA
  have h : (k : Int) < (n : Int) := by omega
  go_simp
theorem cap_lone (cv : Cav) (h : ¬ 10000 < capT (loneT cv)) : capC cv ≤ 10000 := by
  have e : capT (loneT cv) = capC cv := by unfold capT loneT; simp
  omega
theorem capB_le (c : Cav) (h : capC c ≤ 10000) : (capB c).length ≤ 1000000 := by
  unfold capC at h
  unfold capB cavF
  split
  · show (fieldL (4, varL c.party) ++ (fieldL (5, c.id) ++ (fieldL (6, c.vault) ++ ([] : List UInt8)))).length ≤ _
    have h1 := length_varL c.party
    have h2 := length_varL c.id.length
    have h3 := length_varL c.vault.length
    have h4 := length_varL (varL c.party).length
    rw [List.length_append, List.length_append, List.length_append, length_fieldL, length_fieldL, length_fieldL]
    show 1 + (varL (varL c.party).length).length + (varL c.party).length + (1 + (varL c.id.length).length + c.id.length + (1 + (varL c.vault.length).length + c.vault.length + 0)) ≤ _
    omega
  · show (fieldL (3, c.text) ++ ([] : List UInt8)).length ≤ _
    have h2 := length_varL c.text.length
    rw [List.length_append, length_fieldL]
    show 1 + (varL c.text.length).length + c.text.length + 0 ≤ _
    omega
theorem mem_sum19 (l : List Nat) (x : Nat) (h : x ∈ l) : x ≤ l.sum := by
  induction l with
  | nil => cases h
  | cons a l ih =>
    rw [List.sum_cons]
    rcases List.mem_cons.1 h with rfl | h
    · omega
    · have := ih h; omega
theorem cap_mem19 (t : Tok) (x : Cav) (hx : x ∈ t.cavs) (h : ¬ 10000 < capT t) : capC x ≤ 10000 := by
  have : capC x ≤ (t.cavs.map capC).sum := mem_sum19 _ _ (List.mem_map_of_mem hx)
  unfold capT at h
  omega
theorem addT_ok {t : Tok} {cv : Cav} (ht : t.Ok) (hp : cv.party < 18446744073709551616) : (addT t cv).Ok := by
  unfold addT; split
  · exact moreT_ok ht hp
  · exact zeroK_ok
theorem addT_len (t : Tok) (cv : Cav) : (addT t cv).cavs.length ≤ t.cavs.length + 1 := by
  unfold addT; split
  · show (t.cavs ++ [cv]).length ≤ _; rw [List.length_append]; exact Nat.le_refl _
  · exact Nat.zero_le _
theorem mintT_ok {key : List UInt8} {n : Nat} {id : List UInt8} (hn : n < 18446744073709551616) : (mintT key n id).Ok := by
  unfold mintT; split
  · exact zeroK_ok
  · exact ⟨hn, (fun c h => by cases h), length_startT _ _ _⟩
theorem mintT_len (key : List UInt8) (n : Nat) (id : List UInt8) : (mintT key n id).cavs.length = 0 := by
  unfold mintT; split <;> rfl
/-- What holds from the law's start on. -/
structure TellI (w : World) (K X C : List Value) (t : Tok) (A : Option Addr) (c : Nat) (wx : World) : Prop where
  key : Row wx w.heap.size 23 K
  tok : Row wx (w.heap.size + 1) 27 X
  cav : Row wx (w.heap.size + 1 + 1) 29 C
  sl : Sl wx A (c * 5) (t.cavs.flatMap cavV)
  env : EnvJ wx
  bel : Below w.heap.size w wx
theorem TellI.later {w wx wy : World} {K X C : List Value} {t : Tok} {A : Option Addr} {c : Nat} (h : TellI w K X C t A c wx) (hq : Below wx.heap.size wx wy) : TellI w K X C t A c wy :=
  ⟨h.key.later hq h.key.lt, h.tok.later hq h.tok.lt, h.cav.later hq h.cav.lt, h.sl.later (Nat.le_refl _) hq, h.env.next hq, h.bel.trans (hq.mono h.bel.size)⟩
set_option maxHeartbeats 8000000 in
theorem jtells_g1 (key : List UInt8) (_hk : key.length = 32) (t : Tok) (ht : t.Ok) (htf : t.Fit) (A : Option Addr) (c : Nat) (cv : Cav) (_hp : cv.party < 18446744073709551616) (hcf : (⟨0, [], [cv], false, List.replicate 32 0⟩ : Tok).Fit) (w : World) (hs : Sl w A (c * 5) (t.cavs.flatMap cavV)) (hE : EnvJ w) (g1 : 10000 < capT t) :
    Calls Tryz.prog 3 #[.agg (byts key).toArray, .agg (tokV t A c).toArray, .agg (cavV cv).toArray] w fun e w' => e = .returned (.bool true) ∧ Below w.heap.size w w' := by
  obtain ⟨X, hX⟩ : ∃ X, X = tokV t A c := ⟨_, rfl⟩
  obtain ⟨C, hC⟩ : ∃ C, C = cavV cv := ⟨_, rfl⟩
  have hXl : X.length = 36 := by rw [hX]; exact length_tokV ht A c
  have hzX := Lib.hid (show (Tryz.prog.info? 27).map (·.size) = some X.length by rw [hXl]; exact size_tok)
  have hzC := Lib.hid (show (Tryz.prog.info? 29).map (·.size) = some C.length by rw [hC]; exact size_cav)
  obtain ⟨w1, hw1⟩ : ∃ w1, w1 = ((w.alloc (.cells (byts key).toArray 23)).alloc (.cells X.toArray 27)).alloc (.cells C.toArray 29) := ⟨_, rfl⟩
  obtain ⟨r1, r2, r3, hb1, -⟩ := rows3 hw1.symm
  have HW := Lib.hid hw1
  have I : TellI w (byts key) X C t A c w1 := ⟨r1, r2, r3, hs.later (Nat.le_refl _) hb1, hE.next hb1, hb1⟩
  have hgt := fun (w' : World) (h : Sl w' A (c * 5) (t.cavs.flatMap cavV)) => rgreatT_any t htf A c w' h
  have hgu := fun (b : Nat) (w' : World) (h : Sl w' (some ⟨b, 0, none⟩) (1 * 5) (cavV cv)) => (show Calls Tryz.prog 7 #[.agg #[.int .u64 0, .string { data := #[] }, .slice (some ⟨b, 0, none⟩) 1 1, .bool false, .int .u8 0, .int .u8 0, .int .u8 0, .int .u8 0, .int .u8 0, .int .u8 0, .int .u8 0, .int .u8 0, .int .u8 0, .int .u8 0, .int .u8 0, .int .u8 0, .int .u8 0, .int .u8 0, .int .u8 0, .int .u8 0, .int .u8 0, .int .u8 0, .int .u8 0, .int .u8 0, .int .u8 0, .int .u8 0, .int .u8 0, .int .u8 0, .int .u8 0, .int .u8 0, .int .u8 0, .int .u8 0, .int .u8 0, .int .u8 0, .int .u8 0, .int .u8 0]] w' fun e w'' => e = .returned (.int .i64 (if 10000 < capT (loneT cv) then 1 else 0)) ∧ Below w'.heap.size w' w'' from rgreatT_any (loneT cv) hcf (some ⟨b, 0, none⟩) 1 w' (by show Sl w' _ _ ([cv].flatMap cavV); rw [List.flatMap_cons, List.flatMap_nil, List.append_nil]; exact h))
  have hcell := Lib.hid (show X[2]? = some (.slice A t.cavs.length c) by rw [hX]; rfl)
  have HC := Lib.hid hC
  have HX := Lib.hid hX.symm
  rw [← hX] at hgt
  rw [← hX, ← hC]
  have tok1 : True := trivial
  have tok2 : True := trivial
  clear hw1 hX hC r1 r2 r3 hb1 hs hE hXl
  rw [if_pos g1] at hgt
  go_enter Tryz.func3, Tryz.ntmps3
  go_wp2_with (first
    | (go_at_call 6; rw [← HW.out]; refine (jalive_any _ I.env).mono ?_; rintro e w2 ⟨rfl, hq⟩; have I := I.later hq; have KT := Lib.hid (row_range I.tok); clear hq)
    | (with_reducible refine wpList_load_mid rfl 27 (.tmp 4) rfl (w.heap.size + 1) 0 rfl X _ KT.out Tryz.underlying27 rfl hzX.out ?_)
    | (go_at_call 7; have _t := tok1; refine (hgt _ I.sl).mono ?_; rintro e w3 ⟨rfl, hq⟩; have I := I.later hq; have hc2 : w3.cell? ⟨w.heap.size + 1, 2, none⟩ = some (.slice A t.cavs.length c) := (by rw [I.tok.cell, hcell.out]); have KC := Lib.hid (row_range I.cav); clear tok1 hq KT))
  go_ret
  exact ⟨rfl, I.bel⟩
set_option maxHeartbeats 8000000 in
theorem jtells_g2 (key : List UInt8) (_hk : key.length = 32) (t : Tok) (ht : t.Ok) (htf : t.Fit) (A : Option Addr) (c : Nat) (cv : Cav) (_hp : cv.party < 18446744073709551616) (hcf : (⟨0, [], [cv], false, List.replicate 32 0⟩ : Tok).Fit) (w : World) (hs : Sl w A (c * 5) (t.cavs.flatMap cavV)) (hE : EnvJ w) (g1 : ¬ 10000 < capT t) (g2 : 70 < t.cavs.length) :
    Calls Tryz.prog 3 #[.agg (byts key).toArray, .agg (tokV t A c).toArray, .agg (cavV cv).toArray] w fun e w' => e = .returned (.bool true) ∧ Below w.heap.size w w' := by
  obtain ⟨X, hX⟩ : ∃ X, X = tokV t A c := ⟨_, rfl⟩
  obtain ⟨C, hC⟩ : ∃ C, C = cavV cv := ⟨_, rfl⟩
  have hXl : X.length = 36 := by rw [hX]; exact length_tokV ht A c
  have hzX := Lib.hid (show (Tryz.prog.info? 27).map (·.size) = some X.length by rw [hXl]; exact size_tok)
  have hzC := Lib.hid (show (Tryz.prog.info? 29).map (·.size) = some C.length by rw [hC]; exact size_cav)
  obtain ⟨w1, hw1⟩ : ∃ w1, w1 = ((w.alloc (.cells (byts key).toArray 23)).alloc (.cells X.toArray 27)).alloc (.cells C.toArray 29) := ⟨_, rfl⟩
  obtain ⟨r1, r2, r3, hb1, -⟩ := rows3 hw1.symm
  have HW := Lib.hid hw1
  have I : TellI w (byts key) X C t A c w1 := ⟨r1, r2, r3, hs.later (Nat.le_refl _) hb1, hE.next hb1, hb1⟩
  have hgt := fun (w' : World) (h : Sl w' A (c * 5) (t.cavs.flatMap cavV)) => rgreatT_any t htf A c w' h
  have hgu := fun (b : Nat) (w' : World) (h : Sl w' (some ⟨b, 0, none⟩) (1 * 5) (cavV cv)) => (show Calls Tryz.prog 7 #[.agg #[.int .u64 0, .string { data := #[] }, .slice (some ⟨b, 0, none⟩) 1 1, .bool false, .int .u8 0, .int .u8 0, .int .u8 0, .int .u8 0, .int .u8 0, .int .u8 0, .int .u8 0, .int .u8 0, .int .u8 0, .int .u8 0, .int .u8 0, .int .u8 0, .int .u8 0, .int .u8 0, .int .u8 0, .int .u8 0, .int .u8 0, .int .u8 0, .int .u8 0, .int .u8 0, .int .u8 0, .int .u8 0, .int .u8 0, .int .u8 0, .int .u8 0, .int .u8 0, .int .u8 0, .int .u8 0, .int .u8 0, .int .u8 0, .int .u8 0, .int .u8 0]] w' fun e w'' => e = .returned (.int .i64 (if 10000 < capT (loneT cv) then 1 else 0)) ∧ Below w'.heap.size w' w'' from rgreatT_any (loneT cv) hcf (some ⟨b, 0, none⟩) 1 w' (by show Sl w' _ _ ([cv].flatMap cavV); rw [List.flatMap_cons, List.flatMap_nil, List.append_nil]; exact h))
  have hcell := Lib.hid (show X[2]? = some (.slice A t.cavs.length c) by rw [hX]; rfl)
  have HC := Lib.hid hC
  have HX := Lib.hid hX.symm
  rw [← hX] at hgt
  rw [← hX, ← hC]
  have tok1 : True := trivial
  have tok2 : True := trivial
  clear hw1 hX hC r1 r2 r3 hb1 hs hE hXl
  rw [if_neg g1] at hgt
  have g2' : (70 : Int) < (t.cavs.length : Int) := by omega
  go_enter Tryz.func3, Tryz.ntmps3
  go_wp2_with (first
    | (go_at_call 6; rw [← HW.out]; refine (jalive_any _ I.env).mono ?_; rintro e w2 ⟨rfl, hq⟩; have I := I.later hq; have KT := Lib.hid (row_range I.tok); clear hq)
    | (with_reducible refine wpList_load_mid rfl 27 (.tmp 4) rfl (w.heap.size + 1) 0 rfl X _ KT.out Tryz.underlying27 rfl hzX.out ?_)
    | (go_at_call 7; have _t := tok1; refine (hgt _ I.sl).mono ?_; rintro e w3 ⟨rfl, hq⟩; have I := I.later hq; have hc2 : w3.cell? ⟨w.heap.size + 1, 2, none⟩ = some (.slice A t.cavs.length c) := (by rw [I.tok.cell, hcell.out]); have KC := Lib.hid (row_range I.cav); clear tok1 hq KT))
  go_ret
  exact ⟨rfl, I.bel⟩
set_option maxHeartbeats 8000000 in
theorem jtells_g3 (key : List UInt8) (_hk : key.length = 32) (t : Tok) (ht : t.Ok) (htf : t.Fit) (A : Option Addr) (c : Nat) (cv : Cav) (_hp : cv.party < 18446744073709551616) (hcf : (⟨0, [], [cv], false, List.replicate 32 0⟩ : Tok).Fit) (w : World) (hs : Sl w A (c * 5) (t.cavs.flatMap cavV)) (hE : EnvJ w) (g1 : ¬ 10000 < capT t) (g2 : ¬ 70 < t.cavs.length) (g3 : 10000 < capT (loneT cv)) :
    Calls Tryz.prog 3 #[.agg (byts key).toArray, .agg (tokV t A c).toArray, .agg (cavV cv).toArray] w fun e w' => e = .returned (.bool true) ∧ Below w.heap.size w w' := by
  obtain ⟨X, hX⟩ : ∃ X, X = tokV t A c := ⟨_, rfl⟩
  obtain ⟨C, hC⟩ : ∃ C, C = cavV cv := ⟨_, rfl⟩
  have hXl : X.length = 36 := by rw [hX]; exact length_tokV ht A c
  have hzX := Lib.hid (show (Tryz.prog.info? 27).map (·.size) = some X.length by rw [hXl]; exact size_tok)
  have hzC := Lib.hid (show (Tryz.prog.info? 29).map (·.size) = some C.length by rw [hC]; exact size_cav)
  obtain ⟨w1, hw1⟩ : ∃ w1, w1 = ((w.alloc (.cells (byts key).toArray 23)).alloc (.cells X.toArray 27)).alloc (.cells C.toArray 29) := ⟨_, rfl⟩
  obtain ⟨r1, r2, r3, hb1, -⟩ := rows3 hw1.symm
  have HW := Lib.hid hw1
  have I : TellI w (byts key) X C t A c w1 := ⟨r1, r2, r3, hs.later (Nat.le_refl _) hb1, hE.next hb1, hb1⟩
  have hgt := fun (w' : World) (h : Sl w' A (c * 5) (t.cavs.flatMap cavV)) => rgreatT_any t htf A c w' h
  have hgu := fun (b : Nat) (w' : World) (h : Sl w' (some ⟨b, 0, none⟩) (1 * 5) (cavV cv)) => (show Calls Tryz.prog 7 #[.agg #[.int .u64 0, .string { data := #[] }, .slice (some ⟨b, 0, none⟩) 1 1, .bool false, .int .u8 0, .int .u8 0, .int .u8 0, .int .u8 0, .int .u8 0, .int .u8 0, .int .u8 0, .int .u8 0, .int .u8 0, .int .u8 0, .int .u8 0, .int .u8 0, .int .u8 0, .int .u8 0, .int .u8 0, .int .u8 0, .int .u8 0, .int .u8 0, .int .u8 0, .int .u8 0, .int .u8 0, .int .u8 0, .int .u8 0, .int .u8 0, .int .u8 0, .int .u8 0, .int .u8 0, .int .u8 0, .int .u8 0, .int .u8 0, .int .u8 0, .int .u8 0]] w' fun e w'' => e = .returned (.int .i64 (if 10000 < capT (loneT cv) then 1 else 0)) ∧ Below w'.heap.size w' w'' from rgreatT_any (loneT cv) hcf (some ⟨b, 0, none⟩) 1 w' (by show Sl w' _ _ ([cv].flatMap cavV); rw [List.flatMap_cons, List.flatMap_nil, List.append_nil]; exact h))
  have hcell := Lib.hid (show X[2]? = some (.slice A t.cavs.length c) by rw [hX]; rfl)
  have HC := Lib.hid hC
  have HX := Lib.hid hX.symm
  rw [← hX] at hgt
  rw [← hX, ← hC]
  have tok1 : True := trivial
  have tok2 : True := trivial
  clear hw1 hX hC r1 r2 r3 hb1 hs hE hXl
  rw [if_neg g1] at hgt
  rw [if_pos g3] at hgu
  have g2' : (t.cavs.length : Int) ≤ 70 := by omega
  have d2 : decide ((70 : Int) < (t.cavs.length : Int)) = false := decide_eq_false (by omega)
  go_enter Tryz.func3, Tryz.ntmps3
  go_wp2_with (first
    | (go_at_call 6; rw [← HW.out]; refine (jalive_any _ I.env).mono ?_; rintro e w2 ⟨rfl, hq⟩; have I := I.later hq; have KT := Lib.hid (row_range I.tok); clear hq)
    | (with_reducible refine wpList_load_mid rfl 27 (.tmp 4) rfl (w.heap.size + 1) 0 rfl X _ KT.out Tryz.underlying27 rfl hzX.out ?_)
    | (go_at_call 7; have _t := tok1; refine (hgt _ I.sl).mono ?_; rintro e w3 ⟨rfl, hq⟩; have I := I.later hq; have hc2 : w3.cell? ⟨w.heap.size + 1, 2, none⟩ = some (.slice A t.cavs.length c) := (by rw [I.tok.cell, hcell.out]); have KC := Lib.hid (row_range I.cav); clear tok1 hq KT)
    | ((with_reducible refine wpList_step fun K hK => ?_); refine step_load_mid (some 30) rfl (by rfl) 29 (.tmp 5) rfl (w.heap.size + 1 + 1) 0 rfl C _ KC.out Tryz.underlying29 rfl hzC.out ?_; refine hK _ _ ?_; clear hK)
    | ((with_reducible refine wpList_step fun K hK => ?_); refine step_oneC (some 31) rfl (by rfl) cv (by rw [HC.out]; unfold cavV; go_simp) ?_; intro b5 w4 s8 h5lt h5ge hq; refine hK _ _ ?_; clear hK; have I := I.later hq; clear hq h5lt h5ge KC hc2)
    | (go_at_call 7; have _t := s8; refine (hgu _ _ s8).mono ?_; rintro e w5 ⟨rfl, hq⟩; have I := I.later hq; clear s8 hq))
  go_ret
  exact ⟨rfl, I.bel⟩
set_option maxHeartbeats 8000000 in
theorem jtells_main (key : List UInt8) (hk : key.length = 32) (t : Tok) (ht : t.Ok) (htf : t.Fit) (A : Option Addr) (c : Nat) (cv : Cav) (hp : cv.party < 18446744073709551616) (hcf : (⟨0, [], [cv], false, List.replicate 32 0⟩ : Tok).Fit) (w : World) (hs : Sl w A (c * 5) (t.cavs.flatMap cavV)) (hE : EnvJ w) (g1 : ¬ 10000 < capT t) (g2 : ¬ 70 < t.cavs.length) (g3 : ¬ 10000 < capT (loneT cv)) :
    Calls Tryz.prog 3 #[.agg (byts key).toArray, .agg (tokV t A c).toArray, .agg (cavV cv).toArray] w fun e w' => e = .returned (.bool true) ∧ Below w.heap.size w w' := by
  obtain ⟨X, hX⟩ : ∃ X, X = tokV t A c := ⟨_, rfl⟩
  obtain ⟨C, hC⟩ : ∃ C, C = cavV cv := ⟨_, rfl⟩
  have hXl : X.length = 36 := by rw [hX]; exact length_tokV ht A c
  have hzX := Lib.hid (show (Tryz.prog.info? 27).map (·.size) = some X.length by rw [hXl]; exact size_tok)
  have hzC := Lib.hid (show (Tryz.prog.info? 29).map (·.size) = some C.length by rw [hC]; exact size_cav)
  obtain ⟨w1, hw1⟩ : ∃ w1, w1 = ((w.alloc (.cells (byts key).toArray 23)).alloc (.cells X.toArray 27)).alloc (.cells C.toArray 29) := ⟨_, rfl⟩
  obtain ⟨r1, r2, r3, hb1, -⟩ := rows3 hw1.symm
  have HW := Lib.hid hw1
  have I : TellI w (byts key) X C t A c w1 := ⟨r1, r2, r3, hs.later (Nat.le_refl _) hb1, hE.next hb1, hb1⟩
  have hgt := fun (w' : World) (h : Sl w' A (c * 5) (t.cavs.flatMap cavV)) => rgreatT_any t htf A c w' h
  have hgu := fun (b : Nat) (w' : World) (h : Sl w' (some ⟨b, 0, none⟩) (1 * 5) (cavV cv)) => (show Calls Tryz.prog 7 #[.agg #[.int .u64 0, .string { data := #[] }, .slice (some ⟨b, 0, none⟩) 1 1, .bool false, .int .u8 0, .int .u8 0, .int .u8 0, .int .u8 0, .int .u8 0, .int .u8 0, .int .u8 0, .int .u8 0, .int .u8 0, .int .u8 0, .int .u8 0, .int .u8 0, .int .u8 0, .int .u8 0, .int .u8 0, .int .u8 0, .int .u8 0, .int .u8 0, .int .u8 0, .int .u8 0, .int .u8 0, .int .u8 0, .int .u8 0, .int .u8 0, .int .u8 0, .int .u8 0, .int .u8 0, .int .u8 0, .int .u8 0, .int .u8 0, .int .u8 0, .int .u8 0]] w' fun e w'' => e = .returned (.int .i64 (if 10000 < capT (loneT cv) then 1 else 0)) ∧ Below w'.heap.size w' w'' from rgreatT_any (loneT cv) hcf (some ⟨b, 0, none⟩) 1 w' (by show Sl w' _ _ ([cv].flatMap cavV); rw [List.flatMap_cons, List.flatMap_nil, List.append_nil]; exact h))
  have hcell := Lib.hid (show X[2]? = some (.slice A t.cavs.length c) by rw [hX]; rfl)
  have HC := Lib.hid hC
  have HX := Lib.hid hX.symm
  rw [← hX] at hgt
  rw [← hX, ← hC]
  have tok1 : True := trivial
  have tok2 : True := trivial
  clear hw1 hX hC r1 r2 r3 hb1 hs hE hXl
  rw [if_neg g1] at hgt
  rw [if_neg g3] at hgu
  have g2' : (t.cavs.length : Int) ≤ 70 := by omega
  have d2 : decide ((70 : Int) < (t.cavs.length : Int)) = false := decide_eq_false (by omega)
  have hcc := cap_lone cv g3
  have hkz := Lib.hid (show (Tryz.prog.info? 23).map (·.size) = some (byts key).length by rw [tag_fit key hk]; exact size_tag)
  have hdt := Lib.hid (fun w' hE h => jtags_any key hk t ht (by omega) A c w' hE h)
  have hrt := Lib.hid (fun w' h => rtags_any key hk t ht (by unfold capT at g1; omega) (by omega) (fun x hx => capB_le x (cap_mem19 t x hx g1)) A c w' h)
  rw [HX.out] at hdt hrt
  go_enter Tryz.func3, Tryz.ntmps3
  go_upto_region 5 with (first
    | (go_at_call 6; rw [← HW.out]; refine (jalive_any _ I.env).mono ?_; rintro e w2 ⟨rfl, hq⟩; have I := I.later hq; have KT := Lib.hid (row_range I.tok); clear hq)
    | (with_reducible refine wpList_load_mid rfl 27 (.tmp 4) rfl (w.heap.size + 1) 0 rfl X _ KT.out Tryz.underlying27 rfl hzX.out ?_)
    | (go_at_call 7; have _t := tok1; refine (hgt _ I.sl).mono ?_; rintro e w3 ⟨rfl, hq⟩; have I := I.later hq; have hc2 : w3.cell? ⟨w.heap.size + 1, 2, none⟩ = some (.slice A t.cavs.length c) := (by rw [I.tok.cell, hcell.out]); have KC := Lib.hid (row_range I.cav); clear tok1 hq KT)
    | ((with_reducible refine wpList_step fun K hK => ?_); refine step_load_mid (some 30) rfl (by rfl) 29 (.tmp 5) rfl (w.heap.size + 1 + 1) 0 rfl C _ KC.out Tryz.underlying29 rfl hzC.out ?_; refine hK _ _ ?_; clear hK)
    | ((with_reducible refine wpList_step fun K hK => ?_); refine step_oneC (some 31) rfl (by rfl) cv (by rw [HC.out]; unfold cavV; go_simp) ?_; intro b5 w4 s8 h5lt h5ge hq; refine hK _ _ ?_; clear hK; have I := I.later hq; clear hq h5lt h5ge KC hc2)
    | (go_at_call 7; have _t := s8; refine (hgu _ _ s8).mono ?_; rintro e w5 ⟨rfl, hq⟩; have I := I.later hq; clear s8 hq))
  clear hgt hgu g2' d2 HW
  go_cut [7, 8] (fun p q wx => ∃ B1 d1 B2 d2, p = .slice B1 (t.cavs.length + 1) d1 ∧ q = .slice B2 (t.cavs.length + 1) d2 ∧ Sl wx B1 (d1 * 32) (tagsV (tagsT key t)) ∧ Sl wx B2 (d2 * 32) (tagsV (tagsT key t)) ∧ TellI w (byts key) X C t A c wx)
  case first =>
    refine wp_region_noPanic ?_
    refine wp_region_held_drew (S := fun w' => Below w5.heap.size w5 w') (by kernel_rfl) ((Below.refl _ _).drew) (fun hHeld => ?_)
    have hB := hHeld
    refine rt 0 36 hHeld ?_ (hy := by intro w hS; exact run_load_op 23 (.tmp 3) rfl _ 0 rfl (byts key) _ (row_range (I.key.later hS I.key.lt)) Tryz.underlying23 rfl hkz.out)
    refine rt 1 37 hHeld ?_ (hy := by intro w hS; exact run_load_op 27 (.tmp 4) rfl _ 0 rfl X _ (row_range (I.tok.later hS I.tok.lt)) Tryz.underlying27 rfl hzX.out)
    refine rt 3 39 hHeld ?_ (hy := by intro w hS; exact run_load_op 23 (.tmp 3) rfl _ 0 rfl (byts key) _ (row_range (I.key.later hS I.key.lt)) Tryz.underlying23 rfl hkz.out)
    refine rt 4 40 hHeld ?_ (hy := by intro w hS; exact run_load_op 27 (.tmp 4) rfl _ 0 rfl X _ (row_range (I.tok.later hS I.tok.lt)) Tryz.underlying27 rfl hzX.out)
    refine wpAnyH_ready (rs := [2]) (by kernel_rfl) (by simp) (AllReadyH.cons (o := _) rfl (fun K hK => ?_) AllReadyH.nil)
    go_simp
    refine (hdt.out _ (I.env.next hB) (I.sl.later (Nat.le_refl _) hB)).mono ?_; rintro e ww52 ⟨B1, d1, rfl, s1, hqw52⟩
    try go_wp2_with fail
    refine hK.out _ _ (hHeld.trans (hqw52.mono hHeld.size)) (fun hHeld' => ?_)
    clear hK K
    try (first | (rw [put_some]; dsimp only [List.set]) | rw [put_none])
    have hB := below_step hB hqw52
    have hB2 : Below ww52.heap.size ww52 ww52 := Below.refl _ _
    refine wpAnyH_narrow (S' := fun w' => Below ww52.heap.size ww52 w') (fun _ h => (hHeld.trans (hqw52.mono hHeld.size)).trans (h.mono (hHeld.trans (hqw52.mono hHeld.size)).size)) _ _ _ _ ?_
    clear hHeld
    have hHeld : Below ww52.heap.size ww52 ww52 := Below.refl _ _
    refine wpAnyH_ready (rs := [5]) (by kernel_rfl) (by simp) (AllReadyH.cons (o := _) rfl (fun K hK => ?_) AllReadyH.nil)
    go_simp
    refine (hrt.out _ (I.sl.later (Nat.le_refl _) hB)).mono ?_; rintro e ww55 ⟨B2, d2, rfl, s2, hqw55⟩
    try go_wp2_with fail
    refine hK.out _ _ (hHeld.trans (hqw55.mono hHeld.size)) (fun hHeld' => ?_)
    clear hK K
    try (first | (rw [put_some]; dsimp only [List.set]) | rw [put_none])
    have hB := below_step hB hqw55
    have hB2 := below_step hB2 hqw55
    have hB5 : Below ww55.heap.size ww55 ww55 := Below.refl _ _
    refine wpAnyH_narrow (S' := fun w' => Below ww55.heap.size ww55 w') (fun _ h => (hHeld.trans (hqw55.mono hHeld.size)).trans (h.mono (hHeld.trans (hqw55.mono hHeld.size)).size)) _ _ _ _ ?_
    clear hHeld
    have hHeld : Below ww55.heap.size ww55 ww55 := Below.refl _ _
    refine rt 6 7 hHeld ?_
    refine rt 7 8 hHeld ?_
    refine wpAnyH_done (by kernel_rfl) ?_ _
    refine NoPanic.normal ?_
    go_wp2_with fail
    go_meet
    case rel => exact ⟨B1, d1, B2, d2, rfl, rfl, by first | exact s1 | exact s1.later (Nat.le_refl _) hB2, by first | exact s2 | exact s2.later (Nat.le_refl _) hB5, I.later hB⟩
  case rest =>
    obtain ⟨B1, d1, B2, d2, rfl, rfl, s1, s2, J⟩ := hcut
    have hTl : (tagsT key t).length = t.cavs.length + 1 := length_tagsF _ _
    have hT32 : ∀ x ∈ tagsT key t, x.length = 32 := tagsF_len _ _ (length_startT _ _ _)
    have hTe : (tagsT key t)[t.cavs.length]? = some (endT key t) := tagsF_end _ _
    have hT0 : (tagsT key t)[0]? = some (startT key t.key t.id) := tagsF_head _ _
    unfold tagsV at s1 s2
    obtain ⟨b2, o2, rfl, hb0, hr0⟩ := s2.rd.get (i := 0) (by rw [flat_length byts 32 _ (fun x hx => tag_fit x (hT32 x hx)), hTl]; omega)
    clear hb0 hr0
    have hde := Lib.hid (fun w' hE h => jend_any key hk t ht (by omega) A c w' hE h)
    have hds := Lib.hid (fun w' hE => jstart_any key hk t.key ht.key t.id (by unfold capT at g1; omega) w' hE)
    have hdn := Lib.hid (fun w' hE => jnext_any key hk cv hp hcc w' hE)
    have hrn := Lib.hid (fun w' => rnext_any key hk cv hp (capB_le cv hcc) w')
    rw [HX.out] at hde
    rw [← HC.out] at hdn hrn
    have hc0 := Lib.hid (show X[0]? = some (.int .u64 t.key) by rw [← HX.out]; rfl)
    have hc1 := Lib.hid (show X[1]? = some (.string (bstr t.id)) by rw [← HX.out]; rfl)
    have hEl : (endT key t).length = 32 := length_endF _ _ (length_startT _ _ _)
    have hSl : (startT key t.key t.id).length = 32 := length_startT _ _ _
    have hNl : (nextT key cv).length = 32 := length_nextT _ _
    obtain ⟨i8, hi8⟩ : ∃ i, Tryz.prog.info? 5 = some i := by
      have h : (Tryz.prog.info? 5).isSome = true := by kernel_rfl
      exact Option.isSome_iff_exists.1 h
    have hqe := Lib.hid (fun W => run_eq_bytes 23 32 i8 Tryz.underlying23 hi8 (endT key t) (endT key t) hEl hEl W)
    have hqs := Lib.hid (fun W => run_eq_bytes 23 32 i8 Tryz.underlying23 hi8 (startT key t.key t.id) (startT key t.key t.id) hSl hSl W)
    have hqn := Lib.hid (fun W => run_eq_bytes 23 32 i8 Tryz.underlying23 hi8 (nextT key cv) (nextT key cv) hNl hNl W)
    have hze := Lib.hid (show (Tryz.prog.info? 23).map (·.size) = some (byts (endT key t)).length by rw [tag_fit _ hEl]; exact size_tag)
    have hzs := Lib.hid (show (Tryz.prog.info? 23).map (·.size) = some (byts (startT key t.key t.id)).length by rw [tag_fit _ hSl]; exact size_tag)
    have hre := fun (W : World) (h : Sl W (some ⟨b2, o2, none⟩) (d2 * 32) ((tagsT key t).flatMap byts)) => h.thing (k := 32) (fun x hx => tag_fit x (hT32 x hx)) t.cavs.length (endT key t) hTe
    have hrs := fun (W : World) (h : Sl W (some ⟨b2, o2, none⟩) (d2 * 32) ((tagsT key t).flatMap byts)) => h.thing (k := 32) (fun x hx => tag_fit x (hT32 x hx)) 0 (startT key t.key t.id) hT0
    have HRE := Lib.hid hre
    have HRS := Lib.hid hrs
    have I := J
    clear J hre hrs hTe hT0 hEl hSl hNl hcc hdt hrt
    generalize tagsT key t = TT at *
    generalize endT key t = E0 at *
    generalize startT key t.key t.id = S0 at *
    generalize nextT key cv = N0 at *
    obtain ⟨n, hn⟩ : ∃ n, n = t.cavs.length := ⟨_, rfl⟩
    rw [← hn] at HRE hTl ⊢
    have hn70 : n ≤ 70 := by omega
    have hsub : IntKind.i64.wrap (((n + 1 : Nat) : Int) - 1) = (n : Int) := by rw [show ((n + 1 : Nat) : Int) - 1 = (n : Int) by omega, IntKind.wrap_i64]; omega
    have hix := index_tag19 (some ⟨b2, o2, none⟩) b2 o2 (n + 1) d2 n rfl (by omega)
    have hix0 := index_tag19 (some ⟨b2, o2, none⟩) b2 o2 (n + 1) d2 0 rfl (by omega)
    have hsub2 : IntKind.i64.wrap (n : Int) = (n : Int) := by rw [IntKind.wrap_i64]; omega
    have HN := Lib.hid hn
    clear hn
    go_upto_region 6 with fail
    go_cut [79] (fun p wx => p = .bool false ∧ Sl wx B1 (d1 * 32) (TT.flatMap byts) ∧ Sl wx (some ⟨b2, o2, none⟩) (d2 * 32) (TT.flatMap byts) ∧ TellI w (byts key) X C t A c wx)
    case first =>
      refine wp_region_noPanic ?_
      refine wp_region_held_drew (S := fun w' => Below wc.heap.size wc w') (by kernel_rfl) ((Below.refl _ _).drew) (fun hHeld => ?_)
      have hB : Below wc.heap.size wc wc.drew := (Below.refl _ _).drew
      refine rt 0 42 hHeld ?_
      refine rt 1 43 hHeld ?_
      refine rt 2 44 hHeld ?_
      refine rt 3 45 hHeld ?_
      refine rt 4 46 hHeld ?_
      refine rt 5 47 hHeld ?_
      refine rt 6 48 hHeld ?_ (hy := by intro w hS; exact run_load_op 23 (.tmp 3) rfl _ 0 rfl (byts key) _ (row_range (I.key.later hS I.key.lt)) Tryz.underlying23 rfl hkz.out)
      refine rt 7 49 hHeld ?_ (hy := by intro w hS; exact run_load_op 27 (.tmp 4) rfl _ 0 rfl X _ (row_range (I.tok.later hS I.tok.lt)) Tryz.underlying27 rfl hzX.out)
      refine rt 9 51 hHeld ?_
      refine rt 10 52 hHeld ?_
      refine rt 11 53 hHeld ?_
      refine rt 12 54 hHeld ?_ (hy := by intro w hS; have h1 := hsub; have h2 := hsub2; go_simp; try with_reducible rfl)
      refine rt 13 55 hHeld ?_ (hy := by intro w hS; have h1 := hix; have h2 := hsub2; go_simp; try with_reducible rfl)
      refine rt 14 56 hHeld ?_ (hy := by intro w hS; exact run_load_op 23 (.tmp 55) rfl b2 (o2 + n * 32) rfl (byts E0) _ (HRE.out _ (s2.later (Nat.le_refl _) hS)) Tryz.underlying23 rfl hze.out)
      refine wpAnyH_ready (rs := [8]) (by kernel_rfl) (by simp) (AllReadyH.cons (o := _) rfl (fun K hK => ?_) AllReadyH.nil)
      go_simp
      refine (hde.out _ (I.env.next hB) (I.sl.later (Nat.le_refl _) hB)).mono ?_; rintro e wwc8 ⟨rfl, hqwc8⟩
      try go_wp2_with fail
      refine hK.out _ _ (hHeld.trans (hqwc8.mono hHeld.size)) (fun hHeld => ?_)
      clear hK K
      try (first | (rw [put_some]; dsimp only [List.set]) | rw [put_none])
      have hB := below_step hB hqwc8
      have hB8 : Below wwc8.heap.size wwc8 wwc8 := Below.refl _ _
      refine rt 15 57 hHeld ?_ (hy := by intro w hS; have h1 := hqe.out w; go_simp; try with_reducible rfl)
      refine rt 16 58 hHeld ?_
      refine rt 17 59 hHeld ?_
      refine rt 18 60 hHeld ?_ (hy := by intro w hS; exact run_load_op 23 (.tmp 3) rfl _ 0 rfl (byts key) _ (row_range (I.key.later hS I.key.lt)) Tryz.underlying23 rfl hkz.out)
      refine rt 19 61 hHeld ?_
      refine rt 20 62 hHeld ?_ (hy := by intro w hS; have h1 : w.cell? _ = some (.int .u64 t.key) := (by have := (I.tok.later hS I.tok.lt).cell 0; rw [this]; exact hc0.out); go_simp; try with_reducible rfl)
      refine rt 21 63 hHeld ?_
      refine rt 22 64 hHeld ?_ (hy := by intro w hS; have h1 : w.cell? _ = some (.string (bstr t.id)) := (by have := (I.tok.later hS I.tok.lt).cell 1; rw [this]; exact hc1.out); go_simp; try with_reducible rfl)
      refine rt 24 66 hHeld ?_
      refine rt 25 67 hHeld ?_ (hy := by intro w hS; have h1 := hix0; go_simp; try with_reducible rfl)
      refine rt 26 68 hHeld ?_ (hy := by intro w hS; exact run_load_op 23 (.tmp 67) rfl b2 (o2 + 0 * 32) rfl (byts S0) _ (HRS.out _ (s2.later (Nat.le_refl _) hS)) Tryz.underlying23 rfl hzs.out)
      refine wpAnyH_ready (rs := [23]) (by kernel_rfl) (by simp) (AllReadyH.cons (o := _) rfl (fun K hK => ?_) AllReadyH.nil)
      go_simp
      refine (hds.out _ (I.env.next hB)).mono ?_; rintro e wwc23 ⟨rfl, hqwc23⟩
      try go_wp2_with fail
      refine hK.out _ _ (hHeld.trans (hqwc23.mono hHeld.size)) (fun hHeld => ?_)
      clear hK K
      try (first | (rw [put_some]; dsimp only [List.set]) | rw [put_none])
      have hB := below_step hB hqwc23
      have hB8 := below_step hB8 hqwc23
      have hB23 : Below wwc23.heap.size wwc23 wwc23 := Below.refl _ _
      refine rt 27 69 hHeld ?_ (hy := by intro w hS; have h1 := hqs.out w; go_simp; try with_reducible rfl)
      refine rt 28 70 hHeld ?_
      refine rt 29 71 hHeld ?_
      refine rt 30 72 hHeld ?_ (hy := by intro w hS; exact run_load_op 23 (.tmp 3) rfl _ 0 rfl (byts key) _ (row_range (I.key.later hS I.key.lt)) Tryz.underlying23 rfl hkz.out)
      refine rt 31 73 hHeld ?_ (hy := by intro w hS; exact run_load_op 29 (.tmp 5) rfl _ 0 rfl C _ (row_range (I.cav.later hS I.cav.lt)) Tryz.underlying29 rfl hzC.out)
      refine rt 33 75 hHeld ?_ (hy := by intro w hS; exact run_load_op 23 (.tmp 3) rfl _ 0 rfl (byts key) _ (row_range (I.key.later hS I.key.lt)) Tryz.underlying23 rfl hkz.out)
      refine rt 34 76 hHeld ?_ (hy := by intro w hS; exact run_load_op 29 (.tmp 5) rfl _ 0 rfl C _ (row_range (I.cav.later hS I.cav.lt)) Tryz.underlying29 rfl hzC.out)
      refine wpAnyH_ready (rs := [32]) (by kernel_rfl) (by simp) (AllReadyH.cons (o := _) rfl (fun K hK => ?_) AllReadyH.nil)
      go_simp
      refine (hdn.out _ (I.env.next hB)).mono ?_; rintro e wwc32 ⟨rfl, hqwc32⟩
      try go_wp2_with fail
      refine hK.out _ _ (hHeld.trans (hqwc32.mono hHeld.size)) (fun hHeld => ?_)
      clear hK K
      try (first | (rw [put_some]; dsimp only [List.set]) | rw [put_none])
      have hB := below_step hB hqwc32
      have hB8 := below_step hB8 hqwc32
      have hB23 := below_step hB23 hqwc32
      have hB32 : Below wwc32.heap.size wwc32 wwc32 := Below.refl _ _
      refine wpAnyH_ready (rs := [35]) (by kernel_rfl) (by simp) (AllReadyH.cons (o := _) rfl (fun K hK => ?_) AllReadyH.nil)
      go_simp
      refine (hrn.out _).mono ?_; rintro e wwc35 ⟨rfl, hqwc35⟩
      try go_wp2_with fail
      refine hK.out _ _ (hHeld.trans (hqwc35.mono hHeld.size)) (fun hHeld => ?_)
      clear hK K
      try (first | (rw [put_some]; dsimp only [List.set]) | rw [put_none])
      have hB := below_step hB hqwc35
      have hB8 := below_step hB8 hqwc35
      have hB23 := below_step hB23 hqwc35
      have hB32 := below_step hB32 hqwc35
      have hB35 : Below wwc35.heap.size wwc35 wwc35 := Below.refl _ _
      refine rt 36 78 hHeld ?_ (hy := by intro w hS; have h1 := hqn.out w; go_simp; try with_reducible rfl)
      refine rt 37 79 hHeld ?_
      refine wpAnyH_done (by kernel_rfl) ?_ _
      refine NoPanic.normal ?_
      go_wp2_with fail
      go_meet
      case rel => exact ⟨rfl, s1.later (Nat.le_refl _) hB, s2.later (Nat.le_refl _) hB, I.later hB⟩
    case rest =>
      clear s1 s2 I
      obtain ⟨rfl, s1, s2, J⟩ := hcut
      have I := J
      have hcc' := cap_lone cv g3
      clear J hqe hqs hqn hze hzs HRE HRS hde hds hdn hrn hix0 hsub
      have hlen1 : 0 < (TT.flatMap byts).length := by rw [flat_length byts 32 _ (fun x hx => tag_fit x (hT32 x hx)), hTl]; omega
      obtain ⟨b1, o1, rfl, hb0, hr0⟩ := s1.rd.get (i := 0) hlen1
      clear hb0 hr0 hlen1
      go_wp2_with fail
      go_loopw [82] (fun i wr => ∃ k : Nat, k ≤ n + 1 ∧ i = .int .i64 k ∧ Below wc.heap.size wc wr) (fun i _ => n + 1 - (intOf i).toNat)
      case atStart => exact ⟨0, by omega, rfl, Below.refl _ _⟩
      case round =>
        obtain ⟨k, hkl, rfl, hb⟩ := hrel
        by_cases hlt : k < n + 1
        · obtain ⟨x, hx⟩ : ∃ x, TT[k]? = some x := ⟨_, List.getElem?_eq_getElem (by rw [hTl]; exact hlt)⟩
          have hxl := hT32 x (List.mem_of_getElem? hx)
          have hk1 := Lib.hid (fun (W : World) (h : Below wc.heap.size wc W) => (s1.later (Nat.le_refl _) h).thing (k := 32) (fun x hx => tag_fit x (hT32 x hx)) k x hx)
          have hk2 := Lib.hid (fun (W : World) (h : Below wc.heap.size wc W) => (s2.later (Nat.le_refl _) h).thing (k := 32) (fun x hx => tag_fit x (hT32 x hx)) k x hx)
          have hi1 := index_tag19 (some ⟨b1, o1, none⟩) b1 o1 (n + 1) d1 k rfl hlt
          have hi2 := index_tag19 (some ⟨b2, o2, none⟩) b2 o2 (n + 1) d2 k rfl hlt
          have hqx := Lib.hid (fun W => run_eq_bytes 23 32 i8 Tryz.underlying23 hi8 x x hxl hxl W)
          have hzx := Lib.hid (show (Tryz.prog.info? 23).map (·.size) = some (byts x).length by rw [tag_fit _ hxl]; exact size_tag)
          go_upto_region 11 with fail
          refine wp_region_noPanic ?_
          refine wp_region_held_drew (S := fun w' => Below wc.heap.size wc w') (by kernel_rfl) (hb.trans ((Below.refl _ _).drew.mono hb.size)) (fun hHeld => ?_)
          have hB : Below wr.heap.size wr wr.drew := (Below.refl _ _).drew
          refine rt 0 85 hHeld ?_
          refine rt 1 86 hHeld ?_
          refine rt 2 87 hHeld ?_ (hy := by intro w hS; have h1 := hi1; go_simp; try with_reducible rfl)
          refine rt 3 88 hHeld ?_ (hy := by intro w hS; exact run_load_op 23 (.tmp 87) rfl b1 (o1 + k * 32) rfl (byts x) _ (hk1.out _ hS) Tryz.underlying23 rfl hzx.out)
          refine rt 4 89 hHeld ?_
          refine rt 5 90 hHeld ?_
          refine rt 6 91 hHeld ?_ (hy := by intro w hS; have h1 := hi2; go_simp; try with_reducible rfl)
          refine rt 7 92 hHeld ?_ (hy := by intro w hS; exact run_load_op 23 (.tmp 91) rfl b2 (o2 + k * 32) rfl (byts x) _ (hk2.out _ hS) Tryz.underlying23 rfl hzx.out)
          refine rt 8 93 hHeld ?_ (hy := by intro w hS; have h1 := hqx.out w; go_simp; try with_reducible rfl)
          refine wpAnyH_done (by kernel_rfl) ?_ _
          refine NoPanic.normal ?_
          have hb2 : Below wc.heap.size wc wr.drew := hb.trans ((Below.refl _ _).drew.mono hb.size)
          go_wp2_with fail
          go_roundw
          case rel => exact ⟨k + 1, by omega, by go_num, hb2⟩
          case measure => simp [intOf]; omega
        · obtain rfl : k = n + 1 := by omega
          have I := I.later hb
          clear hlt
          clear hb s1 s2 hT32 hTl hn70 hix hi8
          have hda := Lib.hid (fun w' hE h => jadd_any t ht (by omega) cv hp hcc' A c w' hE h)
          have hra := Lib.hid (fun w' h => radd_any t ht cv hp (capB_le cv hcc') (by omega) A c w' h)
          have hdm := Lib.hid (fun w' hE => jmint_any key hk t.key ht.key t.id (by unfold capT at g1; omega) w' hE)
          have hrm := Lib.hid (fun w' => rmint_any key hk t.key ht.key t.id (by unfold capT at g1; omega) w')
          rw [HX.out, ← HC.out] at hda hra
          unfold GaveTok at hda hra hdm hrm
          have hUo : (addT t cv).Ok := addT_ok ht hp
          have hMo : (mintT key t.key t.id).Ok := mintT_ok ht.key
          have hUc : (addT t cv).cavs.length ≤ 9223372036854775807 := by have := addT_len t cv; omega
          have hMc : (mintT key t.key t.id).cavs.length ≤ 9223372036854775807 := by rw [mintT_len]; decide
          have hc0 := Lib.hid (show X[0]? = some (.int .u64 t.key) by rw [← HX.out]; rfl)
          have hc1 := Lib.hid (show X[1]? = some (.string (bstr t.id)) by rw [← HX.out]; rfl)
          generalize addT t cv = U at *
          generalize errAdd t cv = ea at *
          generalize mintT key t.key t.id = M at *
          generalize errMint t.id = em at *
          have KT := Lib.hid (row_range I.tok)
          have KC := Lib.hid (row_range I.cav)
          have hss1 := Lib.hid (fun B d B' d' w' h h' => rsame_any U U hUo hUo B d B' d' w' h h' hUc)
          have hss2 := Lib.hid (fun B d B' d' w' h h' => rsame_any M M hMo hMo B d B' d' w' h h' hMc)
          clear hUc hMc
          go_wp2_with (first
            | (with_reducible refine wpList_load_mid rfl 27 (.tmp 4) rfl (w.heap.size + 1) 0 rfl X _ KT.out Tryz.underlying27 rfl hzX.out ?_)
            | (with_reducible refine wpList_load_mid rfl 29 (.tmp 5) rfl (w.heap.size + 1 + 1) 0 rfl C _ KC.out Tryz.underlying29 rfl hzC.out ?_)
            | (go_at_call 14; refine (hda.out _ I.env I.sl).mono ?_; rintro e w20 ⟨B10, d10, rfl, t0, -, hq⟩; have I := I.later hq;  have hVl := length_tokV hUo B10 d10; have hzV := Lib.hid (show (Tryz.prog.info? 27).map (·.size) = some (tokV U B10 d10).toArray.size by rw [List.size_toArray, hVl]; exact size_tok); have h36 := Lib.hid (show 36 = (tokV U B10 d10).toArray.size by rw [List.size_toArray, hVl]); have hV1 := Lib.hid (show (tokV U B10 d10).toArray.all (·.oneCell') = true by rw [List.all_toArray, List.all_eq_true]; exact tokV_one _ _ _); clear hVl hq)
            | (have _t := h36; refine wpList_store_row rfl 27 (.tmp 10) (.tmp 99) rfl w20.heap.size (tokV U B10 d10).toArray rfl rfl 27 _ (heap_alloc_new w20 _) hzV.out (Eq.trans (by kernel_rfl) h36.out) hV1.out ?_; refine Hid.out ?_))
          refine Lib.hid ?_
          generalize hww : World.setRow _ _ _ = w21
          obtain ⟨q0, hq⟩ := row_new_set (xs := tokV U B10 d10) hww
          have I := I.later hq
          have t0 := t0.later (Nat.le_refl _) hq
          generalize w20.heap.size = b10 at *
          clear hww hq hzV h36 hV1 KT KC
          have KT := Lib.hid (row_range I.tok)
          have KC := Lib.hid (row_range I.cav)
          have KK := Lib.hid (row_range I.key)
          go_wp2_with (first
            | (with_reducible refine wpList_load_mid rfl 27 (.tmp 4) rfl (w.heap.size + 1) 0 rfl X _ KT.out Tryz.underlying27 rfl hzX.out ?_)
            | (with_reducible refine wpList_load_mid rfl 29 (.tmp 5) rfl (w.heap.size + 1 + 1) 0 rfl C _ KC.out Tryz.underlying29 rfl hzC.out ?_)
            | (go_at_call 15; refine (hra.out _ I.sl).mono ?_; rintro e w22 ⟨B11, d11, rfl, t1, -, hq⟩; have I := I.later hq; have t0 := t0.later (Nat.le_refl _) hq; have q0 := q0.later hq q0.lt;  have hVl := length_tokV hUo B11 d11; have hzV := Lib.hid (show (Tryz.prog.info? 27).map (·.size) = some (tokV U B11 d11).toArray.size by rw [List.size_toArray, hVl]; exact size_tok); have h36 := Lib.hid (show 36 = (tokV U B11 d11).toArray.size by rw [List.size_toArray, hVl]); have hV1 := Lib.hid (show (tokV U B11 d11).toArray.all (·.oneCell') = true by rw [List.all_toArray, List.all_eq_true]; exact tokV_one _ _ _); clear hVl hq)
            | (have _t := h36; refine wpList_store_row rfl 27 (.tmp 12) (.tmp 105) rfl w22.heap.size (tokV U B11 d11).toArray rfl rfl 27 _ (heap_alloc_new w22 _) hzV.out (Eq.trans (by kernel_rfl) h36.out) hV1.out ?_; refine Hid.out ?_))
          refine Lib.hid ?_
          generalize hww : World.setRow _ _ _ = w23
          obtain ⟨q1, hq⟩ := row_new_set (xs := tokV U B11 d11) hww
          have I := I.later hq
          have t0 := t0.later (Nat.le_refl _) hq
          have q0 := q0.later hq q0.lt
          have t1 := t1.later (Nat.le_refl _) hq
          generalize w22.heap.size = b11 at *
          clear hww hq hzV h36 hV1 KT KC
          have KT := Lib.hid (row_range I.tok)
          have KC := Lib.hid (row_range I.cav)
          have KK := Lib.hid (row_range I.key)
          have hk0 : w23.cell? ⟨w.heap.size + 1, 0, none⟩ = some (.int .u64 t.key) := by rw [I.tok.cell]; exact hc0.out
          have hk1 : w23.cell? ⟨w.heap.size + 1, 1, none⟩ = some (.string (bstr t.id)) := by rw [I.tok.cell]; exact hc1.out
          go_wp2_with (first
            | (with_reducible refine wpList_load_mid rfl 23 (.tmp 3) rfl w.heap.size 0 rfl (byts key) _ KK.out Tryz.underlying23 rfl hkz.out ?_)
            | (go_at_call 16; refine (hdm.out _ I.env).mono ?_; rintro e w24 ⟨B12, d12, rfl, t2, -, hq⟩; have I := I.later hq; have t0 := t0.later (Nat.le_refl _) hq; have q0 := q0.later hq q0.lt; have t1 := t1.later (Nat.le_refl _) hq; have q1 := q1.later hq q1.lt;  have hVl := length_tokV hMo B12 d12; have hzV := Lib.hid (show (Tryz.prog.info? 27).map (·.size) = some (tokV M B12 d12).toArray.size by rw [List.size_toArray, hVl]; exact size_tok); have h36 := Lib.hid (show 36 = (tokV M B12 d12).toArray.size by rw [List.size_toArray, hVl]); have hV1 := Lib.hid (show (tokV M B12 d12).toArray.all (·.oneCell') = true by rw [List.all_toArray, List.all_eq_true]; exact tokV_one _ _ _); clear hVl hq)
            | (have _t := h36; refine wpList_store_row rfl 27 (.tmp 14) (.tmp 114) rfl w24.heap.size (tokV M B12 d12).toArray rfl rfl 27 _ (heap_alloc_new w24 _) hzV.out (Eq.trans (by kernel_rfl) h36.out) hV1.out ?_; refine Hid.out ?_))
          refine Lib.hid ?_
          generalize hww : World.setRow _ _ _ = w25
          obtain ⟨q2, hq⟩ := row_new_set (xs := tokV M B12 d12) hww
          have I := I.later hq
          have t0 := t0.later (Nat.le_refl _) hq
          have q0 := q0.later hq q0.lt
          have t1 := t1.later (Nat.le_refl _) hq
          have q1 := q1.later hq q1.lt
          have t2 := t2.later (Nat.le_refl _) hq
          generalize w24.heap.size = b12 at *
          clear hww hq hzV h36 hV1 KT KK
          have KT := Lib.hid (row_range I.tok)
          have KC := Lib.hid (row_range I.cav)
          have KK := Lib.hid (row_range I.key)
          have hk0 : w25.cell? ⟨w.heap.size + 1, 0, none⟩ = some (.int .u64 t.key) := by rw [I.tok.cell]; exact hc0.out
          have hk1 : w25.cell? ⟨w.heap.size + 1, 1, none⟩ = some (.string (bstr t.id)) := by rw [I.tok.cell]; exact hc1.out
          go_wp2_with (first
            | (with_reducible refine wpList_load_mid rfl 23 (.tmp 3) rfl w.heap.size 0 rfl (byts key) _ KK.out Tryz.underlying23 rfl hkz.out ?_)
            | (go_at_call 17; refine (hrm.out _).mono ?_; rintro e w26 ⟨B13, d13, rfl, t3, -, hq⟩; have I := I.later hq; have t0 := t0.later (Nat.le_refl _) hq; have q0 := q0.later hq q0.lt; have t1 := t1.later (Nat.le_refl _) hq; have q1 := q1.later hq q1.lt; have t2 := t2.later (Nat.le_refl _) hq; have q2 := q2.later hq q2.lt;  have hVl := length_tokV hMo B13 d13; have hzV := Lib.hid (show (Tryz.prog.info? 27).map (·.size) = some (tokV M B13 d13).toArray.size by rw [List.size_toArray, hVl]; exact size_tok); have h36 := Lib.hid (show 36 = (tokV M B13 d13).toArray.size by rw [List.size_toArray, hVl]); have hV1 := Lib.hid (show (tokV M B13 d13).toArray.all (·.oneCell') = true by rw [List.all_toArray, List.all_eq_true]; exact tokV_one _ _ _); clear hVl hq)
            | (have _t := h36; refine wpList_store_row rfl 27 (.tmp 16) (.tmp 123) rfl w26.heap.size (tokV M B13 d13).toArray rfl rfl 27 _ (heap_alloc_new w26 _) hzV.out (Eq.trans (by kernel_rfl) h36.out) hV1.out ?_; refine Hid.out ?_))
          refine Lib.hid ?_
          generalize hww : World.setRow _ _ _ = w27
          obtain ⟨q3, hq⟩ := row_new_set (xs := tokV M B13 d13) hww
          have I := I.later hq
          have t0 := t0.later (Nat.le_refl _) hq
          have q0 := q0.later hq q0.lt
          have t1 := t1.later (Nat.le_refl _) hq
          have q1 := q1.later hq q1.lt
          have t2 := t2.later (Nat.le_refl _) hq
          have q2 := q2.later hq q2.lt
          have t3 := t3.later (Nat.le_refl _) hq
          generalize w26.heap.size = b13 at *
          clear hww hq hzV h36 hV1 KT KK
          have KT := Lib.hid (row_range I.tok)
          have KC := Lib.hid (row_range I.cav)
          have KK := Lib.hid (row_range I.key)
          have hzU10 := Lib.hid (show (Tryz.prog.info? 27).map (·.size) = some (tokV U B10 d10).length by rw [length_tokV hUo]; exact size_tok)
          have hzU11 := Lib.hid (show (Tryz.prog.info? 27).map (·.size) = some (tokV U B11 d11).length by rw [length_tokV hUo]; exact size_tok)
          have hzU12 := Lib.hid (show (Tryz.prog.info? 27).map (·.size) = some (tokV M B12 d12).length by rw [length_tokV hMo]; exact size_tok)
          have hzU13 := Lib.hid (show (Tryz.prog.info? 27).map (·.size) = some (tokV M B13 d13).length by rw [length_tokV hMo]; exact size_tok)
          have hz1 := Lib.hid (hss1.out B10 d10 B11 d11)
          have hz2 := Lib.hid (hss2.out B12 d12 B13 d13)
          clear hss1 hss2 hda hra hdm hrm hUo hMo
          have tok3 : True := trivial
          have tok4 : True := trivial
          go_wp2_with (first
            | ((with_reducible refine wpList_step fun K hK => ?_); refine step_load_mid (some 129) rfl (by rfl) 27 (.tmp 10) rfl b10 0 rfl (tokV U B10 d10) _ (row_range q0) Tryz.underlying27 rfl hzU10.out ?_; refine hK _ _ ?_; clear hK)
            | ((with_reducible refine wpList_step fun K hK => ?_); refine step_load_mid (some 130) rfl (by rfl) 27 (.tmp 12) rfl b11 0 rfl (tokV U B11 d11) _ (row_range q1) Tryz.underlying27 rfl hzU11.out ?_; refine hK _ _ ?_; clear hK)
            | (go_at_call 18; have _t := tok3; refine (hz1.out _ t0 t1).mono ?_; rintro e w40 ⟨rfl, hq⟩; have I := I.later hq; have t2 := t2.later (Nat.le_refl _) hq; have t3 := t3.later (Nat.le_refl _) hq; have q2 := q2.later hq q2.lt; have q3 := q3.later hq q3.lt; clear tok3 hq)
            | ((with_reducible refine wpList_step fun K hK => ?_); refine step_load_mid (some 139) rfl (by rfl) 27 (.tmp 14) rfl b12 0 rfl (tokV M B12 d12) _ (row_range q2) Tryz.underlying27 rfl hzU12.out ?_; refine hK _ _ ?_; clear hK)
            | ((with_reducible refine wpList_step fun K hK => ?_); refine step_load_mid (some 140) rfl (by rfl) 27 (.tmp 16) rfl b13 0 rfl (tokV M B13 d13) _ (row_range q3) Tryz.underlying27 rfl hzU13.out ?_; refine hK _ _ ?_; clear hK)
            | (go_at_call 18; have _t := tok4; refine (hz2.out _ t2 t3).mono ?_; rintro e w41 ⟨rfl, hq⟩; have I := I.later hq; clear tok4 hq))
          go_ret
          exact ⟨by first | rfl | simp, I.bel⟩
theorem jtells_walk (key : List UInt8) (hk : key.length = 32) (t : Tok) (ht : t.Ok) (htf : t.Fit) (A : Option Addr) (c : Nat) (cv : Cav) (hp : cv.party < 18446744073709551616) (hcf : (⟨0, [], [cv], false, List.replicate 32 0⟩ : Tok).Fit) (w : World) (hs : Sl w A (c * 5) (t.cavs.flatMap cavV)) (hE : EnvJ w) :
    Calls Tryz.prog 3 #[.agg (byts key).toArray, .agg (tokV t A c).toArray, .agg (cavV cv).toArray] w fun e w' => e = .returned (.bool true) ∧ Below w.heap.size w w' := by
  by_cases g1 : 10000 < capT t
  · exact jtells_g1 key hk t ht htf A c cv hp hcf w hs hE g1
  by_cases g2 : 70 < t.cavs.length
  · exact jtells_g2 key hk t ht htf A c cv hp hcf w hs hE g1 g2
  by_cases g3 : 10000 < capT (loneT cv)
  · exact jtells_g3 key hk t ht htf A c cv hp hcf w hs hE g1 g2 g3
  exact jtells_main key hk t ht htf A c cv hp hcf w hs hE g1 g2 g3
end Go.Proofs.YtimdhdimhboboaaGreatDoor
