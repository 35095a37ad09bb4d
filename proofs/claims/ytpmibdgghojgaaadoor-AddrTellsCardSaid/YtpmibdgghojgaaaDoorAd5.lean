/- LAYER 12: package addr: joined. -/
import Derived.Test.YtpmibdgghojgaaaDoorAd4
import Derived.Lib.Join
namespace Go.Proofs.YtpmibdgghojgaaaDoor
set_option maxRecDepth 100000
open Go Go.RowKit

theorem index_hws (A : Option Addr) (b o n c k : Nat) (hA : A = some ⟨b, o, none⟩) (hk : k < n) (w : World) :
    (Instr.indexAt 46 (.slice A n c) (.int .i64 k)).run Tryd.prog w = .ok (.pointer (some ⟨b, o + k, none⟩)) w := by
  subst hA
  have h : (k : Int) < (n : Int) := by omega
  go_simp
theorem hw_cell {w : World} {b o c : Nat} {l : List Nat} (h : Sl w (some ⟨b, o, none⟩) c (hwV l)) (k : Nat) (hk : k < l.length) : w.cell? ⟨b, o + k, none⟩ = some (.int .u16 (l.getD k 0 : Nat)) := by
  obtain ⟨b', o', hA, _, hc⟩ := h.rd.get (i := k) (by rw [length_hwV]; exact hk)
  cases hA
  rw [hc, get_hwV _ _ hk]
/-- What strings.Join gives, as the pieces with a sign between. -/
theorem join_glue (ss : List (List UInt8)) (x : UInt8) : Lib.join ss [x] = glueL x ss := by
  induction ss with
  | nil => rfl
  | cons s ss ih =>
    cases ss with
    | nil => rw [Lib.join_one]; rfl
    | cons t ss =>
      rw [glueL_cons x s (t :: ss) (by simp), ← ih]
      rw [Lib.join_cons, Lib.join_cons]
      simp [Lib.joinTail]
theorem glue_len (x : UInt8) (ss : List (List UInt8)) : (glueL x ss).length ≤ sumS ss := by
  induction ss with
  | nil => exact Nat.le_refl _
  | cons s ss ih =>
    cases ss with
    | nil => show s.length ≤ _; unfold sumS; simp
    | cons t ss =>
      rw [glueL_cons x s (t :: ss) (by simp), List.length_append, List.length_cons]
      unfold sumS at ih ⊢
      rw [List.map_cons, List.sum_cons]
      omega
theorem sumS_num (b : Nat) (hb : 2 ≤ b) (l : List Nat) (hm : ∀ n ∈ l, n < b ^ (15 + 1)) : sumS (l.map (numL b)) ≤ 17 * l.length := by
  induction l with
  | nil => exact Nat.le_refl _
  | cons n l ih =>
    have h1 := numL_len b hb 15 n (hm n (List.mem_cons_self ..))
    have h2 := ih (fun m h => hm m (List.mem_cons_of_mem _ h))
    unfold sumS at h2 ⊢
    rw [List.map_cons, List.map_cons, List.sum_cons, List.length_cons]
    omega
theorem join_any (ss : List (List UInt8)) (x : UInt8) (A : Option Addr) (c : Nat) (w : World) (hs : Sl w A c (strsV ss)) (hn : ss.length ≤ 1000) (hl : sumS ss ≤ 100000) :
    Calls Tryd.prog 30 #[.slice A ss.length c, .string (bstr [x])] w fun e w' => e = .returned (.string (bstr (glueL x ss))) ∧ Below w.heap.size w w' := by
  by_cases h0 : ss = []
  · subst h0
    refine (Tryd.strings_Join_none A c (bstr [x]) w).mono ?_
    rintro e w' ⟨rfl, rfl⟩
    exact ⟨rfl, Below.refl _ _⟩
  · have hp : 0 < ss.length := List.length_pos_iff.2 h0
    obtain ⟨bk, o, rfl, hbk, -⟩ := hs.rd.get (i := 0) (by rw [length_strsV]; exact hp)
    have hj := Tryd.strings_Join bk o c (ss.map bstr) (bstr [x]) w (fun j y hy => by
      obtain ⟨b', o', hA, _, hc⟩ := hs.rd.get (i := j) (by rw [length_strsV]; have := (List.getElem?_eq_some_iff.1 hy).1; simpa using this)
      cases hA
      rw [hc]
      unfold strsV
      rw [List.getElem?_map] at hy ⊢
      cases hq : ss[j]? with
      | none => rw [hq] at hy; cases hy
      | some q => rw [hq] at hy; cases hy; rfl) hbk (by rw [List.length_map]; omega) (by rw [List.length_map]; have := hs.room; rw [length_strsV] at this; omega) (by
        rw [show (ss.map bstr).map (·.data.toList) = ss by rw [List.map_map]; exact List.map_id _, show (bstr [x]).data.toList = [x] from rfl, join_glue]
        have := glue_len x ss
        omega)
    rw [show (ss.map bstr).map (·.data.toList) = ss by rw [List.map_map]; exact List.map_id _, show (bstr [x]).data.toList = [x] from rfl, join_glue, List.length_map] at hj
    exact hj
def fmtB (b : Nat) : Prop := ∀ (u : Nat) (w : World), u < 65536 → Env w → Calls Tryd.prog 29 #[.int .u64 u, .int .i64 b] w fun e w' => e = .returned (.string (bstr (numL b u))) ∧ Below w.heap.size w w'
set_option maxHeartbeats 2000000 in
theorem ajoined_at (b : Nat) (hB : fmtB b) (h2 : 2 ≤ b) (l : List Nat) (h8 : l.length ≤ 8) (hm : ∀ n ∈ l, n < 65536) (x : UInt8) (A : Option Addr) (c : Nat) (w : World) (hE : Env w) (hs : Sl w A c (hwV l)) :
    Calls Tryd.prog 19 #[.slice A l.length c, .string (bstr [x]), .int .i64 b] w fun e w' => e = .returned (.string (bstr (glueL x (l.map (numL b))))) ∧ Below w.heap.size w w' := by
  obtain ⟨i0, hi, hz0, hz1, hz2⟩ := info_parts infoStr
  have hown0 : w.ownsRow w.heap.size 9 1 (.slice none 0 0) 0 (strsV []) := World.ownsRow_nil w _ _ _
  have hB := Lib.hid hB
  go_enter Tryd.func19, Tryd.ntmps19
  go_wp2
  go_loopw [7, 12] (fun v i wr => ∃ k : Nat, k ≤ l.length ∧ i = .int .i64 k ∧ wr.ownsRow w.heap.size 9 1 v k (strsV ((l.take k).map (numL b))) ∧ Below w.heap.size w wr) (fun _ i _ => l.length - (intOf i).toNat)
  case atStart => exact ⟨0, by omega, rfl, hown0, Below.refl _ _⟩
  case round =>
    clear hown0
    obtain ⟨k, hk, rfl, hown, hb⟩ := hrel
    by_cases hlt : k < l.length
    · have hlt' : (k : Int) < (l.length : Int) := by omega
      obtain ⟨b', o, hA, -, -⟩ := hs.rd.get (i := k) (by rw [length_hwV]; exact hlt)
      have hix := index_hws A b' o l.length c k hA hlt
      have hce := hw_cell (by rw [hA] at hs; exact hs.later (Nat.le_refl _) hb) k hlt
      have hx : l.getD k 0 < 65536 := hm _ (by rw [List.getD_eq_getElem?_getD, List.getElem?_eq_getElem hlt]; exact List.getElem_mem hlt)
      have HS := Lib.hid (show (l.take (k + 1)).map (numL b) = (l.take k).map (numL b) ++ [numL b (l.getD k 0)] by rw [List.take_add_one, List.map_append, List.getElem?_eq_getElem hlt, List.getD_eq_getElem?_getD, List.getElem?_eq_getElem hlt]; rfl)
      generalize l.getD k 0 = n at *
      have hcall := Lib.hid (hB.out n wr hx (hE.next hb))
      have hw1 : IntKind.u64.wrap (n : Int) = (n : Int) := by rw [IntKind.wrap_u64]; omega
      have n1 : k + 1 ≤ maxLen := by unfold maxLen; omega
      have n2 : (k + 1) * 16 ≤ 140737488355328 := by omega
      clear hA
      go_wp2_with (first
        | (go_at_call 29; refine hcall.out.mono ?_; rintro e w2 ⟨rfl, hb2⟩; have hown2 := own_later hown hb2 (Nat.le_refl _); have hb3 := hb.trans (hb2.mono hb.size); clear hcall; generalize numL b n = p at *)
        | (at_builtin; have hslp : Sl (w2.alloc (.cells #[.string (bstr p)] 9)) (some ⟨w2.heap.size, 0, none⟩) 1 (strsV [p]) := sl_made (strsV [p]) rfl 1 rfl; have howna := hown2.alloc (.cells #[.string (bstr p)] 9); have hbe := hb3.alloc hb3.size (.cells #[.string (bstr p)] 9); refine wpList_append_sl rfl (.tmp 16) (.tmp 21) 54 rfl w.heap.size 9 i0 _ 16 Tryd.underlying54 hi hz0 hz1 hz2 rfl _ k _ rfl howna (some ⟨w2.heap.size, 0, none⟩) 1 1 (strsV [p]) rfl rfl hslp (strsV_one _) n1 n2 hbe.size ?_; intro v3 w3 hown3 hg3; have hb4 := hbe.grown hg3 hbe.size (fun j hj => (howna.lt j hj).1); rw [← strsV_append, ← HS.out] at hown3))
      go_roundw
      case rel => exact ⟨k + 1, by omega, by go_num, hown3, hb4⟩
      case measure => simp [intOf]; omega
    · obtain rfl : k = l.length := by omega
      rw [List.take_length] at hown
      obtain ⟨A2, c2, rfl, hl2, hsl2⟩ := Sl.of_own hown
      have hjn := Lib.hid (join_any (l.map (numL b)) x A2 c2 wr hsl2 (by rw [List.length_map]; omega) (by have := sumS_num b h2 l (fun n hn => Nat.lt_of_lt_of_le (hm n hn) (by calc 65536 = 2 ^ 16 := rfl
                                                                                                                                                                                  _ ≤ b ^ 16 := Nat.pow_le_pow_left h2 16)); omega))
      rw [List.length_map] at hjn
      generalize hG : glueL x (l.map (numL b)) = G at *
      have HG := Lib.hid hG
      clear hG
      clear hown hl2 hsl2
      go_wp2_with (go_at_call 30; refine hjn.out.mono ?_; rintro e w5 ⟨rfl, hb5⟩)
      go_ret
      exact ⟨by rw [HG.out]; rfl, hb.trans (hb5.mono hb.size)⟩
theorem ajoined10 (l : List Nat) (h8 : l.length ≤ 8) (hm : ∀ n ∈ l, n < 65536) (x : UInt8) (A : Option Addr) (n c : Nat) (hn : n = l.length) (w : World) (hE : Env w) (hs : Sl w A c (hwV l)) :
    Calls Tryd.prog 19 #[.slice A n c, .string (bstr [x]), .int .i64 10] w fun e w' => e = .returned (.string (bstr (glueL x (l.map (numL 10))))) ∧ Below w.heap.size w w' := by
  subst hn
  exact ajoined_at 10 (fun u w hu hE => fmt10_any u (by omega) w hE) (by omega) l h8 hm x A c w hE hs
theorem ajoined16 (l : List Nat) (h8 : l.length ≤ 8) (hm : ∀ n ∈ l, n < 65536) (x : UInt8) (A : Option Addr) (n c : Nat) (hn : n = l.length) (w : World) (hE : Env w) (hs : Sl w A c (hwV l)) :
    Calls Tryd.prog 19 #[.slice A n c, .string (bstr [x]), .int .i64 16] w fun e w' => e = .returned (.string (bstr (glueL x (l.map (numL 16))))) ∧ Below w.heap.size w w' := by
  subst hn
  exact ajoined_at 16 (fun u w hu hE => fmt16_any u hu w hE) (by omega) l h8 hm x A c w hE hs
end Go.Proofs.YtpmibdgghojgaaaDoor
