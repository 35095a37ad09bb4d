/- LAYER 10: package packet: can, Check. -/
import Derived.Test.YthiebbhooigogaaCn
import Derived.Test.YthiebbhooigogaaPe
import Derived.Test.YthiebbhooigogaaGr
namespace Go.Proofs.Ythiebbhooigogaa
open Go Go.RowKit

theorem build_text (T : List UInt8) (w : World) : (Instr.build 51 #[(1, .string (bstr T))]).run Try.prog w = .ok (.agg (cavV ⟨false, T, 0, [], []⟩).toArray) w := by go_simp; rfl
theorem eq_cav (a b : Cav) (w : World) : (Op.equalIn 10000 51 (.agg (cavV a).toArray) (.agg (cavV b).toArray)).run Try.prog w = .ok (decide (a = b)) w := by
  obtain ⟨a1, a2, a3, a4, a5⟩ := a
  obtain ⟨b1, b2, b3, b4, b5⟩ := b
  show (Op.equalIn 10000 51 (.agg #[.bool a1, .string (bstr a2), .int .u64 a3, .string (bstr a4), .string (bstr a5)]) (.agg #[.bool b1, .string (bstr b2), .int .u64 b3, .string (bstr b4), .string (bstr b5)])).run Try.prog w = _
  go_simp
  simp only [bstr_toList]
  by_cases h1 : a1 = b1 <;> by_cases h2 : a2 = b2 <;> by_cases h3 : a3 = b3 <;> by_cases h4 : a4 = b4 <;> by_cases h5 : a5 = b5 <;> simp [h1, h2, h3, h4, h5]
  all_goals omega
set_option maxHeartbeats 1000000 in
theorem pcan_any (c : Cav) (w : World) :
    Calls Try.prog 42 #[.agg (cavV c).toArray] w fun e w' => e = .returned (.bool (canC c)) ∧ Below w.heap.size w w' := by
  obtain ⟨third, text, party, id, vault⟩ := c
  have h1 := size_bstr text
  have h2 := size_bstr id
  have h3 := size_bstr vault
  have e1 := bstr_toList text
  have e2 := bstr_toList id
  have e3 := bstr_toList vault
  unfold cavV
  cases third
  · go_enter Try.func42, Try.ntmps42
    go_wp2
    all_goals go_ret
    all_goals refine ⟨?_, (Below.refl _ _).alloc (Nat.le_refl _) _⟩
    all_goals simp_all [canC]
    all_goals first | (intro; omega) | (have hq : text.length ≤ 512 := (by omega); cases vault <;> simp [hq]) | (have hq : id.length ≤ 1024 := (by omega); rw [decide_eq_true hq, Bool.true_and]; exact decide_eq_decide.2 (by omega)) | omega
  · go_enter Try.func42, Try.ntmps42
    go_wp2
    all_goals go_ret
    all_goals refine ⟨?_, (Below.refl _ _).alloc (Nat.le_refl _) _⟩
    all_goals simp_all [canC]
    all_goals first | (intro; omega) | (have hq : text.length ≤ 512 := (by omega); cases vault <;> simp [hq]) | (have hq : id.length ≤ 1024 := (by omega); rw [decide_eq_true hq, Bool.true_and]; exact decide_eq_decide.2 (by omega))
theorem pnot_any (c : Cav) (w : World) :
    Calls Try.prog 41 #[.agg (cavV c).toArray] w fun e w' => e = .returned (.bool (!canC c)) ∧ Below w.heap.size w w' := by
  have hcan := Lib.hid (pcan_any c)
  have hb1 := (Below.refl w.heap.size w).alloc (Nat.le_refl _) (.cells (cavV c).toArray 51)
  unfold cavV at *
  generalize canC c = r at *
  go_enter Try.func41, Try.ntmps41
  go_wp2_with (go_at_call 42; refine (hcan.out _).mono ?_; rintro e w6 ⟨rfl, hb6⟩; have hbw6 := hb1.trans (hb6.mono hb1.size))
  go_ret
  exact ⟨rfl, hbw6⟩
set_option maxRecDepth 20000 in
set_option maxHeartbeats 2000000 in
theorem pindex_any (A : Option Addr) (c : Nat) (cs : List Cav) (w : World) (hs : Sl w A (c * 5) (cs.flatMap cavV)) (hm : cs.length ≤ 1000000) :
    Calls Try.prog 58 #[.slice A cs.length c, .func (.func 41) #[] #[]] w fun e w' => ∃ r : Int, e = .returned (.int .i64 r) ∧ (r = -1 ∧ cs.all canC = true ∨ 0 ≤ r ∧ cs.all canC = false) ∧ Below w.heap.size w w' := by
  have h2' : (cs.length : Int) ≤ 1000000 := by omega
  go_enter Try.func58, Try.ntmps58
  go_wp2_with fail
  go_loopw [8] (fun i wr => ∃ k : Nat, k ≤ cs.length ∧ i = .int .i64 k ∧ (cs.take k).all canC = true ∧ Below w.heap.size w wr) (fun i _ => cs.length - (intOf i).toNat)
  case atStart => exact ⟨0, by omega, rfl, rfl, Below.refl _ _⟩
  case round =>
    obtain ⟨k, hk, rfl, hall, hb⟩ := hrel
    by_cases hlt : k < cs.length
    · obtain ⟨cv, hcv⟩ : ∃ cv, cs[k]? = some cv := ⟨_, List.getElem?_eq_getElem hlt⟩
      obtain ⟨b, o, rfl, hb0, hr0⟩ := hs.rd.get (i := 0) (by rw [length_cavsV]; omega)
      clear hb0 hr0
      have hix := index_cav (some ⟨b, o, none⟩) b o cs.length c k rfl hlt
      have hrg := (hs.later (Nat.le_refl _) hb).thing (k := 5) (fun _ _ => rfl) k cv hcv
      have HA := Lib.hid (all_take hall hcv)
      have HB := Lib.hid (all_bad hcv)
      have hcan := Lib.hid (pnot_any cv)
      have hzf := Lib.hid (show (Try.prog.info? 51).map (·.size) = some (cavV cv).length from size_cav)
      obtain ⟨V2, hV2q⟩ : ∃ V, V = cavV cv := ⟨_, rfl⟩
      rw [← hV2q] at hrg hcan hzf
      clear hV2q hcv hall
      generalize canC cv = r at *
      go_wp2_with (first
        | (with_reducible refine wpList_load_mid rfl 51 (.tmp 14) rfl b (o + k * 5) rfl V2 _ hrg Try.underlying51 rfl hzf.out ?_)
        | (go_at_call 41; refine (hcan.out _).mono ?_; rintro e w6 ⟨rfl, hb6⟩; have hbw6 := hb.trans (hb6.mono hb.size); cases r))
      · go_ret
        exact ⟨k, rfl, .inr ⟨by omega, HB.out (by first | rfl | trivial)⟩, hbw6⟩
      · go_roundw
        case rel => exact ⟨k + 1, by omega, by go_num, HA.out, hbw6⟩
        case measure => simp [intOf]; omega
    · obtain rfl : k = cs.length := by omega
      rw [List.take_length] at hall
      clear hlt hk hs
      generalize cs.length = n at *
      go_wp2
      go_ret
      exact ⟨-1, rfl, .inl ⟨rfl, hall⟩, hb⟩
theorem phas_any (A : Option Addr) (c : Nat) (cs : List Cav) (w : World) (hs : Sl w A (c * 5) (cs.flatMap cavV)) (hm : cs.length ≤ 1000000) :
    Calls Try.prog 43 #[.slice A cs.length c, .func (.func 41) #[] #[]] w fun e w' => e = .returned (.bool (!cs.all canC)) ∧ Below w.heap.size w w' := by
  have hi := Lib.hid (pindex_any A c cs w hs hm)
  generalize cs.all canC = r at *
  generalize cs.length = n at *
  clear hs
  go_enter Try.func43, Try.ntmps43
  go_wp2_with (go_at_call 58; refine hi.out.mono ?_; rintro e w6 ⟨x, rfl, hx, hb6⟩)
  · rcases hx with ⟨rfl, rfl⟩ | ⟨h1, rfl⟩
    all_goals go_wp2
    all_goals go_ret
    all_goals first | exact ⟨rfl, hb6⟩ | (exfalso; omega) | trace_state
set_option maxRecDepth 20000 in
set_option maxHeartbeats 2000000 in
theorem pcheck_any (t : Tok) (_ht : t.Ok) (_hf : t.Fit) (A : Option Addr) (c : Nat) (w : World) (hs : Sl w A (c * 5) (t.cavs.flatMap cavV)) :
    Calls Try.prog 25 #[.agg (tokV t A c).toArray] w fun e w' => e = .returned (.int .i64 (errT t)) ∧ Below w.heap.size w w' := by
  have hb1 : Below w.heap.size w (w.alloc (.cells (tokV t A c).toArray 27)) := (Below.refl _ _).alloc (Nat.le_refl _) _
  have hr : Row (w.alloc (.cells (tokV t A c).toArray 27)) w.heap.size 27 (tokV t A c) := Row.new w 27 _
  have hg := tokV_get t A c
  obtain ⟨V, hV⟩ : ∃ V, V = tokV t A c := ⟨_, rfl⟩
  rw [← hV] at hb1 hr hg ⊢
  clear hV
  have hc1 : (w.alloc (.cells V.toArray 27)).cell? ⟨w.heap.size, 1, none⟩ = some (.string (bstr t.id)) := by rw [hr.cell]; exact hg.2.1
  have hc2 : (w.alloc (.cells V.toArray 27)).cell? ⟨w.heap.size, 2, none⟩ = some (.slice A t.cavs.length c) := by rw [hr.cell]; exact hg.2.2.1
  have hz := size_bstr t.id
  clear hg hr
  obtain ⟨E, hE⟩ : ∃ E, E = errT t := ⟨_, rfl⟩
  rw [← hE]
  unfold errT at hE
  replace hE := Lib.hid hE
  by_cases h1 : 1024 < t.id.length
  · have HE := Lib.hid (check_id h1)
    have h1' : (1024 : Int) < (t.id.length : Int) := by omega
    clear hs h1
    go_enter Try.func25, Try.ntmps25
    go_wp2
    go_ret
    exact ⟨by rw [hE.out, HE.out]; rfl, hb1⟩
  by_cases h2 : 64 < t.cavs.length
  · have HE := Lib.hid (check_many h2)
    have h1' : (t.id.length : Int) ≤ 1024 := by omega
    have h2' : (64 : Int) < (t.cavs.length : Int) := by omega
    clear hs h1 h2
    go_enter Try.func25, Try.ntmps25
    go_wp2
    go_ret
    exact ⟨by rw [hE.out, HE.out]; rfl, hb1⟩
  have HE := Lib.hid (check_cavs (t := t) (by omega) (by omega))
  have h1' : (t.id.length : Int) ≤ 1024 := by omega
  have h2' : (t.cavs.length : Int) ≤ 64 := by omega
  have hhas := Lib.hid (fun w1 h => phas_any A c t.cavs w1 h (by omega))
  generalize t.cavs.all canC = r at *
  have hs1 := hs.later (Nat.le_refl _) hb1
  clear h1 h2 hs
  go_enter Try.func25, Try.ntmps25
  go_wp2_with (go_at_call 43; refine (hhas.out _ hs1).mono ?_; rintro e w6 ⟨rfl, hb6⟩; have hbw6 := hb1.trans (hb6.mono hb1.size); cases r)
  all_goals go_ret
  all_goals exact ⟨by rw [hE.out, HE.out]; rfl, hbw6⟩
end Go.Proofs.Ythiebbhooigogaa
