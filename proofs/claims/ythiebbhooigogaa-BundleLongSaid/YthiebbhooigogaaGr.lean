/- LAYER 10: the law's Great. -/
import Derived.Test.YthiebbhooigogaaCn
namespace Go.Proofs.Ythiebbhooigogaa
open Go Go.RowKit

def capC (c : Cav) : Nat := c.text.length + c.id.length + c.vault.length + 1
/-- How much there is of a token. -/
def capT (t : Tok) : Nat := t.id.length + (t.cavs.map capC).sum
structure Tok.Fit (t : Tok) : Prop where
  id : t.id.length ≤ 140737488351232
  many : t.cavs.length ≤ 9223372036854775807
  cav : ∀ c ∈ t.cavs, c.text.length ≤ 140737488351232 ∧ c.id.length ≤ 140737488351232 ∧ c.vault.length ≤ 140737488351232
theorem capT_succ (cs : List Cav) (k : Nat) (c : Cav) (h : cs[k]? = some c) : ((cs.take (k + 1)).map capC).sum = ((cs.take k).map capC).sum + capC c := by
  rw [List.take_add_one, List.map_append, List.sum_append, h]; simp
theorem capT_le (cs : List Cav) (k : Nat) : ((cs.take k).map capC).sum ≤ (cs.map capC).sum := by
  have e : cs = cs.take k ++ cs.drop k := (List.take_append_drop k cs).symm
  conv => rhs; rw [e]
  rw [List.map_append, List.sum_append]; omega
theorem capT_len : ∀ cs : List Cav, cs.length ≤ (cs.map capC).sum
  | [] => Nat.le_refl _
  | c :: cs => by
    have := capT_len cs
    have h : 1 ≤ capC c := by unfold capC; omega
    rw [List.map_cons, List.sum_cons, List.length_cons]; omega
set_option maxRecDepth 20000 in
set_option maxHeartbeats 2000000 in
theorem rgreatT_any (t : Tok) (hf : t.Fit) (A : Option Addr) (c : Nat) (w : World) (hs : Sl w A (c * 5) (t.cavs.flatMap cavV)) :
    Calls Try.prog 18 #[.agg (tokV t A c).toArray] w fun e w' => e = .returned (.int .i64 (if 10000 < capT t then 1 else 0)) ∧ Below w.heap.size w w' := by
  have hb1 : Below w.heap.size w (w.alloc (.cells (tokV t A c).toArray 27)) := (Below.refl _ _).alloc (Nat.le_refl _) _
  have hr : Row (w.alloc (.cells (tokV t A c).toArray 27)) w.heap.size 27 (tokV t A c) := Row.new w 27 _
  have hg := tokV_get t A c
  obtain ⟨V, hV⟩ : ∃ V, V = tokV t A c := ⟨_, rfl⟩
  rw [← hV] at hb1 hr hg ⊢
  clear hV
  have hc1 : (w.alloc (.cells V.toArray 27)).cell? ⟨w.heap.size, 1, none⟩ = some (.string (bstr t.id)) := by rw [hr.cell]; exact hg.2.1
  have hc2 : (w.alloc (.cells V.toArray 27)).cell? ⟨w.heap.size, 2, none⟩ = some (.slice A t.cavs.length c) := by rw [hr.cell]; exact hg.2.2.1
  have hz := size_bstr t.id
  obtain ⟨R, hR⟩ : ∃ R : Int, R = if 10000 < capT t then 1 else 0 := ⟨_, rfl⟩
  rw [← hR]
  have HR := Lib.hid hR
  clear hR
  have hT := Lib.hid (show capT t = t.id.length + (t.cavs.map capC).sum from rfl)
  obtain ⟨cs, hcs⟩ : ∃ cs, cs = t.cavs := ⟨_, rfl⟩
  have hid := hf.id
  have hmany := hf.many
  have hcv := hf.cav
  rw [← hcs] at hs hT hc2 hmany hcv
  have hid2 : (t.id.length : Int) ≤ 140737488351232 := by omega
  clear hg hr hcs hf
  generalize t.id.length = n0 at *
  go_enter Try.func18, Try.ntmps18
  go_wp2_with fail
  generalize w.alloc (.cells V.toArray 27) = w1 at *
  clear hc1 hc2
  go_loopw [3, 12] (fun v i wr => ∃ k : Nat, k ≤ cs.length ∧ i = .int .i64 k ∧ v = .int .i64 ((n0 + ((cs.take k).map capC).sum : Nat) : Int) ∧ (k = 0 ∨ n0 + ((cs.take k).map capC).sum ≤ 10000) ∧ Below w.heap.size w wr) (fun _ i _ => cs.length - (intOf i).toNat)
  case atStart => exact ⟨0, by omega, rfl, by simp, .inl rfl, hb1⟩
  case round =>
    clear hb1
    obtain ⟨k, hk, rfl, rfl, hsm, hb⟩ := hrel
    by_cases hlt : k < cs.length
    · obtain ⟨cv, hcq⟩ : ∃ cv, cs[k]? = some cv := ⟨_, List.getElem?_eq_getElem hlt⟩
      obtain ⟨b, o, rfl, hb0, hr0⟩ := hs.rd.get (i := 0) (by rw [length_cavsV]; omega)
      clear hb0 hr0
      have hix := index_cav (some ⟨b, o, none⟩) b o cs.length c k rfl hlt
      have hrg := (hs.later (Nat.le_refl _) hb).thing (k := 5) (fun _ _ => rfl) k cv hcq
      have hsu := capT_succ cs k cv hcq
      have hle := capT_le cs (k + 1)
      have hbd := hcv cv (List.mem_of_getElem? hcq)
      have hsm2 : n0 + ((cs.take k).map capC).sum ≤ 140737488361232 := by
        rcases hsm with rfl | h
        · simp; omega
        · omega
      have hzf := Lib.hid (show (Try.prog.info? 51).map (·.size) = some (cavV cv).length from size_cav)
      have hzf2 := Lib.hid (show (Try.prog.info? 51).map (·.size) = some (cavV cv).toArray.size from size_cav)
      have hof := Lib.hid (show (cavV cv).toArray.all (·.oneCell') = true from all_one (fun v hv => cavV_one [cv] v (by simpa using hv)))
      obtain ⟨V2, hV2q⟩ : ∃ V, V = cavV cv := ⟨_, rfl⟩
      rw [← hV2q] at hrg hzf hzf2 hof
      have hV2 := Lib.hid (show (5 : Nat) = V2.toArray.size by rw [hV2q]; rfl)
      have HV2 := Lib.hid hV2q
      have z1 := size_bstr cv.text
      have z2 := size_bstr cv.id
      have z3 := size_bstr cv.vault
      rw [show capC cv = cv.text.length + cv.id.length + cv.vault.length + 1 from rfl] at hsu
      obtain ⟨hbd1, hbd2, hbd3⟩ := hbd
      generalize ((cs.take k).map capC).sum = s0 at *
      obtain ⟨s1, hs1q⟩ : ∃ s1, s1 = ((cs.take (k + 1)).map capC).sum := ⟨_, rfl⟩
      rw [← hs1q] at hsu hle
      have HS1Q := Lib.hid hs1q
      clear hs1q
      clear hV2q hcq hsm hcv
      go_wp2_with (first
        | (with_reducible refine wpList_load_mid rfl 51 (.tmp 14) rfl b (o + k * 5) rfl V2 _ hrg Try.underlying51 rfl hzf.out ?_)
        | (with_reducible refine wpList_store_row rfl 51 (.tmp 5) (.tmp 15) rfl wr.heap.size V2.toArray rfl rfl 51 _ (heap_alloc_new wr _) hzf2.out (Eq.trans (by kernel_rfl) hV2.out) hof.out ?_; refine Hid.out ?_))
      refine Lib.hid ?_
      generalize hw5 : World.setRow _ _ _ = w5
      obtain ⟨r5, hb5⟩ := row_new_set (xs := V2) hw5
      rw [HV2.out] at r5
      have d1 : w5.cell? ⟨wr.heap.size, 1, none⟩ = some (.string (bstr cv.text)) := by rw [r5.cell]; rfl
      have d3 : w5.cell? ⟨wr.heap.size, 3, none⟩ = some (.string (bstr cv.id)) := by rw [r5.cell]; rfl
      have d4 : w5.cell? ⟨wr.heap.size, 4, none⟩ = some (.string (bstr cv.vault)) := by rw [r5.cell]; rfl
      have hbw5 := hb.trans (hb5.mono hb.size)
      have HS1 := Lib.hid hsu
      clear hw5 r5 hb5 hrg hix
      generalize cv.text.length = q1 at *
      generalize cv.id.length = q2 at *
      generalize cv.vault.length = q3 at *
      obtain ⟨N, hN⟩ : ∃ N, N = n0 + s1 := ⟨_, rfl⟩
      have hsum : (n0 : Int) + (s0 : Int) + ((q1 : Int) + (q2 : Int) + (q3 : Int) + 1) = (N : Int) := by rw [hN, hsu]; omega
      have HN := Lib.hid hN
      have hNb : (N : Int) ≤ 9223372036854775807 := by omega
      have hq1 : (q1 : Int) ≤ 140737488351232 := by omega
      have hq2 : (q2 : Int) ≤ 140737488351232 := by omega
      have hq3 : (q3 : Int) ≤ 140737488351232 := by omega
      have hs0 : (n0 : Int) + (s0 : Int) ≤ 140737488361232 := by omega
      by_cases hbig : 10000 < N
      · have hbi : (10000 : Int) < (N : Int) := by omega
        clear hsu hN
        go_wp2
        go_ret
        refine ⟨?_, hbw5⟩
        have h1 := hT.out
        have h2 := HN.out
        rw [HR.out, if_pos (by omega)]; rfl
      · have hbi : (N : Int) ≤ 10000 := by omega
        clear hsu hN
        go_wp2_with fail
        go_roundw
        case rel => exact ⟨k + 1, by omega, by go_num, by rw [HN.out, HS1Q.out], .inr (by rw [← HS1Q.out, ← HN.out]; omega), hbw5⟩
        case measure => simp [intOf]; omega
    · obtain rfl : k = cs.length := by omega
      rw [List.take_length] at hsm ⊢
      have hT' : capT t = n0 + (cs.map capC).sum := hT.out
      generalize (cs.map capC).sum = s0 at *
      by_cases hbig : 10000 < n0 + s0
      · have hbi : (10000 : Int) < ((n0 + s0 : Nat) : Int) := by omega
        have HF := Lib.hid (HR.out.trans (if_pos (by rw [hT']; exact hbig)))
        clear hs hT' hT hsm hbig
        generalize n0 + s0 = N at *
        generalize cs.length = n at *
        go_wp2
        go_ret
        exact ⟨by rw [HF.out]; rfl, hb⟩
      · have hbi : ((n0 + s0 : Nat) : Int) ≤ 10000 := by omega
        have HF := Lib.hid (HR.out.trans (if_neg (by rw [hT']; exact hbig)))
        clear hs hT' hT hsm hbig
        generalize n0 + s0 = N at *
        generalize cs.length = n at *
        go_wp2
        go_ret
        exact ⟨by rw [HF.out]; rfl, hb⟩
end Go.Proofs.Ythiebbhooigogaa
