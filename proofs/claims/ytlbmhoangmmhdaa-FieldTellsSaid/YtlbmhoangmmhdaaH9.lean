/- LAYER 9: what the laws call: great, fields, same, fieldAlive. -/
import Derived.Test.YtlbmhoangmmhdaaFk
import Derived.Laws.StructEq
namespace Go.Proofs.Ytlbmhoangmmhdaa
open Go Go.RowKit

theorem run_eq_fd (f g : Fd) (w : World) : (Op.equalIn 10000 27 (.agg (fdV f).toArray) (.agg (fdV g).toArray)).run Try.prog w = .ok (decide (f = g)) w := by
  obtain ⟨x, s⟩ := f
  obtain ⟨y, t⟩ := g
  show (Op.equalIn 10000 27 (.agg #[.int .u8 (x.toNat : Int), .string (bstr s)]) (.agg #[.int .u8 (y.toNat : Int), .string (bstr t)])).run Try.prog w = _
  go_simp
  rw [bstr_toList, bstr_toList]
  by_cases hx : x = y
  · subst hx
    rw [if_pos rfl]
    by_cases hs : s = t
    · rw [if_pos hs]; simp [hs]
    · rw [if_neg hs]; simp [hs]
  · rw [if_neg (fun h => hx (UInt8.toNat_inj.1 (by omega)))]
    simp [hx]
/-- How many bytes, and items, they are. -/
def sumF (fs : List Fd) : Nat := (fs.map fun f => f.2.length + 1).sum
theorem sumF_succ (fs : List Fd) (k : Nat) (f : Fd) (h : fs[k]? = some f) : sumF (fs.take (k + 1)) = sumF (fs.take k) + (f.2.length + 1) := by
  unfold sumF
  rw [List.take_add_one, List.map_append, List.sum_append, h]
  simp
theorem sumF_le (fs : List Fd) (k : Nat) : sumF (fs.take k) ≤ sumF fs := by
  have e : fs = fs.take k ++ fs.drop k := (List.take_append_drop k fs).symm
  have h : sumF fs = sumF (fs.take k) + sumF (fs.drop k) := by
    conv => lhs; rw [e]
    unfold sumF
    rw [List.map_append, List.sum_append]
  omega
theorem sumF_mem (fs : List Fd) (f : Fd) (h : f ∈ fs) : f.2.length + 1 ≤ sumF fs := by
  unfold sumF
  induction fs with
  | nil => cases h
  | cons q fs ih =>
    simp only [List.map_cons, List.sum_cons]
    rcases List.mem_cons.1 h with rfl | h
    · omega
    · have := ih h; omega
theorem sumF_len (fs : List Fd) : fs.length ≤ sumF fs := by
  unfold sumF
  induction fs with
  | nil => simp
  | cons l fs ih => simp only [List.map_cons, List.sum_cons, List.length_cons]; omega
theorem length_joinL (fs : List Fd) : (joinL fs).length ≤ 12 * sumF fs := by
  unfold joinL sumF
  induction fs with
  | nil => simp
  | cons f fs ih =>
    have h := length_fieldL f
    have := length_varL f.2.length
    simp only [List.flatMap_cons, List.map_cons, List.sum_cons, List.length_append]; omega
set_option maxRecDepth 20000 in
set_option maxHeartbeats 1000000 in
theorem fgreat_any (A : Option Addr) (n c : Nat) (fs : List Fd) (w : World) (hs : Sl w A (c * 2) (fs.flatMap fdV)) (hn : n = fs.length) (hm : fs.length ≤ 9223372036854775807) (he : ∀ f ∈ fs, f.2.length ≤ 140737488355328) :
    Calls Try.prog 6 #[.slice A n c] w fun e w' => e = .returned (.bool (decide (1000 < sumF fs))) ∧ Below w.heap.size w w' := by
  subst hn
  go_enter Try.func6, Try.ntmps6
  go_wp2_with fail
  go_loopw [3, 8] (fun x i wr => ∃ k : Nat, k ≤ fs.length ∧ i = .int .i64 k ∧ x = .int .i64 (sumF (fs.take k) : Nat) ∧ sumF (fs.take k) ≤ 1000 ∧ Below w.heap.size w wr) (fun _ i _ => fs.length - (intOf i).toNat)
  case atStart => exact ⟨0, by omega, rfl, rfl, by simp [sumF], Below.refl _ _⟩
  case round =>
    obtain ⟨k, hk, rfl, rfl, hx, hb⟩ := hrel
    by_cases hlt : k < fs.length
    · obtain ⟨f, hf⟩ : ∃ f, fs[k]? = some f := ⟨_, List.getElem?_eq_getElem hlt⟩
      obtain ⟨b, o, rfl, hb0, hr0⟩ := hs.rd.get (i := 0) (by rw [length_fdsV]; omega)
      clear hb0 hr0
      have hix := index_fd (some ⟨b, o, none⟩) b o fs.length c k rfl hlt
      have hrg := (hs.later (Nat.le_refl _) hb).thing (k := 2) (fun _ _ => rfl) k f hf
      have hle := he f (List.mem_of_getElem? hf)
      have HS := Lib.hid (sumF_succ fs k f hf)
      have HL := Lib.hid (sumF_le fs (k + 1))
      obtain ⟨V, hV⟩ : ∃ V, V = fdV f := ⟨_, rfl⟩
      rw [← hV] at hrg
      have hzf := Lib.hid (show (Try.prog.info? 30).map (·.size) = some V.length by rw [hV]; exact size_fd)
      have hzf2 := Lib.hid (show (Try.prog.info? 30).map (·.size) = some V.toArray.size by rw [hV]; exact size_fd)
      have hof := Lib.hid (show V.toArray.all (·.oneCell') = true by rw [hV]; exact all_one (fun v hv => fdV_one [f] v (by simpa using hv)))
      have hV2 := Lib.hid (show (2 : Nat) = V.toArray.size by rw [hV]; rfl)
      have HV1 := Lib.hid (show V[1]? = some (.string (bstr f.2)) by rw [hV]; rfl)
      have hz := size_bstr f.2
      generalize sumF (fs.take k) = x at *
      have hzl : (bstr f.2).size ≤ 140737488355328 := by rw [hz]; exact hle
      rw [← hz] at HS
      generalize bstr f.2 = S at *
      clear hV hz hle he hf
      go_wp2_with (first
        | (with_reducible refine wpList_load_mid rfl 30 (.tmp 10) rfl b (o + k * 2) rfl V _ hrg Try.underlying30 rfl hzf.out ?_)
        | (with_reducible refine wpList_store_row rfl 30 (.tmp 5) (.tmp 11) rfl wr.heap.size V.toArray rfl rfl 30 _ (heap_alloc_new wr _) hzf2.out (Eq.trans (by kernel_rfl) hV2.out) hof.out ?_; refine Hid.out ?_))
      refine Lib.hid ?_
      generalize hw5 : World.setRow _ _ _ = w5
      obtain ⟨r5, hb5⟩ := row_new_set (xs := V) hw5
      have hc1 := (r5.cell 1).trans HV1.out
      have hbw5 := hb.trans (hb5.mono hb.size)
      clear hw5 r5 hb5
      by_cases hbig : 1000 < x + (S.size + 1)
      · have HD := Lib.hid (show decide (1000 < sumF fs) = true from decide_eq_true (by have := HL.out; have := HS.out; omega))
        have hb' : (1000 : Int) < (x : Int) + ((S.size : Int) + 1) := by omega
        go_wp2
        go_ret
        exact ⟨by rw [HD.out]; rfl, hbw5⟩
      · have hb' : (x : Int) + ((S.size : Int) + 1) ≤ 1000 := by omega
        have HB := Lib.hid hbig
        clear hbig
        go_wp2_with fail
        go_roundw
        case rel => exact ⟨k + 1, by omega, by go_num, by rw [HS.out]; go_num, by rw [HS.out]; omega, hbw5⟩
        case measure => simp [intOf]; omega
    · obtain rfl : k = fs.length := by omega
      have HD := Lib.hid (show decide (1000 < sumF fs) = false from decide_eq_false (by rw [List.take_length] at hx; omega))
      clear hs he hk hlt
      generalize sumF (fs.take fs.length) = x at *
      generalize fs.length = n at *
      go_wp2
      go_ret
      exact ⟨by rw [HD.out]; rfl, hb⟩
set_option maxRecDepth 20000 in
set_option maxHeartbeats 1000000 in
theorem ffields_any (A : Option Addr) (n c : Nat) (fs : List Fd) (w : World) (hs : Sl w A (c * 2) (fs.flatMap fdV)) (hn : n = fs.length) (hm : fs.length ≤ 1000000) :
    Calls Try.prog 13 #[.slice A n c] w fun e w' => ∃ A' c', e = .returned (.slice A' fs.length c') ∧ Sl w' A' (c' * 2) (fs.flatMap fdV) ∧ Below w.heap.size w w' := by
  subst hn
  obtain ⟨i0, hi, hz0, hz1, hz2⟩ := info_ff
  have hown0 : (w.alloc (.cells #[] 27)).ownsRow w.heap.size 27 2 (.slice (some ⟨w.heap.size, 0, none⟩) 0 0) 0 (([] : List Fd).flatMap fdV) := World.ownsRow_lit w #[] 0 (Nat.le_refl _) (by unfold maxLen; omega) rfl
  have hb0 := (Below.refl w.heap.size w).alloc (Nat.le_refl _) (.cells #[] 27)
  go_enter Try.func13, Try.ntmps13
  go_wp2_with fail
  go_loopw [3, 9] (fun v i wr => ∃ k : Nat, k ≤ fs.length ∧ i = .int .i64 k ∧ wr.ownsRow w.heap.size 27 2 v k ((fs.take k).flatMap fdV) ∧ Below w.heap.size w wr) (fun _ i _ => fs.length - (intOf i).toNat)
  case atStart => exact ⟨0, by omega, rfl, hown0, hb0⟩
  case round =>
    clear hown0 hb0
    obtain ⟨k, hk, rfl, hown, hb⟩ := hrel
    by_cases hlt : k < fs.length
    · obtain ⟨⟨x, T⟩, hf⟩ : ∃ f, fs[k]? = some f := ⟨_, List.getElem?_eq_getElem hlt⟩
      obtain ⟨b, o, rfl, hb0, hr0⟩ := hs.rd.get (i := 0) (by rw [length_fdsV]; omega)
      clear hb0 hr0
      have hix := index_fd (some ⟨b, o, none⟩) b o fs.length c k rfl hlt
      have hrg := (hs.later (Nat.le_refl _) hb).thing (k := 2) (fun _ _ => rfl) k (x, T) hf
      have hF := Lib.hid (show (fs.take (k + 1)).flatMap fdV = (fs.take k).flatMap fdV ++ [Value.int .u8 (x.toNat : Int), .string (bstr T)] by rw [List.take_add_one, hf, List.flatMap_append]; simp [fdV])
      have hrg : wr.rangeAt b (o + k * 2) [Value.int .u8 (x.toNat : Int), .string (bstr T)] := hrg
      obtain ⟨V, hV⟩ : ∃ V, V = [Value.int .u8 (x.toNat : Int), .string (bstr T)] := ⟨_, rfl⟩
      have hone := Lib.hid (show V.toArray.all (·.oneCell') = true by rw [hV]; exact all_one (fun v hv => fdV_one [(x, T)] v (by simpa [fdV] using hv)))
      have hone2 := Lib.hid (show ∀ v ∈ [Value.int .u8 (x.toNat : Int), .string (bstr T)], v.oneCell' = true from fun v hv => fdV_one [(x, T)] v (by simpa [fdV] using hv))
      have hzf := Lib.hid (show (Try.prog.info? 30).map (·.size) = some V.length by rw [hV]; exact size_fd)
      have hszV := Lib.hid (show (Try.prog.info? 30).map (·.size) = some V.toArray.size by rw [hV]; exact size_fd)
      have hV2 := Lib.hid (show (2 : Nat) = V.toArray.size by rw [hV]; rfl)
      have HV := Lib.hid hV
      rw [← hV] at hrg
      have n1 : k + 1 ≤ maxLen := by unfold maxLen; omega
      have n2 : (k + 1) * 24 ≤ 140737488355328 := by omega
      clear hV hf
      go_wp2_with (first
        | (with_reducible refine wpList_load_mid rfl 30 (.tmp 11) rfl b (o + k * 2) rfl V _ hrg Try.underlying30 rfl hzf.out ?_)
        | (with_reducible refine wpList_store_row rfl 30 (.tmp 5) (.tmp 12) rfl wr.heap.size V.toArray rfl rfl 30 _ (heap_alloc_new wr _) hszV.out (Eq.trans (by kernel_rfl) hV2.out) hone.out ?_; refine Hid.out ?_))
      refine Lib.hid ?_
      generalize hw6 : World.setRow _ _ _ = w6
      obtain ⟨r6, hb6⟩ := row_new_set (xs := V) hw6
      have R6 := Lib.hid (show w6.heap[wr.heap.size]? = some (.cells V.toArray 30 (0, 0)) from r6)
      have hown6 := ownk_later hown hb6 (Nat.le_refl _)
      have hbw6 := hb.trans (hb6.mono hb.size)
      have hV3 := HV.out
      clear hw6 r6 hb6 hown hrg
      subst hV3
      have hs7 : Sl (w6.alloc (.cells #[Value.int .u8 (x.toNat : Int), .string (bstr T)] 27)) (some ⟨w6.heap.size, 0, none⟩) (1 * 2) [Value.int .u8 (x.toNat : Int), .string (bstr T)] := ⟨Rd.row (ys := []) (by rw [List.append_nil]; exact Row.new w6 _ [Value.int .u8 (x.toNat : Int), .string (bstr T)]), Nat.le_refl _, fun h => by cases h⟩
      have hown7 := ownk_later hown6 ((Below.refl w6.heap.size w6).alloc (Nat.le_refl _) (.cells #[Value.int .u8 (x.toNat : Int), .string (bstr T)] 27)) (Nat.le_refl _)
      have hb7 := hbw6.alloc hbw6.size (.cells #[Value.int .u8 (x.toNat : Int), .string (bstr T)] 27)
      clear hone hown6 HV
      go_wp2_with (first
        | (with_reducible refine wpList_load_row rfl 30 (.tmp 5) rfl wr.heap.size rfl 30 _ (0, 0) _ R6.out Try.underlying30 rfl hszV.out ?_)
        | (at_builtin; refine wpList_append_k rfl (.tmp 13) (.tmp 15) 33 rfl w.heap.size 27 i0 _ 2 24 Try.underlying33 hi hz0 hz1 (by omega) hz2 rfl _ k ((fs.take k).flatMap fdV) rfl hown7 (some ⟨w6.heap.size, 0, none⟩) 1 1 [Value.int .u8 (x.toNat : Int), .string (bstr T)] rfl rfl hs7 hone2.out n1 n2 hb7.size ?_; intro v8 w8 hown8 hg8; have hb8 : Below w.heap.size w w8 := hb7.grown hg8 hb7.size (fun k hk => (hown7.lt k hk).1)))
      rw [← hF.out] at hown8
      go_roundw
      case rel => exact ⟨k + 1, by omega, by go_num, hown8, hb8⟩
      case measure => simp [intOf]; omega
    · obtain rfl : k = fs.length := by omega
      rw [List.take_length] at hown
      obtain ⟨A', c', rfl, _, hsl⟩ := Sl.of_ownk hown
      clear hs hlt hk hown
      go_wp2
      go_ret
      exact ⟨A', c', rfl, hsl, hb⟩
end Go.Proofs.Ytlbmhoangmmhdaa
