/- LAYER 9: the document's All. -/
import Derived.Test.YthiebbhooigogaaG9
import Derived.Test.YthiebbhooigogaaOk
namespace Go.Proofs.Ythiebbhooigogaa
open Go Go.RowKit

def allD (l : List UInt8) : List Fd := (allF l).getD []
theorem infoFd : (Try.prog.info? 65).map (fun i => (i.zero, i.size, i.bytes)) = some (some (.agg #[.int .u8 0, .string { data := #[] }]), 2, 24) := by kernel_rfl
theorem info_fd : ∃ i, Try.prog.info? 65 = some i ∧ i.zero = some (.agg #[.int .u8 0, .string { data := #[] }]) ∧ i.size = 2 ∧ i.bytes = 24 := by
  have h := infoFd
  cases hq : Try.prog.info? 65 with
  | none => rw [hq] at h; cases h
  | some i =>
    rw [hq] at h
    simp only [Option.map_some, Option.some.injEq, Prod.mk.injEq] at h
    exact ⟨i, rfl, h.1, h.2.1, h.2.2⟩
set_option maxRecDepth 20000 in
set_option maxHeartbeats 2000000 in
theorem rallf_fresh (A : Option Addr) (n c : Nat) (l : List UInt8) (w : World) (hs : Sl w A c (byts l)) (hn : n = l.length) (hm : l.length ≤ 1000000) :
    Calls Try.prog 23 #[.slice A n c] w fun e w' => ∃ A' c', e = .returned (.tuple #[.slice A' (allD l).length c', .bool (allF l).isSome]) ∧ Sl w' A' (c' * 2) ((allD l).flatMap fdV) ∧ (∀ a, A' = some a → w.heap.size ≤ a.block) ∧ Below w.heap.size w w' := by
  subst hn
  obtain ⟨i0, hi, hz0, hz1, hz2⟩ := info_fd
  have hown0 : (w.alloc (.cells #[] 65)).ownsRow w.heap.size 65 2 (.slice (some ⟨w.heap.size, 0, none⟩) 0 0) 0 (([] : List Fd).flatMap fdV) := World.ownsRow_lit w #[] 0 (Nat.le_refl _) (by unfold maxLen; omega) rfl
  have hb0 := (Below.refl w.heap.size w).alloc (Nat.le_refl _) (.cells #[] 65)
  go_enter Try.func23, Try.ntmps23
  go_wp2_with fail
  go_loopw [4, 5] (fun v i wr => ∃ (at_ : Nat) (ds : List Fd), at_ ≤ l.length ∧ ds.length ≤ at_ ∧ i = .int .i64 at_ ∧ wr.ownsRow w.heap.size 65 2 v ds.length (ds.flatMap fdV) ∧ allF l = (allF (l.drop at_)).map (ds ++ ·) ∧ Below w.heap.size w wr) (fun _ i _ => l.length - (intOf i).toNat)
  case atStart => exact ⟨0, [], by omega, Nat.le_refl _, rfl, hown0, by simp, hb0⟩
  case round =>
    clear hown0 hb0
    obtain ⟨p, ds, hp, hdp, rfl, hown, hA, hb⟩ := hrel
    by_cases hlt : p < l.length
    · obtain ⟨A1, _, hcut, hsl1⟩ := cut_run A c l wr (hs.later (Nat.le_refl _) hb) p l.length hp (Nat.le_refl _)
      have hcut := fun w => hcut w rfl
      rw [List.take_of_length_le (by rw [List.length_drop]; exact Nat.le_refl _)] at hsl1
      have hback := getF_back (l.drop p)
      have hne : l.drop p ≠ [] := List.ne_nil_of_length_pos (by rw [List.length_drop]; omega)
      have hA0 := fun h => hA.trans (by rw [allF_none _ hne h])
      have hA1 := fun h => hA.trans (by rw [allF_step _ hne h])
      rw [List.length_drop] at hback
      obtain ⟨G, hGq⟩ : ∃ G, G = getF (l.drop p) := ⟨_, rfl⟩
      obtain ⟨⟨x, T⟩, m⟩ := G
      obtain ⟨V, hV⟩ : ∃ V, V = fdV (x, T) := ⟨_, rfl⟩
      have hget := Lib.hid (show Calls Try.prog 39 #[.slice A1 (l.length - p) (c - p)] wr fun e w' => e = .returned (.tuple #[.agg V.toArray, .int .i64 m]) ∧ Below wr.heap.size wr w' by
        have h := rgetf_any A1 (l.length - p) (c - p) (l.drop p) wr hsl1 (by rw [List.length_drop]) (by rw [List.length_drop]; omega)
        rw [← hGq] at h
        rw [hV]
        exact h)
      rw [← hGq] at hback hA0 hA1
      clear hGq hA hne hsl1
      dsimp only at hback hA0 hA1
      have hone := Lib.hid (show V.toArray.all (·.oneCell') = true from all_one (fun v hv => fdV_one [(x, T)] v (by rw [hV] at hv; simpa using hv)))
      have hone2 := Lib.hid (show ∀ v ∈ V, v.oneCell' = true from fun v hv => fdV_one [(x, T)] v (by rw [hV] at hv; simpa using hv))
      have hszV := Lib.hid (show (Try.prog.info? 65).map (·.size) = some V.toArray.size by rw [hV]; exact size_fd)
      have hV2 := Lib.hid (show (2 : Nat) = V.toArray.size by rw [hV]; rfl)
      have HV := Lib.hid hV
      have HB := Lib.hid hback
      clear hV hback
      go_wp2_with (first
        | (go_at_call 39; refine hget.out.mono ?_; rintro e w5 ⟨rfl, hb5⟩; have hown5 := ownk_later hown hb5 (Nat.le_refl _); have hbw5 := hb.trans (hb5.mono hb.size))
        | (with_reducible refine wpList_store_row rfl 65 (.tmp 6) (.tmp 18) rfl w5.heap.size V.toArray rfl rfl 65 _ (heap_alloc_new w5 _) hszV.out (Eq.trans (by kernel_rfl) hV2.out) hone.out ?_; refine Hid.out ?_))
      refine Lib.hid ?_
      generalize hw6 : World.setRow _ _ _ = w6
      obtain ⟨r6, hb6⟩ := row_new_set (xs := V) hw6
      have R6 := Lib.hid (show w6.heap[w5.heap.size]? = some (.cells V.toArray 65 (0, 0)) from r6)
      have hown6 := ownk_later hown5 hb6 (Nat.le_refl _)
      have hbw6 := hbw5.trans (hb6.mono hbw5.size)
      clear hw6 r6 hb6 hown5 hown hcut
      by_cases hm0 : m = 0
      · have hN := hA0 hm0
        have hq : ((m : Int) == 0) = true := by rw [hm0]; rfl
        have HN := Lib.hid (show allF l = none from hN)
        clear hA0 hA1 hN hm0
        go_wp2
        go_ret2
        refine ⟨none, 0, ?_, ?_, (fun _ ha => by cases ha), hbw6⟩
        · unfold allD; rw [HN.out]; rfl
        · unfold allD; rw [HN.out]; exact ⟨.inl rfl, Nat.le_refl _, fun _ => rfl⟩
      · have hN := hA1 hm0
        have hq : ((m : Int) == 0) = false := by rw [beq_eq_false_iff_ne]; omega
        have HN := Lib.hid hN
        have hmb : 2 ≤ m ∧ m ≤ l.length - p := by
          rcases HB.out with h | ⟨h1, h2, _⟩
          · injection h with _ h; omega
          · exact ⟨h1, h2⟩
        have n1 : ds.length + 1 ≤ maxLen := by unfold maxLen; omega
        have n2 : (ds.length + 1) * 24 ≤ 140737488355328 := by omega
        have HD := Lib.hid (List.drop_drop (l := l) (i := m) (j := p))
        have hF := Lib.hid (show (ds ++ [(x, T)]).flatMap fdV = ds.flatMap fdV ++ [Value.int .u8 (x.toNat : Int), .string (bstr T)] by rw [List.flatMap_append]; rfl)
        have hV3 : V = [Value.int .u8 (x.toNat : Int), .string (bstr T)] := HV.out
        subst hV3
        have hs7 : Sl (w6.alloc (.cells #[Value.int .u8 (x.toNat : Int), .string (bstr T)] 65)) (some ⟨w6.heap.size, 0, none⟩) (1 * 2) [Value.int .u8 (x.toNat : Int), .string (bstr T)] := ⟨Rd.row (ys := []) (by rw [List.append_nil]; exact Row.new w6 _ [Value.int .u8 (x.toNat : Int), .string (bstr T)]), Nat.le_refl _, fun h => by cases h⟩
        have hown7 := ownk_later hown6 ((Below.refl w6.heap.size w6).alloc (Nat.le_refl _) (.cells #[Value.int .u8 (x.toNat : Int), .string (bstr T)] 65)) (Nat.le_refl _)
        have hb7 := hbw6.alloc hbw6.size (.cells #[Value.int .u8 (x.toNat : Int), .string (bstr T)] 65)
        clear hA0 hA1 hN hm0 hget hone HB hown6 HV
        go_wp2_with (first
          | (with_reducible refine wpList_load_row rfl 65 (.tmp 6) rfl w5.heap.size rfl 65 _ (0, 0) _ R6.out Try.underlying65 rfl hszV.out ?_)
          | (at_builtin; refine wpList_append_k rfl (.tmp 22) (.tmp 24) 62 rfl w.heap.size 65 i0 _ 2 24 Try.underlying62 hi hz0 hz1 (by omega) hz2 rfl _ ds.length (ds.flatMap fdV) rfl hown7 (some ⟨w6.heap.size, 0, none⟩) 1 1 [Value.int .u8 (x.toNat : Int), .string (bstr T)] rfl rfl hs7 hone2.out n1 n2 hb7.size ?_; intro v8 w8 hown8 hg8; have hb8 : Below w.heap.size w w8 := hb7.grown hg8 hb7.size (fun k hk => (hown7.lt k hk).1)))
        rw [← hF.out] at hown8
        go_roundw
        case rel =>
          refine ⟨p + m, ds ++ [(x, T)], by omega, by rw [List.length_append]; simp; omega, by go_num, ?_, ?_, hb8⟩
          · rw [List.length_append]; exact hown8
          · rw [HN.out, HD.out, Option.map_map]
            congr 1
            funext q
            simp
        case measure => simp [intOf]; omega
    · have hpe : p = l.length := by omega
      subst hpe
      have HN := Lib.hid (show allF l = some ds by rw [hA, List.drop_of_length_le (Nat.le_refl _), allF_nil]; simp)
      obtain ⟨A', c', rfl, _, hsl⟩ := Sl.of_ownk hown
      have hfr := Lib.hid (ownk_fresh hown)
      clear hA hs hlt hown
      generalize l.length = n at *
      go_wp2
      go_ret2
      refine ⟨A', c', ?_, ?_, hfr.out, hb⟩
      · unfold allD; rw [HN.out]; rfl
      · unfold allD; rw [HN.out]; exact hsl
theorem rallf_any (A : Option Addr) (n c : Nat) (l : List UInt8) (w : World) (hs : Sl w A c (byts l)) (hn : n = l.length) (hm : l.length ≤ 1000000) :
    Calls Try.prog 23 #[.slice A n c] w fun e w' => ∃ A' c', e = .returned (.tuple #[.slice A' (allD l).length c', .bool (allF l).isSome]) ∧ Sl w' A' (c' * 2) ((allD l).flatMap fdV) ∧ Below w.heap.size w w' :=
  (rallf_fresh A n c l w hs hn hm).mono fun _ _ ⟨A', c', h1, h2, _, h3⟩ => ⟨A', c', h1, h2, h3⟩
end Go.Proofs.Ythiebbhooigogaa
