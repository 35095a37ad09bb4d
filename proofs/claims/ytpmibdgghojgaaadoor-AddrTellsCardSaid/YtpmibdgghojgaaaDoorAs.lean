/- LAYER 12: package addr: readSix. -/
import Derived.Test.YtpmibdgghojgaaaDoorAr
import Derived.Laws.CopyOwn
namespace Go.Proofs.YtpmibdgghojgaaaDoor
set_option maxRecDepth 100000
open Go Go.RowKit

/-- Eight numbers: some at the front, some at the back, 0 between. -/
def padF (f b : List Nat) : List Nat := (f ++ List.replicate (8 - f.length) 0).take (8 - b.length) ++ b
theorem padF_len (f b : List Nat) (hf : f.length ≤ 8) (hb : b.length ≤ 8) : (padF f b).length = 8 := by unfold padF; simp; omega
theorem padF_le (f b : List Nat) (hf : ∀ n ∈ f, n ≤ 65535) (hb : ∀ n ∈ b, n ≤ 65535) : ∀ n ∈ padF f b, n ≤ 65535 := by
  intro n hn
  unfold padF at hn
  rcases List.mem_append.1 hn with h | h
  · rcases List.mem_append.1 (List.mem_of_mem_take h) with h | h
    · exact hf n h
    · rw [List.eq_of_mem_replicate h]; omega
  · exact hb n h
/-- Parts ahead of and behind '::'. -/
def cutF (s : List UInt8) : List UInt8 × List UInt8 := ((Lib.cut s [58, 58]).1, (Lib.cut s [58, 58]).2.1)
def readSixF (s : List UInt8) : Adr := sixA (padF (numsF 16 58 (cutF s).1) (numsF 16 58 (cutF s).2))
theorem cut_le (s : List UInt8) : (cutF s).1.length ≤ s.length ∧ (cutF s).2.length ≤ s.length := by
  unfold cutF Lib.cut
  split
  · simp; omega
  · simp
theorem cut8_at (g n : Nat) (hn : n ≤ 8) : ∃ A2, (∀ W, (Instr.sliceAt 32 (.pointer (some ⟨g, 0, none⟩)) (some (.int .i64 (8 - (n : Int)))) none none).run Tryd.prog W = .ok (.slice A2 n n) W) ∧ (0 < n → A2 = some ⟨g, 8 - n, none⟩) := by
  have hal : Tryd.prog.arrayLen 32 = 8 := by kernel_rfl
  have hzn : (8 - (n : Int)).toNat = 8 - n := by omega
  by_cases h : n = 0
  · subst h
    refine ⟨some ⟨g, 0, none⟩, fun W => ?_, fun h => absurd h (by omega)⟩
    rw [run_sliceAt_array_l W 32 ⟨g, 0, none⟩ (by kernel_rfl) .i64 _ (by omega) (by rw [hal]; omega), hal]
    rfl
  · refine ⟨some ⟨g, 8 - n, none⟩, fun W => ?_, fun _ => rfl⟩
    rw [run_sliceAt_array_l W 32 ⟨g, 0, none⟩ (by kernel_rfl) .i64 _ (by omega) (by rw [hal]; omega), hal, hzn]
    have e : 8 - (8 - n) = n := by omega
    have h1 : ¬ 8 = 8 - n := by omega
    go_simp
theorem sizeU16 : (Tryd.prog.info? 31).map (·.size) = some 1 := by kernel_rfl
theorem splice_pad (f : List Nat) : splice (List.replicate 8 (.int .u16 0)) 0 (hwV f) = hwV (f ++ List.replicate (8 - f.length) 0) := by
  unfold splice
  rw [List.drop_replicate, length_hwV]
  unfold hwV
  rw [List.map_append, List.map_replicate, Nat.zero_add]
  rfl
theorem splice_back (l b : List Nat) (h8 : l.length = 8) (hb : b.length ≤ 8) : splice (hwV l) (8 - b.length) (hwV b) = hwV (l.take (8 - b.length) ++ b) := by
  unfold splice hwV
  rw [List.drop_of_length_le (by simp; omega)]
  simp
theorem below_drewN (w : World) (n : Nat) : Below w.heap.size w (w.drewN n) := by
  induction n with
  | zero => exact Below.refl _ _
  | succ n ih => exact ih.drew
theorem acut_any (s : List UInt8) (hs : s.length ≤ 100000) (w : World) (hE : Env w) :
    Calls Tryd.prog 32 #[.string (bstr s), .string ⟨#[58, 58]⟩] w fun e w' => e = .returned (.tuple #[.string (bstr (cutF s).1), .string (bstr (cutF s).2), .bool (Lib.cut s [58, 58]).2.2]) ∧ Below w.heap.size w w' := by
  obtain ⟨m, hm⟩ := hE.most
  refine (Tryd.strings_Cut (bstr s) (bstr [58, 58]) m w (by rw [size_bstr]; omega) hm).mono ?_
  rintro e w' ⟨rfl, n, rfl⟩
  exact ⟨rfl, below_drewN w n⟩
set_option maxHeartbeats 4000000 in
theorem areadSix_any (s : List UInt8) (hs : s.length ≤ 100000) (w : World) (hE : Env w) :
    Calls Tryd.prog 24 #[.string (bstr s)] w fun e w' => e = .returned (.agg (adrV (readSixF s)).toArray) ∧ Below w.heap.size w w' := by
  obtain ⟨hc1, hc2⟩ := cut_le s
  have hcut := Lib.hid (fun w' hE => acut_any s hs w' hE)
  have hn1 := Lib.hid (fun w' hE => show Calls Tryd.prog 25 #[.string (bstr (cutF s).1), .string ⟨#[58]⟩, .int .i64 16] w' (GaveNums (numsF 16 58 (cutF s).1) w') from anumbers_any 16 (.inr rfl) 58 (cutF s).1 (by omega) w' hE)
  have hn2 := Lib.hid (fun w' hE => show Calls Tryd.prog 25 #[.string (bstr (cutF s).2), .string ⟨#[58]⟩, .int .i64 16] w' (GaveNums (numsF 16 58 (cutF s).2) w') from anumbers_any 16 (.inr rfl) 58 (cutF s).2 (by omega) w' hE)
  have hl1 := numsF_len 16 58 (cutF s).1
  have hl2 := numsF_len 16 58 (cutF s).2
  have HA := Lib.hid (show readSixF s = sixA (padF (numsF 16 58 (cutF s).1) (numsF 16 58 (cutF s).2)) from rfl)
  have HL := Lib.hid (padF_le _ _ (numsF_le 16 58 (cutF s).1) (numsF_le 16 58 (cutF s).2))
  generalize numsF 16 58 (cutF s).1 = f at *
  generalize numsF 16 58 (cutF s).2 = b at *
  generalize (Lib.cut s [58, 58]).2.2 = fd at *
  generalize (cutF s).1 = s1 at *
  generalize (cutF s).2 = s2 at *
  generalize bstr s = S at *
  obtain ⟨w1, hw1⟩ : ∃ w1, w1 = w.alloc (.cells (adrV zeroA).toArray 24) := ⟨_, rfl⟩
  have r1 : Row w1 w.heap.size 24 (adrV zeroA) := by rw [hw1]; exact Row.new w _ _
  have hb1 : Below w.heap.size w w1 := by rw [hw1]; exact (Below.refl _ w).alloc (Nat.le_refl _) _
  have hE1 := hE.next hb1
  go_enter Tryd.func24, Tryd.ntmps24
  have hm1 := Lib.hid (show (hwV f).length = Nat.min f.length 8 by rw [length_hwV]; exact (Nat.min_eq_left hl1).symm)
  have hm2 := Lib.hid (show (hwV b).length = Nat.min b.length b.length by rw [length_hwV]; exact (Nat.min_self _).symm)
  have hfit1 := Lib.hid (show 0 + (hwV f).length ≤ (List.replicate 8 (Value.int .u16 0)).length by rw [length_hwV, List.length_replicate]; omega)
  obtain ⟨pd, hpd⟩ : ∃ pd, pd = f ++ List.replicate (8 - f.length) 0 := ⟨_, rfl⟩
  have hpl : pd.length = 8 := by rw [hpd]; simp; omega
  have HPl := Lib.hid hpl
  have HPd := Lib.hid hpd
  have hfit2 := Lib.hid (show 8 - b.length + (hwV b).length ≤ (hwV pd).length by rw [length_hwV, length_hwV, hpl]; omega)
  obtain ⟨pq, hpq⟩ : ∃ pq, pq = pd.take (8 - b.length) ++ b := ⟨_, rfl⟩
  have HPq := Lib.hid hpq
  have hpf : padF f b = pq := by rw [hpq, hpd]; rfl
  have hql : pq.length = 8 := by rw [hpq, List.length_append, List.length_take, hpl]; omega
  rw [hpf] at HA HL
  have HQl := Lib.hid hql
  have hq6 : (sixA pq).Ok := sixA_ok pq hql
  have hsix := Lib.hid (fun w' => asix_any pq hql HL.out w')
  have hsl := Lib.hid (show (Tryd.prog.info? 32).map (·.size) = some (hwV pq).toArray.size by rw [show (Tryd.prog.info? 32).map (·.size) = some 8 by kernel_rfl, List.size_toArray, length_hwV, hql])
  obtain ⟨L8, hL8⟩ : ∃ L, L = hwV pq := ⟨_, rfl⟩
  rw [← hL8] at hsix hsl
  have HL8 := Lib.hid hL8
  obtain ⟨V, hV⟩ : ∃ V, V = adrV (sixA pq) := ⟨_, rfl⟩
  obtain ⟨Z, hZ⟩ : ∃ Z, Z = adrV zeroA := ⟨_, rfl⟩
  have hsz := Lib.hid (show (Tryd.prog.info? 24).map (·.size) = some V.toArray.size by rw [hV, size_adr, List.size_toArray, length_adrV hq6])
  have hV1 := Lib.hid (show V.toArray.all (·.oneCell') = true from all_one (by rw [hV]; exact adrV_one _))
  have hVs := Lib.hid (show Z.toArray.size = V.toArray.size by rw [hV, hZ, List.size_toArray, List.size_toArray, length_adrV zeroA_ok, length_adrV hq6])
  rw [← hV] at hsix
  rw [HA.out, ← hV]
  have HZ := Lib.hid hZ
  clear hpl hpd hpq hpf hql hL8 hV hZ hq6 HA HL
  have hbl : (b.length : Int) ≤ 8 := by omega
  have tok1 : True := trivial
  have tok2 : True := trivial
  clear hE hc1 hc2 hs
  go_wp2_with (first
    | (go_at_call 32; change Calls _ _ _ (w.alloc (.cells (adrV zeroA).toArray 24)) _; rw [← hw1]; refine (hcut.out _ hE1).mono ?_; rintro e w2 ⟨rfl, hb2⟩; have hE2 := hE1.next hb2; have r2 := r1.later hb2 r1.lt; have hb2 := hb1.trans (hb2.mono hb1.size); clear hcut hw1 r1 hE1)
    | (go_at_call 25; have _t := tok1; refine (hn1.out _ hE2).mono ?_; rintro e w3 ⟨v1, rfl, ho1, hb3⟩; obtain ⟨A1, k1, rfl, -, hs1⟩ := Sl.of_own ho1; have hE3 := hE2.next hb3; have r3 := r2.later hb3 r2.lt; have hb3 := hb2.trans (hb3.mono hb2.size); clear hn1 ho1 tok1 r2)
    | (go_at_call 25; have _t := tok2; refine (hn2.out _ hE3).mono ?_; rintro e w4 ⟨v2, rfl, ho2, hb4⟩; obtain ⟨A2, k2, rfl, -, hs2⟩ := Sl.of_own ho2; have r4 := r3.later hb4 r3.lt; have hs1 := hs1.later (Nat.le_refl _) hb4; have hb4 := hb3.trans (hb4.mono hb3.size); clear hn2 ho2 tok2 r3; obtain ⟨A3, hcut8, hA3⟩ := cut8_at w4.heap.size b.length hl2; have HA3 := Lib.hid hA3; clear hA3; have hp1 := Lib.hid (fun o (h : 0 < (hwV f).length) => (hs1.later (Nat.le_refl _) ((Below.refl w4.heap.size w4).alloc (Nat.le_refl _) o)).hpos h))
    | (with_reducible refine wpList_copy_splice rfl (.tmp 19) (.tmp 20) 46 46 rfl 31 Tryd.underlying46 sizeU16 _ _ _ _ _ _ rfl rfl w4.heap.size 0 (List.replicate 8 (.int .u16 0)) _ (heap_alloc_new w4 _) (hwV f) hm1.out (fun h => ⟨rfl, hp1.out _ h⟩) hfit1.out (hwV_one _) w4.heap.size w4 ((Below.refl _ _).alloc (Nat.le_refl _) _) (Nat.le_refl _) ?_; intro w5 HG5 hb5; rw [splice_pad, ← HPd.out] at HG5; have hp2 := Lib.hid (fun h => (hs2.later (Nat.le_refl _) hb5).hpos h))
    | (with_reducible refine wpList_copy_splice rfl (.tmp 25) (.tmp 26) 46 46 rfl 31 Tryd.underlying46 sizeU16 _ _ _ _ _ _ rfl rfl w4.heap.size (8 - b.length) (hwV pd) _ HG5.out (hwV b) hm2.out (fun h => ⟨HA3.out (by rw [length_hwV] at h; exact h), hp2.out h⟩) hfit2.out (hwV_one _) w4.heap.size w4 hb5 (Nat.le_refl _) ?_; intro w6 HG6 hb6; rw [splice_back _ _ HPl.out hl2, ← HPq.out, ← HL8.out] at HG6; clear HG5 hp2 hb5)
    | (with_reducible refine wpList_load_row rfl 32 (.tmp 8) rfl w4.heap.size rfl 32 L8.toArray (0, 0) _ HG6.out Tryd.underlying32 rfl hsl.out ?_)
    | (go_at_call 12; refine (hsix.out _).mono ?_; rintro e w7 ⟨rfl, hb7⟩; have r6 := r4.later hb6 r4.lt; have r7 := r6.later hb7 r6.lt; have hb7 := (hb4.trans (hb6.mono hb4.size)).trans (hb7.mono (hb4.trans (hb6.mono hb4.size)).size); have H0 := Lib.hid (show w7.heap[w.heap.size]? = some (.cells Z.toArray 24 (0, 0)) by rw [HZ.out]; exact r7); clear r4 r6 r7)
    | (with_reducible refine wpList_store_row rfl 24 (.tmp 2) (.tmp 29) rfl w.heap.size V.toArray rfl rfl 24 Z.toArray H0.out hsz.out hVs.out hV1.out ?_; refine Hid.out ?_))
  refine Lib.hid ?_
  generalize hw8 : World.setRow _ _ _ = w8
  obtain ⟨r8, hg8⟩ := row_set (show Row w7 w.heap.size 24 Z from H0.out) hw8
  have hb8 := hb7.grown hg8 hb7.size (fun k h => by cases h; exact Nat.le_refl _)
  have R8 := Lib.hid (show w8.heap[w.heap.size]? = some (.cells V.toArray 24 (0, 0)) from r8)
  clear hw8 r8 hg8 H0
  go_wp2_with (with_reducible refine bodyPost_ret (results_cell_row rfl _ _ w.heap.size 24 V.toArray (0, 0) _ rfl R8.out Tryd.underlying24 rfl hsz.out) rfl ?_)
end Go.Proofs.YtpmibdgghojgaaaDoor
