/- LAYER 10: the document's Decode. -/
import Derived.Test.YthiebbhooigogaaDc0
namespace Go.Proofs.Ythiebbhooigogaa
open Go Go.RowKit

set_option maxRecDepth 20000 in
set_option maxHeartbeats 4000000 in
theorem rdec_fresh (A : Option Addr) (n c : Nat) (l : List UInt8) (w : World) (hs : Sl w A c (byts l)) (hn : n = l.length) (hm : l.length ≤ 1000000) :
    Calls Try.prog 24 #[.slice A n c] w fun e w' => ∃ B d, e = .returned (.tuple #[.agg (tokV ((decT l).getD zeroK) B d).toArray, .bool (decT l).isSome]) ∧ Sl w' B (d * 5) (((decT l).getD zeroK).cavs.flatMap cavV) ∧ (∀ a, B = some a → w.heap.size ≤ a.block) ∧ Below w.heap.size w w' := by
  subst hn
  obtain ⟨i0, hi, hz0, hz1, hz2⟩ := info_cav
  obtain ⟨Z, hZ⟩ : ∃ Z, Z = tokV zeroK none 0 := ⟨_, rfl⟩
  have hbz : ∀ w, (Instr.build 27 #[]).run Try.prog w = .ok (.agg Z.toArray) w := by rw [hZ]; exact build_tok
  have hzl : Z.length = 36 := by rw [hZ]; exact length_tokV zeroK_ok none 0
  have hzK := Lib.hid (show (Try.prog.info? 27).map (·.size) = some Z.toArray.size by rw [size_tok, List.size_toArray, hzl])
  have h36 := Lib.hid (show 36 = Z.toArray.size by rw [List.size_toArray, hzl])
  have honeZ := Lib.hid (all_one (show ∀ v ∈ Z, v.oneCell' = true by rw [hZ]; exact tokV_one _ _ _))
  have HZ := Lib.hid hZ
  have hall := Lib.hid (show ∀ w1, Below w.heap.size w w1 → Calls Try.prog 23 #[.slice A l.length c] w1 fun e w' => ∃ A' c', e = .returned (.tuple #[.slice A' (allD l).length c', .bool (allF l).isSome]) ∧ Sl w' A' (c' * 2) ((allD l).flatMap fdV) ∧ (∀ a, A' = some a → w1.heap.size ≤ a.block) ∧ Below w1.heap.size w1 w' from fun w1 hb => rallf_fresh A l.length c l w1 (hs.later (Nat.le_refl _) hb) rfl hm)
  clear hZ hzl
  go_enter Try.func24, Try.ntmps24
  go_wp2_with (with_reducible refine wpList_store_row rfl 27 (.tmp 4) (.tmp 13) rfl (w.heap.size + 1) _ rfl rfl 27 _ (heap_alloc2_new w _ _) (by kernel_rfl) (by kernel_rfl) (by kernel_rfl) ?_; refine Hid.out ?_)
  refine Lib.hid ?_
  generalize hw1 : World.setRow _ _ _ = w1
  obtain ⟨r0, r1, hb1⟩ := row_new_set2 (old1 := [Value.int .u64 0, .string { data := #[] }, .slice none 0 0, .bool false, .int .u8 0, .int .u8 0, .int .u8 0, .int .u8 0, .int .u8 0, .int .u8 0, .int .u8 0, .int .u8 0, .int .u8 0, .int .u8 0, .int .u8 0, .int .u8 0, .int .u8 0, .int .u8 0, .int .u8 0, .int .u8 0, .int .u8 0, .int .u8 0, .int .u8 0, .int .u8 0, .int .u8 0, .int .u8 0, .int .u8 0, .int .u8 0, .int .u8 0, .int .u8 0, .int .u8 0, .int .u8 0, .int .u8 0, .int .u8 0, .int .u8 0, .int .u8 0]) (xs := [Value.int .u64 0, .string { data := #[] }, .slice none 0 0, .bool false, .int .u8 0, .int .u8 0, .int .u8 0, .int .u8 0, .int .u8 0, .int .u8 0, .int .u8 0, .int .u8 0, .int .u8 0, .int .u8 0, .int .u8 0, .int .u8 0, .int .u8 0, .int .u8 0, .int .u8 0, .int .u8 0, .int .u8 0, .int .u8 0, .int .u8 0, .int .u8 0, .int .u8 0, .int .u8 0, .int .u8 0, .int .u8 0, .int .u8 0, .int .u8 0, .int .u8 0, .int .u8 0, .int .u8 0, .int .u8 0, .int .u8 0, .int .u8 0]) hw1
  rw [← ztok] at r0 r1
  clear hw1
  rw [← HZ.out] at r0 r1
  have hall1 := Lib.hid (hall.out w1 hb1)
  have R0 := Lib.hid (show w1.heap[w.heap.size]? = some (.cells Z.toArray 27 (0, 0)) from r0)
  have R1 := Lib.hid (show w1.heap[w.heap.size + 1]? = some (.cells Z.toArray 27 (0, 0)) from r1)
  have hlt0 := r0.lt
  have hlt1 := r1.lt
  clear hall r0 r1
  cases hq : allF l with
  | none =>
    have hD : allD l = [] := by unfold allD; rw [hq]; rfl
    have HDn := Lib.hid (show decT l = none by unfold decT; rw [hq])
    rw [hq, hD] at hall1
    dsimp only [Option.isSome] at hall1
    clear hq hD hs hm
    go_wp2_with (first
      | (with_reducible refine wpList_load_row rfl 27 (.tmp 4) rfl (w.heap.size + 1) rfl 27 Z.toArray (0, 0) _ R1.out Try.underlying27 rfl hzK.out ?_)
      | (with_reducible refine wpList_store_row rfl 27 (.tmp 2) (.tmp 21) rfl w.heap.size Z.toArray rfl rfl 27 Z.toArray R0.out hzK.out rfl honeZ.out ?_; refine Hid.out ?_)
      | (go_at_call 23; refine hall1.out.mono ?_; rintro e w2 ⟨A2, c2, rfl, _, _, hb2⟩; have R0 := Lib.hid (show w2.heap[w.heap.size]? = some (.cells Z.toArray 27 (0, 0)) from (hb2.block _ hlt0).trans R0.out); have R1 := Lib.hid (show w2.heap[w.heap.size + 1]? = some (.cells Z.toArray 27 (0, 0)) from (hb2.block _ hlt1).trans R1.out); have hbw2 := hb1.trans (hb2.mono hb1.size); clear hb2 hall1))
    refine Lib.hid ?_
    generalize hw3 : World.setRow _ _ _ = w3
    obtain ⟨r3, hg3⟩ := row_set (show Row w2 w.heap.size 27 Z from R0.out) hw3
    have R3 := Lib.hid (show w3.heap[w.heap.size]? = some (.cells Z.toArray 27 (0, 0)) from r3)
    have hbw3 := hbw2.grown hg3 hbw2.size (fun k h => by cases h; exact Nat.le_refl _)
    clear hw3 r3 hg3 R0 R1
    go_wp2_with fail
    exact ⟨rfl, _, results_row_tmp rfl _ _ w.heap.size 27 Z.toArray (0, 0) _ rfl R3.out Try.underlying27 rfl hzK.out _ rfl, none, 0, by rw [HDn.out, HZ.out]; rfl, by rw [HDn.out]; exact ⟨.inl rfl, Nat.le_refl _, fun _ => rfl⟩, (fun a h => by cases h), hbw3⟩
  | some fs =>
    have hD : allD l = fs := by unfold allD; rw [hq]; rfl
    have HDs := Lib.hid (show decT l = if checkT (readT fs) = true ∧ bytesT (readT fs) = l then some (readT fs) else none by unfold decT; rw [hq])
    have hbk := allF_back l fs hq
    have hfl : fs.length ≤ 1000000 := by
      have := joinL_len fs
      rw [hbk.1] at this; omega
    have hfT := Lib.hid (show ∀ f ∈ fs, f.2.length ≤ 1000000 from fun f hf => Nat.le_trans (hbk.2 f hf) hm)
    rw [hq, hD] at hall1
    dsimp only [Option.isSome] at hall1
    clear hq hD hbk
    go_wp2_with (go_at_call 23; refine hall1.out.mono ?_; rintro e wL ⟨A2, c2, rfl, hsl2, hfr2, hb2⟩; have R0 := Lib.hid (show wL.heap[w.heap.size]? = some (.cells Z.toArray 27 (0, 0)) from (hb2.block _ hlt0).trans R0.out); have R1 := Lib.hid (show wL.heap[w.heap.size + 1]? = some (.cells Z.toArray 27 (0, 0)) from (hb2.block _ hlt1).trans R1.out); have hbwL := hb1.trans (hb2.mono hb1.size); have hL0 := Nat.lt_of_lt_of_le hlt0 hb2.size; have hL1 := Nat.lt_of_lt_of_le hlt1 hb2.size; clear hall1)
    have hA2 := Lib.hid (show ∀ a, A2 = some a → a.block ≠ w.heap.size + 1 from fun a ha => by have := hfr2 a ha; omega)
    have hdec0 : DecRel wL (w.heap.size + 1) zeroK wL := ⟨grown_refl _ _, none, 0, by rw [← HZ.out]; exact R1.out, rfl, .inl ⟨rfl, rfl⟩⟩
    clear R1 hfr2 hb2 hlt0 hlt1 hb1
    generalize Value.agg (#[Value.int .u64 0, .string { data := #[] }, .slice none 0 0, .bool false, .int .u8 0, .int .u8 0, .int .u8 0, .int .u8 0, .int .u8 0, .int .u8 0, .int .u8 0, .int .u8 0, .int .u8 0, .int .u8 0, .int .u8 0, .int .u8 0, .int .u8 0, .int .u8 0, .int .u8 0, .int .u8 0, .int .u8 0, .int .u8 0, .int .u8 0, .int .u8 0, .int .u8 0, .int .u8 0, .int .u8 0, .int .u8 0, .int .u8 0, .int .u8 0, .int .u8 0, .int .u8 0, .int .u8 0, .int .u8 0, .int .u8 0, .int .u8 0]) = z13
    go_loopw [24] (fun i wr => ∃ k : Nat, k ≤ fs.length ∧ i = .int .i64 k ∧ DecRel wL (w.heap.size + 1) (readT (fs.take k)) wr) (fun i _ => fs.length - (intOf i).toNat)
    case atStart => exact ⟨0, by omega, rfl, hdec0⟩
    case round =>
      clear hdec0
      obtain ⟨k, hk, rfl, hdec⟩ := hrel
      by_cases hlt : k < fs.length
      · obtain ⟨⟨x, T⟩, hf⟩ : ∃ f, fs[k]? = some f := ⟨_, List.getElem?_eq_getElem hlt⟩
        have HS := Lib.hid (fold_succ fs k (x, T) hf)
        have hcl : (readT (fs.take k)).cavs.length ≤ 1000000 := by
          have := fold_len (fs.take k) zeroK
          rw [List.length_take] at this
          have h2 : (readT (fs.take k)).cavs.length ≤ zeroK.cavs.length + min k fs.length := this
          have h3 : zeroK.cavs.length = 0 := rfl
          omega
        have hok := Lib.hid (readT_ok (fs.take k))
        generalize readT (fs.take k) = t at *
        obtain ⟨hg7, A7, c7, r7, own7⟩ := hdec
        have hgo := Lib.hid (show ∀ g, (Value.slice A7 t.cavs.length c7).ownBlock = some g → wL.heap.size ≤ g ∧ g < wr.heap.size from fun g h => own7.lt g h)
        have HGS := Lib.hid (show w.heap.size + 1 < wr.heap.size from Nat.lt_of_lt_of_le hL1 hg7.size)
        have hTl := hfT.out (x, T) (List.mem_of_getElem? hf)
        have hTl : T.length ≤ 1000000 := hTl
        obtain ⟨b, o, rfl, hb0, hr0⟩ := hsl2.rd.get (i := 0) (by rw [length_fdsV]; omega)
        clear hb0 hr0
        have hix := index_fd (some ⟨b, o, none⟩) b o fs.length c2 k rfl hlt
        have hrg := (hsl2.apart hg7 (fun _ => hA2.out)).thing (k := 2) (fun _ _ => rfl) k (x, T) hf
        have hzf := Lib.hid (show (Try.prog.info? 65).map (·.size) = some (fdV (x, T)).length from size_fd)
        have hzf2 := Lib.hid (show (Try.prog.info? 65).map (·.size) = some (fdV (x, T)).toArray.size from size_fd)
        have hof := Lib.hid (show (fdV (x, T)).toArray.all (·.oneCell') = true from all_one (fun v hv => fdV_one [(x, T)] v (by simpa using hv)))
        obtain ⟨G, hG⟩ : ∃ G, G = getL T := ⟨_, rfl⟩
        obtain ⟨m, m2⟩ := G
        have HG := Lib.hid (show (getL T).1 = m by rw [← hG])
        have hgl := Lib.hid (show ∀ w1 A1 c1, Sl w1 A1 c1 (byts T) → Calls Try.prog 40 #[.slice A1 T.length c1] w1 fun e w' => e = .returned (.tuple #[.int .u64 m, .int .i64 m2]) ∧ Below w1.heap.size w1 w' from fun w1 A1 c1 h => by
          have := rget8_any A1 T.length c1 T w1 h rfl (by omega)
          rw [← hG] at this; exact this)
        clear hG
        obtain ⟨V, hV⟩ : ∃ V, V = fdV (x, T) := ⟨_, rfl⟩
        rw [← hV] at hrg hzf hzf2 hof
        have hV2 := Lib.hid (show (2 : Nat) = V.toArray.size by rw [hV]; rfl)
        have HV := Lib.hid hV
        clear hV hf hTl
        go_wp2_with (first
          | (with_reducible refine wpList_load_mid rfl 65 (.tmp 26) rfl b (o + k * 2) rfl V _ hrg Try.underlying65 rfl hzf.out ?_)
          | (with_reducible refine wpList_store_row rfl 65 (.tmp 8) (.tmp 27) rfl wr.heap.size V.toArray rfl rfl 65 _ (heap_alloc_new wr _) hzf2.out (Eq.trans (by kernel_rfl) hV2.out) hof.out ?_; refine Hid.out ?_))
        refine Lib.hid ?_
        generalize hw5 : World.setRow _ _ _ = w5
        obtain ⟨r8, hb5⟩ := row_new_set (xs := V) hw5
        rw [HV.out] at r8
        have r7 := r7.later hb5 r7.lt
        have own7 := ownk_later own7 hb5 (Nat.le_refl _)
        have hg7 := grown_trans hg7 (grown_of_below hb5 _)
        clear hw5 hb5 hrg hix
        have c81 : w5.cell? ⟨wr.heap.size, 1, none⟩ = some (.string (bstr T)) := by rw [r8.cell]; rfl
        go_wp2_with (first
          | (refine wpList_conv_string rfl (.tmp 30) rfl T rfl ?_; intro A6 c6 w6 hsl6 hb6; have r8 := r8.later hb6 r8.lt; have r7 := r7.later hb6 r7.lt; have own7 := ownk_later own7 hb6 (Nat.le_refl _); have hg7 := grown_trans hg7 (grown_of_below hb6 _); clear hb6 c81)
          | (go_at_call 40; refine (hgl.out _ _ _ hsl6).mono ?_; rintro e w7 ⟨rfl, hb7⟩; have r8 := r8.later hb7 r8.lt; have r7 := r7.later hb7 r7.lt; have own7 := ownk_later own7 hb7 (Nat.le_refl _); have hg7 := grown_trans hg7 (grown_of_below hb7 _); clear hb7 hsl6; have c42 : w7.cell? ⟨w.heap.size + 1, 2, none⟩ = some (.slice A7 t.cavs.length c7) := (by rw [r7.cell]; rfl); refine Hid.out ?_))
        refine Lib.hid ?_
        have hlt8w := r8.lt
        have hle8 := hgo.out
        have hne8 : wr.heap.size ≠ w.heap.size + 1 := by have := HGS.out; omega
        generalize wr.heap.size = g8 at *
        have c81 : w7.cell? ⟨g8, 1, none⟩ = some (.string (bstr T)) := by rw [r8.cell]; rfl
        have c80 : w7.cell? ⟨g8, 0, none⟩ = some (.int .u8 (x.toNat : Int)) := by rw [r8.cell]; rfl
        have hcb : (t.cavs.length : Int) ≤ 1000000 := by omega
        have HEND := Lib.hid (fun (wF : World) (h : DecRel wL (w.heap.size + 1) (stepT t (x, T)) wF) => (show ∃ k' : Nat, k' ≤ fs.length ∧ Value.int .i64 ((k : Int) + 1) = .int .i64 k' ∧ DecRel wL (w.heap.size + 1) (readT (fs.take k')) wF from ⟨k + 1, by omega, by congr 1, by rw [HS.out]; exact h⟩))
        have hk1 : (k : Int) ≤ 1000000 := by omega
        have hgl8 := hgo.out
        clear hle8 hgl8
        rcases kinds x with rfl | rfl | rfl | rfl | rfl | rfl | rfl | rfl | hx
        · have c80 : w7.cell? ⟨g8, 0, none⟩ = some (.int .u8 1) := c80
          have hfz := r7.free 0
          have c4x : w7.cell? ⟨w.heap.size + 1, 0, none⟩ = some (.int .u64 t.key) := by rw [r7.cell]; rfl
          have c80S : (w7.setCell ⟨w.heap.size + 1, 0, none⟩ (.int .u64 m)).cell? ⟨g8, 0, none⟩ = some (.int .u8 1) := (World.cell?_setCell_far _ _ _ _ hne8.symm).trans c80
          have hdec : DecRel wL (w.heap.size + 1) (stepT t (1, T)) (w7.setCell ⟨w.heap.size + 1, 0, none⟩ (.int .u64 m)) := by
            have := dec_key (getL T).1 hg7 r7 own7 hL1
            rw [HG.out] at this
            show DecRel _ _ { t with key := (getL T).1 } _
            rw [HG.out]; exact this
          clear own7 r7 r8 hgo
          go_wp2_with fail
          clear c80 c81 c4x hfz
          generalize w7.setCell ⟨w.heap.size + 1, 0, none⟩ (.int .u64 m) = wS at *
          go_loopw [12] (fun i w2 => i = .int .i64 0 ∧ w2 = wS) (fun _ _ => 0)
          case atStart => exact ⟨rfl, rfl⟩
          case round =>
            obtain ⟨rfl, rfl⟩ := hrel
            go_wp2_with fail
            go_roundw
            case rel => exact HEND.out _ hdec
            case measure => simp [intOf]; omega
        · have c80 : w7.cell? ⟨g8, 0, none⟩ = some (.int .u8 2) := c80
          have hfz := r7.free 1
          have c4x : w7.cell? ⟨w.heap.size + 1, 1, none⟩ = some (.string (bstr t.id)) := by rw [r7.cell]; rfl
          have c80S : (w7.setCell ⟨w.heap.size + 1, 1, none⟩ (.string (bstr T))).cell? ⟨g8, 0, none⟩ = some (.int .u8 2) := (World.cell?_setCell_far _ _ _ _ hne8.symm).trans c80
          have hdec : DecRel wL (w.heap.size + 1) (stepT t (2, T)) (w7.setCell ⟨w.heap.size + 1, 1, none⟩ (.string (bstr T))) := dec_id T hg7 r7 own7 hL1
          clear own7 r7 r8 hgo
          go_wp2_with fail
          clear c80 c81 c4x hfz
          generalize w7.setCell ⟨w.heap.size + 1, 1, none⟩ (.string (bstr T)) = wS at *
          go_loopw [12] (fun i w2 => i = .int .i64 0 ∧ w2 = wS) (fun _ _ => 0)
          case atStart => exact ⟨rfl, rfl⟩
          case round =>
            obtain ⟨rfl, rfl⟩ := hrel
            go_wp2_with fail
            go_roundw
            case rel => exact HEND.out _ hdec
            case measure => simp [intOf]; omega
        · have c80 : w7.cell? ⟨g8, 0, none⟩ = some (.int .u8 3) := c80
          have hba : Below w7.heap.size w7 (w7.alloc (.cells #[.bool false, .string (bstr T), .int .u64 0, .string { data := #[] }, .string { data := #[] }] 51)) := (Below.refl _ _).alloc (Nat.le_refl _) _
          have ownB := ownk_later own7 hba (Nat.le_refl _)
          have hslB : Sl (w7.alloc (.cells #[.bool false, .string (bstr T), .int .u64 0, .string { data := #[] }, .string { data := #[] }] 51)) (some ⟨w7.heap.size, 0, none⟩) (1 * 5) (cavV ⟨false, T, 0, [], []⟩) := ⟨Rd.block (fr := (0, 0)) (t := 51) (Go.heap_alloc_new w7 _), Nat.le_refl _, fun h => by cases h⟩
          have n1 : t.cavs.length + 1 ≤ maxLen := by unfold maxLen; omega
          have n2 : (t.cavs.length + 1) * 64 ≤ 140737488355328 := by omega
          have hszB := Nat.le_trans hg7.size hba.size
          have r7 := r7.later hba r7.lt
          have r8 := r8.later hba r8.lt
          have hg7 := grown_trans hg7 (grown_of_below hba _)
          clear own7 hba
          go_wp2_with (at_builtin; refine wpList_append_k rfl (.tmp 54) (.tmp 58) 23 rfl wL.heap.size 51 i0 _ 5 64 Try.underlying23 hi hz0 hz1 (by omega) hz2 rfl _ t.cavs.length (t.cavs.flatMap cavV) rfl ownB (some ⟨w7.heap.size, 0, none⟩) 1 1 (cavV ⟨false, T, 0, [], []⟩) rfl rfl hslB (fun v hv => cavV_one [⟨false, T, 0, [], []⟩] v (by simpa using hv)) n1 n2 hszB ?_; intro v8 w8 own8 hgr8; obtain ⟨A8, c8, rfl, _, _⟩ := Sl.of_ownk own8; have r7 := r7.kept hgr8 (fun k h => by have := (hgo.out k h).1; omega); have r8 := r8.kept hgr8 (fun k h => by have := (hgo.out k h).2; omega); have hg7 := grown_own hg7 hgr8 (fun k h => (hgo.out k h).1); have hfz := r7.free 2; have c4x : w8.cell? ⟨w.heap.size + 1, 2, none⟩ = some (.slice A7 t.cavs.length c7) := (by rw [r7.cell]; rfl); have c80S : (w8.setCell ⟨w.heap.size + 1, 2, none⟩ (.slice A8 (t.cavs.length + 1) c8)).cell? ⟨g8, 0, none⟩ = some (.int .u8 3) := ((World.cell?_setCell_far _ _ _ _ hne8.symm).trans (by rw [r8.cell]; rfl)); have hdec : DecRel wL (w.heap.size + 1) (stepT t (3, T)) (w8.setCell ⟨w.heap.size + 1, 2, none⟩ (.slice A8 (t.cavs.length + 1) c8)) := dec_append ⟨false, T, 0, [], []⟩ hg7 r7 own8 hL1; clear c42 ownB r7 r8 own8 hgo hslB)
          clear c80 c81 c4x hfz
          generalize w8.setCell ⟨w.heap.size + 1, 2, none⟩ (.slice A8 (t.cavs.length + 1) c8) = wS at *
          go_loopw [12] (fun i w2 => i = .int .i64 0 ∧ w2 = wS) (fun _ _ => 0)
          case atStart => exact ⟨rfl, rfl⟩
          case round =>
            obtain ⟨rfl, rfl⟩ := hrel
            go_wp2_with fail
            go_roundw
            case rel => exact HEND.out _ hdec
            case measure => simp [intOf]; omega
        · have c80 : w7.cell? ⟨g8, 0, none⟩ = some (.int .u8 4) := c80
          have hba : Below w7.heap.size w7 (w7.alloc (.cells #[.bool true, .string { data := #[] }, .int .u64 m, .string { data := #[] }, .string { data := #[] }] 51)) := (Below.refl _ _).alloc (Nat.le_refl _) _
          have ownB := ownk_later own7 hba (Nat.le_refl _)
          have hslB : Sl (w7.alloc (.cells #[.bool true, .string { data := #[] }, .int .u64 m, .string { data := #[] }, .string { data := #[] }] 51)) (some ⟨w7.heap.size, 0, none⟩) (1 * 5) (cavV ⟨true, [], m, [], []⟩) := ⟨Rd.block (fr := (0, 0)) (t := 51) (Go.heap_alloc_new w7 _), Nat.le_refl _, fun h => by cases h⟩
          have n1 : t.cavs.length + 1 ≤ maxLen := by unfold maxLen; omega
          have n2 : (t.cavs.length + 1) * 64 ≤ 140737488355328 := by omega
          have hszB := Nat.le_trans hg7.size hba.size
          have r7 := r7.later hba r7.lt
          have r8 := r8.later hba r8.lt
          have hg7 := grown_trans hg7 (grown_of_below hba _)
          clear own7 hba
          go_wp2_with (at_builtin; refine wpList_append_k rfl (.tmp 65) (.tmp 68) 23 rfl wL.heap.size 51 i0 _ 5 64 Try.underlying23 hi hz0 hz1 (by omega) hz2 rfl _ t.cavs.length (t.cavs.flatMap cavV) rfl ownB (some ⟨w7.heap.size, 0, none⟩) 1 1 (cavV ⟨true, [], m, [], []⟩) rfl rfl hslB (fun v hv => cavV_one [⟨true, [], m, [], []⟩] v (by simpa using hv)) n1 n2 hszB ?_; intro v8 w8 own8 hgr8; obtain ⟨A8, c8, rfl, _, _⟩ := Sl.of_ownk own8; have r7 := r7.kept hgr8 (fun k h => by have := (hgo.out k h).1; omega); have r8 := r8.kept hgr8 (fun k h => by have := (hgo.out k h).2; omega); have hg7 := grown_own hg7 hgr8 (fun k h => (hgo.out k h).1); have hfz := r7.free 2; have c4x : w8.cell? ⟨w.heap.size + 1, 2, none⟩ = some (.slice A7 t.cavs.length c7) := (by rw [r7.cell]; rfl); have c80S : (w8.setCell ⟨w.heap.size + 1, 2, none⟩ (.slice A8 (t.cavs.length + 1) c8)).cell? ⟨g8, 0, none⟩ = some (.int .u8 4) := ((World.cell?_setCell_far _ _ _ _ hne8.symm).trans (by rw [r8.cell]; rfl)); have hdec : DecRel wL (w.heap.size + 1) (stepT t (4, T)) (w8.setCell ⟨w.heap.size + 1, 2, none⟩ (.slice A8 (t.cavs.length + 1) c8)) := (by have := dec_append ⟨true, [], m, [], []⟩ hg7 r7 own8 hL1; rw [← HG.out] at this; exact this); clear c42 ownB r7 r8 own8 hgo hslB)
          clear c80 c81 c4x hfz
          generalize w8.setCell ⟨w.heap.size + 1, 2, none⟩ (.slice A8 (t.cavs.length + 1) c8) = wS at *
          go_loopw [12] (fun i w2 => i = .int .i64 0 ∧ w2 = wS) (fun _ _ => 0)
          case atStart => exact ⟨rfl, rfl⟩
          case round =>
            obtain ⟨rfl, rfl⟩ := hrel
            go_wp2_with fail
            go_roundw
            case rel => exact HEND.out _ hdec
            case measure => simp [intOf]; omega
        · have c80 : w7.cell? ⟨g8, 0, none⟩ = some (.int .u8 5) := c80
          by_cases hn0 : t.cavs.length = 0
          · have hnn : (t.cavs.length : Int) - 1 = -1 := by omega
            have hdec : DecRel wL (w.heap.size + 1) (stepT t (5, T)) w7 := by
              have e : stepT t (5, T) = t := by
                show Tok.mk t.key t.id (t.cavs.modify _ _) t.bound t.tag = t
                rw [List.eq_nil_of_length_eq_zero hn0, List.modify_nil]
                obtain ⟨_, _, cs, _, _⟩ := t
                rw [show cs = [] from List.eq_nil_of_length_eq_zero hn0]
              rw [e]; exact ⟨hg7, A7, c7, r7, own7⟩
            clear own7 r7 r8 hgo
            go_wp2_with fail
            generalize w7 = wS at *
            go_loopw [12] (fun i w2 => i = .int .i64 0 ∧ w2 = wS) (fun _ _ => 0)
            case atStart => exact ⟨rfl, rfl⟩
            case round =>
              obtain ⟨rfl, rfl⟩ := hrel
              go_wp2_with fail
              go_roundw
              case rel => exact HEND.out _ hdec
              case measure => simp [intOf]; omega
          · obtain ⟨go, hAq, hgo1, hgo2, hcq, hfq⟩ := ownk_cell own7 ((t.cavs.length - 1) * 5 + 3) (by rw [length_cavsV]; omega)
            obtain ⟨v0, hv0⟩ : ∃ v0, (t.cavs.flatMap cavV)[(t.cavs.length - 1) * 5 + 3]? = some v0 := ⟨_, List.getElem?_eq_getElem (by rw [length_cavsV]; omega)⟩
            rw [hv0] at hcq
            clear hv0
            subst hAq
            have hlt8 : go < g8 := (hgo.out go rfl).2
            have hnn : (t.cavs.length : Int) - 1 = ((t.cavs.length - 1 : Nat) : Int) := by omega
            have hixq : ∀ w, (Instr.indexAt 23 (.slice (some ⟨go, 0, none⟩) t.cavs.length c7) (.int .i64 ((t.cavs.length : Int) - 1))).run Try.prog w = .ok (.pointer (some ⟨go, (t.cavs.length - 1) * 5, none⟩)) w := fun w => by
              have := index_cav (some ⟨go, 0, none⟩) go 0 t.cavs.length c7 (t.cavs.length - 1) rfl (by omega) w
              rw [Nat.zero_add] at this
              rw [hnn]; exact this
            have hdec : DecRel wL (w.heap.size + 1) (stepT t (5, T)) (w7.setCell ⟨go, (t.cavs.length - 1) * 5 + 3, none⟩ (.string (bstr T))) :=
              dec_mod 3 (.string (bstr T)) (fun c => { c with id := T }) (by decide) (fun c => rfl) hg7 r7 own7 hL1 hgo1 (by omega)
            have hge : 0 ≤ (t.cavs.length : Int) - 1 := by omega
            have c80S : (w7.setCell ⟨go, (t.cavs.length - 1) * 5 + 3, none⟩ (.string (bstr T))).cell? ⟨g8, 0, none⟩ = some (.int .u8 5) := (World.cell?_setCell_far _ _ _ _ (by show go ≠ g8; omega)).trans c80
            clear own7 r7 r8 hgo hnn
            generalize (t.cavs.length - 1) * 5 = q at *
            go_wp2_with fail
            clear c80 c81 hcq hfq c42
            generalize w7.setCell ⟨go, q + 3, none⟩ (.string (bstr T)) = wS at *
            go_loopw [12] (fun i w2 => i = .int .i64 0 ∧ w2 = wS) (fun _ _ => 0)
            case atStart => exact ⟨rfl, rfl⟩
            case round =>
              obtain ⟨rfl, rfl⟩ := hrel
              go_wp2_with fail
              go_roundw
              case rel => exact HEND.out _ hdec
              case measure => simp [intOf]; omega
        · have c80 : w7.cell? ⟨g8, 0, none⟩ = some (.int .u8 6) := c80
          by_cases hn0 : t.cavs.length = 0
          · have hnn : (t.cavs.length : Int) - 1 = -1 := by omega
            have hdec : DecRel wL (w.heap.size + 1) (stepT t (6, T)) w7 := by
              have e : stepT t (6, T) = t := by
                show Tok.mk t.key t.id (t.cavs.modify _ _) t.bound t.tag = t
                rw [List.eq_nil_of_length_eq_zero hn0, List.modify_nil]
                obtain ⟨_, _, cs, _, _⟩ := t
                rw [show cs = [] from List.eq_nil_of_length_eq_zero hn0]
              rw [e]; exact ⟨hg7, A7, c7, r7, own7⟩
            clear own7 r7 r8 hgo
            go_wp2_with fail
            generalize w7 = wS at *
            go_loopw [12] (fun i w2 => i = .int .i64 0 ∧ w2 = wS) (fun _ _ => 0)
            case atStart => exact ⟨rfl, rfl⟩
            case round =>
              obtain ⟨rfl, rfl⟩ := hrel
              go_wp2_with fail
              go_roundw
              case rel => exact HEND.out _ hdec
              case measure => simp [intOf]; omega
          · obtain ⟨go, hAq, hgo1, hgo2, hcq, hfq⟩ := ownk_cell own7 ((t.cavs.length - 1) * 5 + 4) (by rw [length_cavsV]; omega)
            obtain ⟨v0, hv0⟩ : ∃ v0, (t.cavs.flatMap cavV)[(t.cavs.length - 1) * 5 + 4]? = some v0 := ⟨_, List.getElem?_eq_getElem (by rw [length_cavsV]; omega)⟩
            rw [hv0] at hcq
            clear hv0
            subst hAq
            have hlt8 : go < g8 := (hgo.out go rfl).2
            have hnn : (t.cavs.length : Int) - 1 = ((t.cavs.length - 1 : Nat) : Int) := by omega
            have hixq : ∀ w, (Instr.indexAt 23 (.slice (some ⟨go, 0, none⟩) t.cavs.length c7) (.int .i64 ((t.cavs.length : Int) - 1))).run Try.prog w = .ok (.pointer (some ⟨go, (t.cavs.length - 1) * 5, none⟩)) w := fun w => by
              have := index_cav (some ⟨go, 0, none⟩) go 0 t.cavs.length c7 (t.cavs.length - 1) rfl (by omega) w
              rw [Nat.zero_add] at this
              rw [hnn]; exact this
            have hdec : DecRel wL (w.heap.size + 1) (stepT t (6, T)) (w7.setCell ⟨go, (t.cavs.length - 1) * 5 + 4, none⟩ (.string (bstr T))) :=
              dec_mod 4 (.string (bstr T)) (fun c => { c with vault := T }) (by decide) (fun c => rfl) hg7 r7 own7 hL1 hgo1 (by omega)
            have hge : 0 ≤ (t.cavs.length : Int) - 1 := by omega
            have c80S : (w7.setCell ⟨go, (t.cavs.length - 1) * 5 + 4, none⟩ (.string (bstr T))).cell? ⟨g8, 0, none⟩ = some (.int .u8 6) := (World.cell?_setCell_far _ _ _ _ (by show go ≠ g8; omega)).trans c80
            clear own7 r7 r8 hgo hnn
            generalize (t.cavs.length - 1) * 5 = q at *
            go_wp2_with fail
            clear c80 c81 hcq hfq c42
            generalize w7.setCell ⟨go, q + 4, none⟩ (.string (bstr T)) = wS at *
            go_loopw [12] (fun i w2 => i = .int .i64 0 ∧ w2 = wS) (fun _ _ => 0)
            case atStart => exact ⟨rfl, rfl⟩
            case round =>
              obtain ⟨rfl, rfl⟩ := hrel
              go_wp2_with fail
              go_roundw
              case rel => exact HEND.out _ hdec
              case measure => simp [intOf]; omega
        · have c80 : w7.cell? ⟨g8, 0, none⟩ = some (.int .u8 7) := c80
          have hba : Below w7.heap.size w7 (w7.alloc (.cells #[.int .u8 1] 5)) := (Below.refl _ _).alloc (Nat.le_refl _) _
          have hslB : Sl (w7.alloc (.cells #[.int .u8 1] 5)) (some ⟨w7.heap.size, 0, none⟩) 1 (byts [1]) := ⟨Rd.block (fr := (0, 0)) (t := 5) (Go.heap_alloc_new w7 _), Nat.le_refl _, fun h => by cases h⟩
          have hcv := conv_bytes hslB 1 rfl
          have r7 := r7.later hba r7.lt
          have r8 := r8.later hba r8.lt
          have own7 := ownk_later own7 hba (Nat.le_refl _)
          have hg7 := grown_trans hg7 (grown_of_below hba _)
          have hfz := r7.free 3
          have c4x : (w7.alloc (.cells #[.int .u8 1] 5)).cell? ⟨w.heap.size + 1, 3, none⟩ = some (.bool t.bound) := by rw [r7.cell]; rfl
          have c8x : (w7.alloc (.cells #[.int .u8 1] 5)).cell? ⟨g8, 0, none⟩ = some (.int .u8 7) := by rw [r8.cell]; rfl
          have hbq := bstr_beq T [1]
          obtain ⟨U1, hU1⟩ : ∃ U, U = bstr [1] := ⟨_, rfl⟩
          rw [← hU1] at hcv hbq
          clear hU1
          obtain ⟨bq, hbd⟩ : ∃ bq, bq = decide (T = [1]) := ⟨_, rfl⟩
          have hdec : DecRel wL (w.heap.size + 1) (stepT t (7, T)) ((w7.alloc (.cells #[.int .u8 1] 5)).setCell ⟨w.heap.size + 1, 3, none⟩ (.bool bq)) := by
            rw [hbd]; exact dec_bound (decide (T = [1])) hg7 r7 own7 hL1
          rw [← hbd] at hbq
          have c80S : ((w7.alloc (.cells #[.int .u8 1] 5)).setCell ⟨w.heap.size + 1, 3, none⟩ (.bool bq)).cell? ⟨g8, 0, none⟩ = some (.int .u8 7) := (World.cell?_setCell_far _ _ _ _ hne8.symm).trans c8x
          clear own7 r7 r8 hgo hba hslB hbd
          generalize bstr T = UT at *
          go_wp2_with fail
          clear c80 c81 c4x hfz c8x
          generalize (w7.alloc (.cells #[.int .u8 1] 5)).setCell ⟨w.heap.size + 1, 3, none⟩ (.bool bq) = wS at *
          go_loopw [12] (fun i w2 => i = .int .i64 0 ∧ w2 = wS) (fun _ _ => 0)
          case atStart => exact ⟨rfl, rfl⟩
          case round =>
            obtain ⟨rfl, rfl⟩ := hrel
            go_wp2_with fail
            go_roundw
            case rel => exact HEND.out _ hdec
            case measure => simp [intOf]; omega
        · have c80 : w7.cell? ⟨g8, 0, none⟩ = some (.int .u8 8) := c80
          have htl := Lib.hid hok.out.tag
          go_wp2_with fail
          clear c80 c81 c42
          go_loopw [12] (fun i w2 => ∃ j : Nat, j ≤ 32 ∧ j ≤ T.length ∧ i = .int .i64 j ∧ wL.grownBy w2 (some (w.heap.size + 1)) ∧ Row w2 (w.heap.size + 1) 27 (tokV { t with tag := T.take j ++ t.tag.drop j } A7 c7) ∧ w2.ownsRow wL.heap.size 51 5 (.slice A7 t.cavs.length c7) t.cavs.length (t.cavs.flatMap cavV) ∧ Row w2 g8 65 (fdV (8, T))) (fun i _ => 32 - (intOf i).toNat)
          case atStart => exact ⟨0, by omega, by omega, rfl, hg7, by rw [List.take_zero, List.nil_append, List.drop_zero]; exact r7, own7, r8⟩
          case round =>
            clear hg7 r7 own7 r8
            obtain ⟨j, hj32, hjT, rfl, hg7, r7, own7, r8⟩ := hrel
            have c80 : wr.cell? ⟨g8, 0, none⟩ = some (.int .u8 8) := by rw [r8.cell]; rfl
            have c81 : wr.cell? ⟨g8, 1, none⟩ = some (.string (bstr T)) := by rw [r8.cell]; rfl
            have hzT := size_bstr T
            by_cases h32 : j < 32
            · by_cases hTj : j < T.length
              · have h32i : (j : Int) < 32 := by omega
                have hTi : (j : Int) < (T.length : Int) := by omega
                have hixT := index_bstr T j hTj
                have hlt8 : j < (T.take j ++ t.tag.drop j).length := by rw [List.length_append, List.length_take, List.length_drop, htl.out]; omega
                have c4x : wr.cell? ⟨w.heap.size + 1, 4 + j, none⟩ = some (.int .u8 (((T.take j ++ t.tag.drop j).getD j 0).toNat : Int)) := by
                  rw [r7.cell, tok_get_tag, get_byts _ _ hlt8]
                have hfz := r7.free (4 + j)
                have r7n := r7.set (4 + j) (.int .u8 ((T.getD j 0).toNat : Int))
                rw [tok_set_tag] at r7n
                dsimp only at r7n
                rw [tag_succ T t.tag j hTj (by rw [htl.out]; exact h32)] at r7n
                have R7N := Lib.hid r7n
                clear r7n r7 hlt8
                generalize (T.take j ++ t.tag.drop j).getD j 0 = old at *
                generalize T.getD j 0 = y at *
                go_wp2_with fail
                go_roundw
                case rel => exact ⟨j + 1, by omega, by omega, by go_num, grown_trans hg7 (grown_setCell _ _ _ _), R7N.out, ownk_grown own7 (grown_setCell _ _ _ _) hL1, r8.far _ _ (by show g8 ≠ w.heap.size + 1; exact hne8)⟩
                case measure => simp [intOf]; omega
              · have h32i : (j : Int) < 32 := by omega
                have hTi : ¬ (j : Int) < (T.length : Int) := by omega
                have hdec : DecRel wL (w.heap.size + 1) (stepT t (8, T)) wr := by
                  show DecRel wL (w.heap.size + 1) { t with tag := T.take 32 ++ t.tag.drop (T.take 32).length } wr
                  rw [← tag_end T t.tag j (by omega)]; exact ⟨hg7, A7, c7, r7, own7⟩
                clear r7 own7 r8
                go_wp2_with fail
                go_roundw
                case rel => exact HEND.out _ hdec
                case measure => simp [intOf]; omega
            · have h32i : ¬ (j : Int) < 32 := by omega
              have hdec : DecRel wL (w.heap.size + 1) (stepT t (8, T)) wr := by
                show DecRel wL (w.heap.size + 1) { t with tag := T.take 32 ++ t.tag.drop (T.take 32).length } wr
                rw [← tag_end T t.tag j (by omega)]; exact ⟨hg7, A7, c7, r7, own7⟩
              clear r7 own7 r8
              go_wp2_with fail
              go_roundw
              case rel => exact HEND.out _ hdec
              case measure => simp [intOf]; omega
        · obtain ⟨x1, x2, x3, x4, x5, x6, x7, x8⟩ := hx
          have hdec : DecRel wL (w.heap.size + 1) (stepT t (x, T)) w7 := by
            have e : stepT t (x, T) = t := by unfold stepT; rw [if_neg x1, if_neg x2, if_neg x3, if_neg x4, if_neg x5, if_neg x6, if_neg x7, if_neg x8]
            rw [e]; exact ⟨hg7, A7, c7, r7, own7⟩
          have y1 : ((x.toNat : Int) == 1) = false := kind_ne x 1 x1
          have y2 : ((x.toNat : Int) == 2) = false := kind_ne x 2 x2
          have y3 : ((x.toNat : Int) == 3) = false := kind_ne x 3 x3
          have y4 : ((x.toNat : Int) == 4) = false := kind_ne x 4 x4
          have y5 : ((x.toNat : Int) == 5) = false := kind_ne x 5 x5
          have y6 : ((x.toNat : Int) == 6) = false := kind_ne x 6 x6
          have y7 : ((x.toNat : Int) == 7) = false := kind_ne x 7 x7
          have y8 : ((x.toNat : Int) == 8) = false := kind_ne x 8 x8
          clear own7 r7 r8 hgo x1 x2 x3 x4 x5 x6 x7 x8
          go_wp2_with fail
          generalize w7 = wS at *
          go_loopw [12] (fun i w2 => i = .int .i64 0 ∧ w2 = wS) (fun _ _ => 0)
          case atStart => exact ⟨rfl, rfl⟩
          case round =>
            obtain ⟨rfl, rfl⟩ := hrel
            go_wp2_with fail
            go_roundw
            case rel => exact HEND.out _ hdec
            case measure => simp [intOf]; omega
      · obtain rfl : k = fs.length := by omega
        rw [List.take_length] at hdec
        have hok := readT_ok fs
        have hcl : (readT fs).cavs.length ≤ 1000000 := by
          have := fold_len fs zeroK
          have h2 : (readT fs).cavs.length ≤ zeroK.cavs.length + fs.length := this
          have h3 : zeroK.cavs.length = 0 := rfl
          omega
        generalize readT fs = t at *
        obtain ⟨hg4, A4, c4, r4, own4⟩ := hdec
        obtain ⟨_, _, hve, _, hsl4⟩ := Sl.of_ownk own4
        injection hve with e1 e2 e3
        subst e1 e3
        have hRF := Lib.hid (show ∀ w', Below wr.heap.size wr w' → w'.heap[w.heap.size]? = some (.cells Z.toArray 27 (0, 0)) from fun w' h => (h.block _ (Nat.lt_of_lt_of_le hL0 hg4.size)).trans ((hg4.block _ hL0 (fun e => by have := Option.some.inj e; omega)).trans R0.out))
        have hbR := Lib.hid (show ∀ w', Below wr.heap.size wr w' → Below w.heap.size w w' from fun w' h => (hbwL.grown hg4 hbwL.size (fun k h => by cases h; omega)).trans (h.mono (Nat.le_trans hbwL.size hg4.size)))
        have hchk := Lib.hid (show ∀ w', Sl w' A4 (c4 * 5) (t.cavs.flatMap cavV) → Calls Try.prog 28 #[.agg (tokV t A4 c4).toArray] w' fun e w'' => e = .returned (.bool (checkT t)) ∧ Below w'.heap.size w' w'' from fun w' h => rcheck_any t A4 c4 w' h)
        have hbyT := Lib.hid (fun (hc : checkT t = true) w' (h : Sl w' A4 (c4 * 5) (t.cavs.flatMap cavV)) => rbytesT_any t hok A4 c4 w' h (bytesT_len hok hc) hcl)
        have hV4 := length_tokV hok A4 c4
        have hone4 := Lib.hid (all_one (tokV_one t A4 c4))
        obtain ⟨V4, hV4q⟩ : ∃ V, V = tokV t A4 c4 := ⟨_, rfl⟩
        rw [← hV4q] at hV4 r4 hchk hbyT hone4
        have HV4 := Lib.hid hV4q
        have hzV4 := Lib.hid (show (Try.prog.info? 27).map (·.size) = some V4.length by rw [size_tok, hV4])
        have hzV4a := Lib.hid (show (Try.prog.info? 27).map (·.size) = some V4.toArray.size by rw [size_tok, List.size_toArray, hV4])
        have hzz := Lib.hid (show Z.toArray.size = V4.toArray.size by rw [← h36.out, List.size_toArray, hV4])
        have hcvl := fun w' (h : Below wr.heap.size wr w') => conv_bytes ((hs.later (Nat.le_refl _) (hbR.out w' h))) l.length rfl
        clear hV4 hV4q hlt hk hsl2 hA2 R0 hfT hcl
        cases hck : checkT t with
        | false =>
          have HDn := Lib.hid (show decT l = none by rw [HDs.out, if_neg (fun h => by rw [hck] at h; exact Bool.false_ne_true h.1)])
          rw [hck] at hchk
          clear hck own4
          go_wp2_with fail
          refine wp_region_noPanic ?_
          refine wp_region_held_drew (S := fun w' => Below wr.heap.size wr w') (by kernel_rfl) ((Below.refl _ _).drew) (fun hHeld => ?_)
          refine rtake 0 _ (some 132) _ rfl rfl (by kernel_rfl) (by kernel_rfl) (by kernel_rfl) (fun _ _ _ h => h) (by rfl) hHeld (by intro w hS; exact run_load_op 27 (.tmp 4) rfl _ 0 rfl V4 _ (row_range (r4.later hS r4.lt)) Try.underlying27 rfl hzV4.out) ?_
          try (first | (rw [put_some]; dsimp only [List.set]) | rw [put_none])
          refine wpAnyH_ready (rs := [1]) (by kernel_rfl) (by simp) (AllReadyH.cons (o := _) rfl (fun K hK => ?_) AllReadyH.nil)
          go_simp
          refine (hchk.out _ (hsl4.later (Nat.le_refl _) hHeld)).mono ?_; rintro e w5 ⟨rfl, hb5⟩; have hq5 := hHeld.trans (hb5.mono hHeld.size)
          try go_wp2_with fail
          refine hK.out _ _ (hq5) (fun hHeld => ?_)
          clear hK K
          try (first | (rw [put_some]; dsimp only [List.set]) | rw [put_none])
          refine rtake 2 _ (some 134) _ rfl rfl (by kernel_rfl) (by kernel_rfl) (by kernel_rfl) (fun _ _ _ h => h) (by rfl) hHeld (by intro w hS; go_simp; try with_reducible rfl) ?_
          try (first | (rw [put_some]; dsimp only [List.set]) | rw [put_none])
          refine rtake 3 _ (some 135) _ rfl rfl (by kernel_rfl) (by kernel_rfl) (by kernel_rfl) (fun _ _ _ h => h) (by rfl) hHeld (by intro w hS; go_simp; try with_reducible rfl) ?_
          try (first | (rw [put_some]; dsimp only [List.set]) | rw [put_none])
          refine rskip 4 _ (some 136) rfl rfl (by kernel_rfl) (by kernel_rfl) (by kernel_rfl) (fun _ _ _ h => h) (by rfl) hHeld ?_
          try (first | (rw [put_some]; dsimp only [List.set]) | rw [put_none])
          refine rskip 5 _ (some 137) rfl rfl (by kernel_rfl) (by kernel_rfl) (by kernel_rfl) (fun _ _ _ h => h) (by rfl) hHeld ?_
          try (first | (rw [put_some]; dsimp only [List.set]) | rw [put_none])
          refine rskip 6 _ (some 138) rfl rfl (by kernel_rfl) (by kernel_rfl) (by kernel_rfl) (fun _ _ _ h => h) (by rfl) hHeld ?_
          try (first | (rw [put_some]; dsimp only [List.set]) | rw [put_none])
          refine rskip 7 _ (some 139) rfl rfl (by kernel_rfl) (by kernel_rfl) (by kernel_rfl) (fun _ _ _ h => h) (by rfl) hHeld ?_
          try (first | (rw [put_some]; dsimp only [List.set]) | rw [put_none])
          refine rskip 8 _ (some 140) rfl rfl (by kernel_rfl) (by kernel_rfl) (by kernel_rfl) (fun _ _ _ h => h) (by rfl) hHeld ?_
          try (first | (rw [put_some]; dsimp only [List.set]) | rw [put_none])
          refine rskip 9 _ (some 141) rfl rfl (by kernel_rfl) (by kernel_rfl) (by kernel_rfl) (fun _ _ _ h => h) (by rfl) hHeld ?_
          try (first | (rw [put_some]; dsimp only [List.set]) | rw [put_none])
          refine rtake 10 _ (some 142) _ rfl rfl (by kernel_rfl) (by kernel_rfl) (by kernel_rfl) (fun _ _ _ h => h) (by rfl) hHeld (by intro w hS; go_simp; try with_reducible rfl) ?_
          try (first | (rw [put_some]; dsimp only [List.set]) | rw [put_none])
          refine wpAnyH_done (by kernel_rfl) ?_ _
          refine NoPanic.normal ?_
          have hgR := hRF.out _ hHeld
          clear r4 hsl4
          go_wp2_with (with_reducible refine wpList_store_row rfl 27 (.tmp 2) (.tmp 143) rfl w.heap.size _ rfl rfl 27 Z.toArray hgR (by kernel_rfl) (Eq.trans h36.out.symm (by kernel_rfl)) (by kernel_rfl) ?_; refine Hid.out ?_)
          refine Lib.hid ?_
          generalize hw9 : World.setRow _ _ _ = w9
          obtain ⟨r9, hg9⟩ := row_set (xs := [Value.int .u64 0, .string { data := #[] }, .slice none 0 0, .bool false, .int .u8 0, .int .u8 0, .int .u8 0, .int .u8 0, .int .u8 0, .int .u8 0, .int .u8 0, .int .u8 0, .int .u8 0, .int .u8 0, .int .u8 0, .int .u8 0, .int .u8 0, .int .u8 0, .int .u8 0, .int .u8 0, .int .u8 0, .int .u8 0, .int .u8 0, .int .u8 0, .int .u8 0, .int .u8 0, .int .u8 0, .int .u8 0, .int .u8 0, .int .u8 0, .int .u8 0, .int .u8 0, .int .u8 0, .int .u8 0, .int .u8 0, .int .u8 0]) (show Row _ w.heap.size 27 Z from hgR) hw9
          rw [← ztok, ← HZ.out] at r9
          have R9 := Lib.hid (show w9.heap[w.heap.size]? = some (.cells Z.toArray 27 (0, 0)) from r9)
          have hb9 := (hbR.out _ hHeld).grown hg9 (hbR.out _ hHeld).size (fun k h => by cases h; exact Nat.le_refl _)
          clear hw9 r9 hg9 hgR
          go_wp2_with fail
          exact ⟨rfl, _, results_row_tmp rfl _ _ w.heap.size 27 Z.toArray (0, 0) _ rfl R9.out Try.underlying27 rfl hzK.out _ rfl, none, 0, by rw [HDn.out, HZ.out]; rfl, by rw [HDn.out]; exact ⟨.inl rfl, Nat.le_refl _, fun _ => rfl⟩, (fun a h => by cases h), hb9⟩
        | true =>
          by_cases hbq : bytesT t = l
          · have HDn := Lib.hid (show decT l = some t by rw [HDs.out, if_pos ⟨hck, hbq⟩])
            rw [hck] at hchk
            have hbyT := Lib.hid (hbyT.out hck)
            have hbe : ((bstr (bytesT t)).toList == (bstr l).toList) = true := by rw [bstr_beq]; exact decide_eq_true hbq
            obtain ⟨UB, hUB⟩ : ∃ U, U = bstr (bytesT t) := ⟨_, rfl⟩
            obtain ⟨UL, hUL⟩ : ∃ U, U = bstr l := ⟨_, rfl⟩
            rw [← hUB, ← hUL] at hbe
            rw [← hUL] at hcvl
            have HUB := Lib.hid hUB
            clear hUB hUL
            clear hck hbq
            generalize bytesT t = bt at *
            go_wp2_with fail
            refine wp_region_noPanic ?_
            refine wp_region_held_drew (S := fun w' => Below wr.heap.size wr w') (by kernel_rfl) ((Below.refl _ _).drew) (fun hHeld => ?_)
            refine rtake 0 _ (some 132) _ rfl rfl (by kernel_rfl) (by kernel_rfl) (by kernel_rfl) (fun _ _ _ h => h) (by rfl) hHeld (by intro w hS; exact run_load_op 27 (.tmp 4) rfl _ 0 rfl V4 _ (row_range (r4.later hS r4.lt)) Try.underlying27 rfl hzV4.out) ?_
            try (first | (rw [put_some]; dsimp only [List.set]) | rw [put_none])
            refine wpAnyH_ready (rs := [1]) (by kernel_rfl) (by simp) (AllReadyH.cons (o := _) rfl (fun K hK => ?_) AllReadyH.nil)
            go_simp
            refine (hchk.out _ (hsl4.later (Nat.le_refl _) hHeld)).mono ?_; rintro e w5 ⟨rfl, hb5⟩; have hq5 := hHeld.trans (hb5.mono hHeld.size)
            try go_wp2_with fail
            refine hK.out _ _ (hq5) (fun hHeld => ?_)
            clear hK K
            try (first | (rw [put_some]; dsimp only [List.set]) | rw [put_none])
            refine rtake 2 _ (some 134) _ rfl rfl (by kernel_rfl) (by kernel_rfl) (by kernel_rfl) (fun _ _ _ h => h) (by rfl) hHeld (by intro w hS; go_simp; try with_reducible rfl) ?_
            try (first | (rw [put_some]; dsimp only [List.set]) | rw [put_none])
            refine rtake 3 _ (some 135) _ rfl rfl (by kernel_rfl) (by kernel_rfl) (by kernel_rfl) (fun _ _ _ h => h) (by rfl) hHeld (by intro w hS; go_simp; try with_reducible rfl) ?_
            try (first | (rw [put_some]; dsimp only [List.set]) | rw [put_none])
            refine rtake 4 _ (some 136) _ rfl rfl (by kernel_rfl) (by kernel_rfl) (by kernel_rfl) (fun _ _ _ h => h) (by rfl) hHeld (by intro w hS; exact run_load_op 27 (.tmp 4) rfl _ 0 rfl V4 _ (row_range (r4.later hS r4.lt)) Try.underlying27 rfl hzV4.out) ?_
            try (first | (rw [put_some]; dsimp only [List.set]) | rw [put_none])
            refine rtake 7 _ (some 139) _ rfl rfl (by kernel_rfl) (by kernel_rfl) (by kernel_rfl) (fun _ _ _ h => h) (by rfl) hHeld (by intro w hS; go_simp; try with_reducible rfl) ?_
            try (first | (rw [put_some]; dsimp only [List.set]) | rw [put_none])
            refine rtake 8 _ (some 140) _ rfl rfl (by kernel_rfl) (by kernel_rfl) (by kernel_rfl) (fun _ _ _ h => h) (by rfl) hHeld (by intro w hS; go_simp; try with_reducible rfl) ?_
            try (first | (rw [put_some]; dsimp only [List.set]) | rw [put_none])
            refine wpAnyH_ready (rs := [5]) (by kernel_rfl) (by simp) (AllReadyH.cons (o := _) rfl (fun K hK => ?_) AllReadyH.nil)
            go_simp
            refine (hbyT.out _ (hsl4.later (Nat.le_refl _) hHeld)).mono ?_; rintro e w6 ⟨v6, rfl, hown6, hb6⟩; obtain ⟨A6, c6, rfl, _, hsl6⟩ := Sl.of_own hown6; have hcv6 := conv_bytes hsl6 _ rfl; rw [← HUB.out] at hcv6; have hq6 := hHeld.trans (hb6.mono hHeld.size); clear hown6 hsl6
            try go_wp2_with fail
            refine hK.out _ _ (hq6) (fun hHeld => ?_)
            clear hK K
            try (first | (rw [put_some]; dsimp only [List.set]) | rw [put_none])
            refine wpAnyH_ready (rs := [6]) (by kernel_rfl) (by simp) (AllReadyH.cons (o := _) rfl (fun K hK => ?_) AllReadyH.nil)
            go_simp
            refine hK.out _ _ (hHeld) (fun hHeld => ?_)
            clear hK K
            try (first | (rw [put_some]; dsimp only [List.set]) | rw [put_none])
            refine rtake 9 _ (some 141) _ rfl rfl (by kernel_rfl) (by kernel_rfl) (by kernel_rfl) (fun _ _ _ h => h) (by rfl) hHeld (by intro w hS; go_simp; try with_reducible rfl) ?_
            try (first | (rw [put_some]; dsimp only [List.set]) | rw [put_none])
            refine rtake 10 _ (some 142) _ rfl rfl (by kernel_rfl) (by kernel_rfl) (by kernel_rfl) (fun _ _ _ h => h) (by rfl) hHeld (by intro w hS; go_simp; try with_reducible rfl) ?_
            try (first | (rw [put_some]; dsimp only [List.set]) | rw [put_none])
            refine wpAnyH_done (by kernel_rfl) ?_ _
            refine NoPanic.normal ?_
            have R4 := Lib.hid (show w6.heap[w.heap.size + 1]? = some (.cells V4.toArray 27 (0, 0)) from r4.later hHeld r4.lt)
            have hgR := hRF.out _ hHeld
            have own6 := ownk_later own4 hHeld (Nat.le_refl _)
            clear r4 hsl4 own4 hcv6 hcvl
            go_wp2_with (first
              | (with_reducible refine wpList_load_row rfl 27 (.tmp 4) rfl (w.heap.size + 1) rfl 27 V4.toArray (0, 0) _ R4.out Try.underlying27 rfl hzV4a.out ?_)
              | (with_reducible refine wpList_store_row rfl 27 (.tmp 2) (.tmp 144) rfl w.heap.size V4.toArray rfl rfl 27 Z.toArray hgR hzV4a.out hzz.out hone4.out ?_; refine Hid.out ?_))
            refine Lib.hid ?_
            generalize hw9 : World.setRow _ _ _ = w9
            obtain ⟨r9, hg9⟩ := row_set (xs := V4) (show Row _ w.heap.size 27 Z from hgR) hw9
            have R9 := Lib.hid (show w9.heap[w.heap.size]? = some (.cells V4.toArray 27 (0, 0)) from r9)
            have hb9 := (hbR.out _ hHeld).grown hg9 (hbR.out _ hHeld).size (fun k h => by cases h; exact Nat.le_refl _)
            have own9 := ownk_grown own6 hg9 hL0
            clear hw9 r9 hg9 hgR own6
            go_wp2_with fail
            have hfr9 := ownk_fresh own9
            obtain ⟨_, _, hve, _, hsl9⟩ := Sl.of_ownk own9
            injection hve with e1 e2 e3
            subst e1 e3
            exact ⟨rfl, _, results_row_tmp rfl _ _ w.heap.size 27 V4.toArray (0, 0) _ rfl R9.out Try.underlying27 rfl hzV4a.out _ rfl, A4, c4, by rw [HDn.out, HV4.out]; rfl, by rw [HDn.out]; exact hsl9, (fun a ha => Nat.le_trans (Nat.le_of_lt hL0) (hfr9 a ha)), hb9⟩
          · have HDn := Lib.hid (show decT l = none by rw [HDs.out, if_neg (fun h => hbq h.2)])
            rw [hck] at hchk
            have hbyT := Lib.hid (hbyT.out hck)
            have hbe : ((bstr (bytesT t)).toList == (bstr l).toList) = false := by rw [bstr_beq]; exact decide_eq_false hbq
            obtain ⟨UB, hUB⟩ : ∃ U, U = bstr (bytesT t) := ⟨_, rfl⟩
            obtain ⟨UL, hUL⟩ : ∃ U, U = bstr l := ⟨_, rfl⟩
            rw [← hUB, ← hUL] at hbe
            rw [← hUL] at hcvl
            have HUB := Lib.hid hUB
            clear hUB hUL
            clear hck hbq own4
            generalize bytesT t = bt at *
            go_wp2_with fail
            refine wp_region_noPanic ?_
            refine wp_region_held_drew (S := fun w' => Below wr.heap.size wr w') (by kernel_rfl) ((Below.refl _ _).drew) (fun hHeld => ?_)
            refine rtake 0 _ (some 132) _ rfl rfl (by kernel_rfl) (by kernel_rfl) (by kernel_rfl) (fun _ _ _ h => h) (by rfl) hHeld (by intro w hS; exact run_load_op 27 (.tmp 4) rfl _ 0 rfl V4 _ (row_range (r4.later hS r4.lt)) Try.underlying27 rfl hzV4.out) ?_
            try (first | (rw [put_some]; dsimp only [List.set]) | rw [put_none])
            refine wpAnyH_ready (rs := [1]) (by kernel_rfl) (by simp) (AllReadyH.cons (o := _) rfl (fun K hK => ?_) AllReadyH.nil)
            go_simp
            refine (hchk.out _ (hsl4.later (Nat.le_refl _) hHeld)).mono ?_; rintro e w5 ⟨rfl, hb5⟩; have hq5 := hHeld.trans (hb5.mono hHeld.size)
            try go_wp2_with fail
            refine hK.out _ _ (hq5) (fun hHeld => ?_)
            clear hK K
            try (first | (rw [put_some]; dsimp only [List.set]) | rw [put_none])
            refine rtake 2 _ (some 134) _ rfl rfl (by kernel_rfl) (by kernel_rfl) (by kernel_rfl) (fun _ _ _ h => h) (by rfl) hHeld (by intro w hS; go_simp; try with_reducible rfl) ?_
            try (first | (rw [put_some]; dsimp only [List.set]) | rw [put_none])
            refine rtake 3 _ (some 135) _ rfl rfl (by kernel_rfl) (by kernel_rfl) (by kernel_rfl) (fun _ _ _ h => h) (by rfl) hHeld (by intro w hS; go_simp; try with_reducible rfl) ?_
            try (first | (rw [put_some]; dsimp only [List.set]) | rw [put_none])
            refine rtake 4 _ (some 136) _ rfl rfl (by kernel_rfl) (by kernel_rfl) (by kernel_rfl) (fun _ _ _ h => h) (by rfl) hHeld (by intro w hS; exact run_load_op 27 (.tmp 4) rfl _ 0 rfl V4 _ (row_range (r4.later hS r4.lt)) Try.underlying27 rfl hzV4.out) ?_
            try (first | (rw [put_some]; dsimp only [List.set]) | rw [put_none])
            refine rtake 7 _ (some 139) _ rfl rfl (by kernel_rfl) (by kernel_rfl) (by kernel_rfl) (fun _ _ _ h => h) (by rfl) hHeld (by intro w hS; go_simp; try with_reducible rfl) ?_
            try (first | (rw [put_some]; dsimp only [List.set]) | rw [put_none])
            refine rtake 8 _ (some 140) _ rfl rfl (by kernel_rfl) (by kernel_rfl) (by kernel_rfl) (fun _ _ _ h => h) (by rfl) hHeld (by intro w hS; go_simp; try with_reducible rfl) ?_
            try (first | (rw [put_some]; dsimp only [List.set]) | rw [put_none])
            refine wpAnyH_ready (rs := [5]) (by kernel_rfl) (by simp) (AllReadyH.cons (o := _) rfl (fun K hK => ?_) AllReadyH.nil)
            go_simp
            refine (hbyT.out _ (hsl4.later (Nat.le_refl _) hHeld)).mono ?_; rintro e w6 ⟨v6, rfl, hown6, hb6⟩; obtain ⟨A6, c6, rfl, _, hsl6⟩ := Sl.of_own hown6; have hcv6 := conv_bytes hsl6 _ rfl; rw [← HUB.out] at hcv6; have hq6 := hHeld.trans (hb6.mono hHeld.size); clear hown6 hsl6
            try go_wp2_with fail
            refine hK.out _ _ (hq6) (fun hHeld => ?_)
            clear hK K
            try (first | (rw [put_some]; dsimp only [List.set]) | rw [put_none])
            refine wpAnyH_ready (rs := [6]) (by kernel_rfl) (by simp) (AllReadyH.cons (o := _) rfl (fun K hK => ?_) AllReadyH.nil)
            go_simp
            refine hK.out _ _ (hHeld) (fun hHeld => ?_)
            clear hK K
            try (first | (rw [put_some]; dsimp only [List.set]) | rw [put_none])
            refine rtake 9 _ (some 141) _ rfl rfl (by kernel_rfl) (by kernel_rfl) (by kernel_rfl) (fun _ _ _ h => h) (by rfl) hHeld (by intro w hS; go_simp; try with_reducible rfl) ?_
            try (first | (rw [put_some]; dsimp only [List.set]) | rw [put_none])
            refine rtake 10 _ (some 142) _ rfl rfl (by kernel_rfl) (by kernel_rfl) (by kernel_rfl) (fun _ _ _ h => h) (by rfl) hHeld (by intro w hS; go_simp; try with_reducible rfl) ?_
            try (first | (rw [put_some]; dsimp only [List.set]) | rw [put_none])
            refine wpAnyH_done (by kernel_rfl) ?_ _
            refine NoPanic.normal ?_
            have hgR := hRF.out _ hHeld
            clear r4 hsl4
            go_wp2_with (with_reducible refine wpList_store_row rfl 27 (.tmp 2) (.tmp 143) rfl w.heap.size _ rfl rfl 27 Z.toArray hgR (by kernel_rfl) (Eq.trans h36.out.symm (by kernel_rfl)) (by kernel_rfl) ?_; refine Hid.out ?_)
            refine Lib.hid ?_
            generalize hw9 : World.setRow _ _ _ = w9
            obtain ⟨r9, hg9⟩ := row_set (xs := [Value.int .u64 0, .string { data := #[] }, .slice none 0 0, .bool false, .int .u8 0, .int .u8 0, .int .u8 0, .int .u8 0, .int .u8 0, .int .u8 0, .int .u8 0, .int .u8 0, .int .u8 0, .int .u8 0, .int .u8 0, .int .u8 0, .int .u8 0, .int .u8 0, .int .u8 0, .int .u8 0, .int .u8 0, .int .u8 0, .int .u8 0, .int .u8 0, .int .u8 0, .int .u8 0, .int .u8 0, .int .u8 0, .int .u8 0, .int .u8 0, .int .u8 0, .int .u8 0, .int .u8 0, .int .u8 0, .int .u8 0, .int .u8 0]) (show Row _ w.heap.size 27 Z from hgR) hw9
            rw [← ztok, ← HZ.out] at r9
            have R9 := Lib.hid (show w9.heap[w.heap.size]? = some (.cells Z.toArray 27 (0, 0)) from r9)
            have hb9 := (hbR.out _ hHeld).grown hg9 (hbR.out _ hHeld).size (fun k h => by cases h; exact Nat.le_refl _)
            clear hw9 r9 hg9 hgR
            go_wp2_with fail
            exact ⟨rfl, _, results_row_tmp rfl _ _ w.heap.size 27 Z.toArray (0, 0) _ rfl R9.out Try.underlying27 rfl hzK.out _ rfl, none, 0, by rw [HDn.out, HZ.out]; rfl, by rw [HDn.out]; exact ⟨.inl rfl, Nat.le_refl _, fun _ => rfl⟩, (fun a h => by cases h), hb9⟩
theorem rdec_any (A : Option Addr) (n c : Nat) (l : List UInt8) (w : World) (hs : Sl w A c (byts l)) (hn : n = l.length) (hm : l.length ≤ 1000000) :
    Calls Try.prog 24 #[.slice A n c] w fun e w' => ∃ B d, e = .returned (.tuple #[.agg (tokV ((decT l).getD zeroK) B d).toArray, .bool (decT l).isSome]) ∧ Sl w' B (d * 5) (((decT l).getD zeroK).cavs.flatMap cavV) ∧ Below w.heap.size w w' :=
  (rdec_fresh A n c l w hs hn hm).mono fun _ _ ⟨B, d, h1, h2, _, h3⟩ => ⟨B, d, h1, h2, h3⟩
end Go.Proofs.Ythiebbhooigogaa
