/- LAYER 10: package packet: Decode. -/
import Derived.Test.YthiebbhooigogaaPcf
import Derived.Test.YthiebbhooigogaaPcc
namespace Go.Proofs.Ythiebbhooigogaa
open Go Go.RowKit

theorem bequal_any (A : Option Addr) (n c : Nat) (l : List UInt8) (B : Option Addr) (m d : Nat) (k : List UInt8) (w : World) (hs : Sl w A c (byts l)) (hn : n = l.length) (hp : Sl w B d (byts k)) (hm : m = k.length) :
    Calls Try.prog 62 #[.slice A n c, .slice B m d] w fun e w' => e = .returned (.bool (decide (l = k))) ∧ w' = w := by
  have h1 := conv_bytes hs n hn
  have h2 := conv_bytes hp m hm
  obtain ⟨b, hb⟩ : ∃ b, b = decide (l = k) := ⟨_, rfl⟩
  have h3 : ((bstr l).toList == (bstr k).toList) = b := by rw [bstr_beq, hb]
  rw [← hb]
  clear hb hs hp hn hm
  go_enter Try.func62, Try.ntmps62
  go_wp2
  go_ret
  exact ⟨rfl, rfl⟩
theorem capT_fit (l : List UInt8) (hm : l.length ≤ 1000000) : (readL l).Fit := by
  have h1 := restF_len l _ hm
  have h2 := restF_len _ _ h1
  have h3 := restF_len _ _ h2
  obtain ⟨p1, p2, _⟩ := loopL_len 1000000 65 [] (getF (restF (restF l))).1 (restF (restF (restF l))) (fun _ h => by cases h) (getF_len _ _ h2) h3
  refine ⟨?_, ?_, ?_⟩
  · rw [readL_id]; have := getF_len _ _ h1; omega
  · rw [readL_cavs]; rw [List.length_nil] at p2; omega
  · rw [readL_cavs]
    intro c hc
    obtain ⟨q1, q2, q3⟩ := p1 c hc
    omega
set_option maxRecDepth 20000 in
set_option maxHeartbeats 4000000 in
theorem pdec_fresh (A : Option Addr) (n c : Nat) (l : List UInt8) (w : World) (hs : Sl w A c (byts l)) (hn : n = l.length) (hm : l.length ≤ 1000000) :
    Calls Try.prog 56 #[.slice A n c] w fun e w' => ∃ B d, e = .returned (.tuple #[.agg (tokV ((decT l).getD zeroK) B d).toArray, .int .i64 (if (decT l).isSome then 0 else 2)]) ∧ Sl w' B (d * 5) (((decT l).getD zeroK).cavs.flatMap cavV) ∧ (∀ a, B = some a → w.heap.size ≤ a.block) ∧ Below w.heap.size w w' := by
  subst hn
  have hread := Lib.hid (show ∀ w1, Sl w1 A c (byts l) → Calls Try.prog 61 #[.slice A l.length c] w1 fun e w' => ∃ B d, e = .returned (.agg (tokV (readL l) B d).toArray) ∧ Sl w' B (d * 5) ((readL l).cavs.flatMap cavV) ∧ (∀ a, B = some a → w1.heap.size ≤ a.block) ∧ Below w1.heap.size w1 w' from fun w1 h => pread_any A l.length c l w1 h rfl hm)
  have hD := decT_readL l
  have hok := readL_ok l
  obtain ⟨er, her⟩ : ∃ er : Int, er = if (decT l).isSome then 0 else 2 := ⟨_, rfl⟩
  rw [← her]
  have HER := Lib.hid her
  clear her
  have hfit := capT_fit l hm
  obtain ⟨Z, hZ⟩ : ∃ Z, Z = tokV zeroK none 0 := ⟨_, rfl⟩
  have hbz : ∀ w, (Instr.build 27 #[]).run Try.prog w = .ok (.agg Z.toArray) w := by rw [hZ]; exact build_tok
  have hzl : Z.length = 36 := by rw [hZ]; exact length_tokV zeroK_ok none 0
  have hzK := Lib.hid (show (Try.prog.info? 27).map (·.size) = some Z.toArray.size by rw [size_tok, List.size_toArray, hzl])
  have honeZ := Lib.hid (all_one (show ∀ v ∈ Z, v.oneCell' = true by rw [hZ]; exact tokV_one _ _ _))
  have HZ := Lib.hid hZ
  have h36Z := Lib.hid (show 36 = Z.toArray.size by rw [List.size_toArray, hzl])
  have hb1 := (Below.refl w.heap.size w).alloc (Nat.le_refl _) (.cells [Value.int .u64 0, .string { data := #[] }, .slice none 0 0, .bool false, .int .u8 0, .int .u8 0, .int .u8 0, .int .u8 0, .int .u8 0, .int .u8 0, .int .u8 0, .int .u8 0, .int .u8 0, .int .u8 0, .int .u8 0, .int .u8 0, .int .u8 0, .int .u8 0, .int .u8 0, .int .u8 0, .int .u8 0, .int .u8 0, .int .u8 0, .int .u8 0, .int .u8 0, .int .u8 0, .int .u8 0, .int .u8 0, .int .u8 0, .int .u8 0, .int .u8 0, .int .u8 0, .int .u8 0, .int .u8 0, .int .u8 0, .int .u8 0].toArray 27)
  have hs1 := hs.later (Nat.le_refl _) hb1
  have rz1 := Row.new w 27 [Value.int .u64 0, .string { data := #[] }, .slice none 0 0, .bool false, .int .u8 0, .int .u8 0, .int .u8 0, .int .u8 0, .int .u8 0, .int .u8 0, .int .u8 0, .int .u8 0, .int .u8 0, .int .u8 0, .int .u8 0, .int .u8 0, .int .u8 0, .int .u8 0, .int .u8 0, .int .u8 0, .int .u8 0, .int .u8 0, .int .u8 0, .int .u8 0, .int .u8 0, .int .u8 0, .int .u8 0, .int .u8 0, .int .u8 0, .int .u8 0, .int .u8 0, .int .u8 0, .int .u8 0, .int .u8 0, .int .u8 0, .int .u8 0]
  clear hzl hm
  go_enter Try.func56, Try.ntmps56
  go_wp2_with (first
    | (go_at_call 61; refine (hread.out _ hs1).mono ?_; rintro e w2 ⟨B, d, rfl, hsl2, hfr, hb2⟩; generalize hV : tokV (readL l) B d = V; have hVl : V.length = 36 := (by rw [← hV]; exact length_tokV hok B d); have hzV := Lib.hid (show (Try.prog.info? 27).map (·.size) = some V.toArray.size by rw [List.size_toArray, hVl]; exact size_tok); have h36 := Lib.hid (show 36 = V.toArray.size by rw [List.size_toArray, hVl]); have hone := Lib.hid (show V.toArray.all (·.oneCell') = true from all_one (by rw [← hV]; exact tokV_one _ _ _)); have HV := Lib.hid hV; clear hV hVl)
    | (with_reducible refine wpList_store_row rfl 27 (.tmp 4) (.tmp 8) rfl w2.heap.size V.toArray rfl rfl 27 _ (heap_alloc_new w2 _) hzV.out (Eq.trans (by kernel_rfl) h36.out) hone.out ?_; refine Hid.out ?_))
  refine Lib.hid ?_
  generalize hw3 : World.setRow _ _ _ = w3
  obtain ⟨r3, hb3⟩ := row_new_set (xs := V) hw3
  have hbw2 := hb1.trans (hb2.mono hb1.size)
  have hbw3 := hbw2.trans (hb3.mono hbw2.size)
  have rz3 := (rz1.later hb2 rz1.lt).later hb3 (Nat.lt_of_lt_of_le rz1.lt hb2.size)
  rw [← ztok, ← hZ] at rz3
  have hs3 := hs.later (Nat.le_refl _) hbw3
  have hsl3 := hsl2.later (Nat.le_refl _) hb3
  have R3 := Lib.hid (show w3.heap[w2.heap.size]? = some (.cells V.toArray 27 (0, 0)) from r3)
  have henc := Lib.hid (show Calls Try.prog 33 #[.agg V.toArray] w3 fun e w' => ∃ B d, e = .returned (.tuple #[.slice B (encT (readL l)).length d, .int .i64 (errT (readL l))]) ∧ Sl w' B d (byts (encT (readL l))) ∧ Below w3.heap.size w3 w' by rw [← HV.out]; exact penc_any (readL l) hok hfit B d w3 hsl3)
  replace hfr : ∀ a, B = some a → a.block ≠ w.heap.size ∧ w.heap.size ≤ a.block := fun a ha => by
    have := hfr a ha
    rw [World.size_alloc] at this; omega
  clear hw3 r3 hb1 hb2 hb3 hbw2 rz1 hs1 hs hsl2 hZ hread hok hfit
  obtain ⟨u, hu⟩ : ∃ u, u = readL l := ⟨_, rfl⟩
  rw [← hu] at henc hsl3 hD HV
  clear hu
  by_cases hc : checkT u = true
  · have e1 : errT u = 0 := by unfold errT; rw [if_pos hc]
    have e2 : encT u = bytesT u := by unfold encT; rw [if_pos hc]
    rw [e1, e2] at henc
    have heq := Lib.hid (show ∀ E x w1 , Sl w1 E x (byts (bytesT u)) → Sl w1 A c (byts l) → Calls Try.prog 62 #[.slice E (bytesT u).length x, .slice A l.length c] w1 fun e w' => e = .returned (.bool (decide (bytesT u = l))) ∧ w' = w1 from fun E x w1 h1 h2 => bequal_any E (bytesT u).length x (bytesT u) A l.length c l w1 h1 rfl h2 rfl)
    by_cases hq : bytesT u = l
    · rw [decide_eq_true hq] at heq
      have HDn := Lib.hid (show decT l = some u by rw [hD, if_pos ⟨hc, hq⟩])
      clear hD hq hc e1 e2
      go_wp2_with (first
        | (with_reducible refine wpList_load_row rfl 27 (.tmp 4) rfl w2.heap.size rfl 27 V.toArray (0, 0) _ R3.out Try.underlying27 rfl hzV.out ?_)
        | (go_at_call 33; refine henc.out.mono ?_; rintro e w4 ⟨E, x, rfl, hsl4, hb4⟩; have hs4 := hs3.later (Nat.le_refl _) hb4; have R4 := Lib.hid (show w4.heap[w2.heap.size]? = some (.cells V.toArray 27 (0, 0)) from Row.later (show Row w3 w2.heap.size 27 V from R3.out) hb4 (Row.lt R3.out)); have RZ := Lib.hid (show w4.heap[w.heap.size]? = some (.cells Z.toArray 27 (0, 0)) from rz3.later hb4 rz3.lt); have hbw4 := hbw3.trans (hb4.mono hbw3.size); have hslu4 := hsl3.later (Nat.le_refl _) hb4)
        | (go_at_call 62; refine (heq.out _ _ _ hsl4 hs4).mono ?_; rintro e w5 ⟨rfl, rfl⟩)
        | (with_reducible refine wpList_load_row rfl 27 (.tmp 4) rfl w2.heap.size rfl 27 V.toArray (0, 0) _ R4.out Try.underlying27 rfl hzV.out ?_)
        | (with_reducible refine wpList_store_row rfl 27 (.tmp 2) (.tmp 23) rfl w.heap.size V.toArray rfl rfl 27 Z.toArray RZ.out hzV.out (Eq.trans h36Z.out.symm h36.out) hone.out ?_; refine Hid.out ?_))
      refine Lib.hid ?_
      generalize hw9 : World.setRow _ _ _ = w9
      obtain ⟨r9, hg9⟩ := row_set (xs := V) (old := Z) RZ.out hw9
      have R9 := Lib.hid (show w9.heap[w.heap.size]? = some (.cells V.toArray 27 (0, 0)) from r9)
      have hb9 := hbw4.grown hg9 hbw4.size (fun k h => by cases h; exact Nat.le_refl _)
      have hsl9 : Sl w9 B (d * 5) (u.cavs.flatMap cavV) := hslu4.apart hg9 (fun _ a ha => (hfr a ha).1)
      clear hw9 r9 hg9
      go_wp2_with fail
      exact ⟨rfl, _, results_row_tmp rfl _ _ w.heap.size 27 V.toArray (0, 0) _ rfl R9.out Try.underlying27 rfl hzV.out _ rfl, B, d, by rw [HER.out, HDn.out, ← HV.out]; rfl, by rw [HDn.out]; exact hsl9, (fun a ha => (hfr a ha).2), hb9⟩
    · rw [decide_eq_false hq] at heq
      have HDn := Lib.hid (show decT l = none by rw [hD, if_neg (fun h => hq h.2)])
      clear hD hq hc e1 e2
      go_wp2_with (first
        | (with_reducible refine wpList_load_row rfl 27 (.tmp 4) rfl w2.heap.size rfl 27 V.toArray (0, 0) _ R3.out Try.underlying27 rfl hzV.out ?_)
        | (go_at_call 33; refine henc.out.mono ?_; rintro e w4 ⟨E, x, rfl, hsl4, hb4⟩; have hs4 := hs3.later (Nat.le_refl _) hb4; have R4 := Lib.hid (show w4.heap[w2.heap.size]? = some (.cells V.toArray 27 (0, 0)) from Row.later (show Row w3 w2.heap.size 27 V from R3.out) hb4 (Row.lt R3.out)); have RZ := Lib.hid (show w4.heap[w.heap.size]? = some (.cells Z.toArray 27 (0, 0)) from rz3.later hb4 rz3.lt); have hbw4 := hbw3.trans (hb4.mono hbw3.size); have hslu4 := hsl3.later (Nat.le_refl _) hb4)
        | (go_at_call 62; refine (heq.out _ _ _ hsl4 hs4).mono ?_; rintro e w5 ⟨rfl, rfl⟩)
        | (with_reducible refine wpList_store_row rfl 27 (.tmp 2) (.tmp 22) rfl w.heap.size _ rfl rfl 27 Z.toArray RZ.out (by kernel_rfl) (Eq.trans h36Z.out.symm (by kernel_rfl)) (by kernel_rfl) ?_; refine Hid.out ?_))
      refine Lib.hid ?_
      generalize hw9 : World.setRow _ _ _ = w9
      obtain ⟨r9, hg9⟩ := row_set (xs := [Value.int .u64 0, .string { data := #[] }, .slice none 0 0, .bool false, .int .u8 0, .int .u8 0, .int .u8 0, .int .u8 0, .int .u8 0, .int .u8 0, .int .u8 0, .int .u8 0, .int .u8 0, .int .u8 0, .int .u8 0, .int .u8 0, .int .u8 0, .int .u8 0, .int .u8 0, .int .u8 0, .int .u8 0, .int .u8 0, .int .u8 0, .int .u8 0, .int .u8 0, .int .u8 0, .int .u8 0, .int .u8 0, .int .u8 0, .int .u8 0, .int .u8 0, .int .u8 0, .int .u8 0, .int .u8 0, .int .u8 0, .int .u8 0]) (old := Z) RZ.out hw9
      rw [← ztok, ← HZ.out] at r9
      have R9 := Lib.hid (show w9.heap[w.heap.size]? = some (.cells Z.toArray 27 (0, 0)) from r9)
      have hb9 := hbw4.grown hg9 hbw4.size (fun k h => by cases h; exact Nat.le_refl _)
      clear hw9 r9 hg9
      go_wp2_with fail
      exact ⟨rfl, _, results_row_tmp rfl _ _ w.heap.size 27 Z.toArray (0, 0) _ rfl R9.out Try.underlying27 rfl hzK.out _ rfl, none, 0, by rw [HER.out, HDn.out, HZ.out]; rfl, by rw [HDn.out]; exact ⟨.inl rfl, Nat.le_refl _, fun _ => rfl⟩, (fun a h => by cases h), hb9⟩
  · have e1 : errT u = 1 := by unfold errT; rw [if_neg hc]
    rw [e1] at henc
    have HDn := Lib.hid (show decT l = none by rw [hD, if_neg (fun h => hc h.1)])
    clear hD hc e1
    go_wp2_with (first
      | (with_reducible refine wpList_load_row rfl 27 (.tmp 4) rfl w2.heap.size rfl 27 V.toArray (0, 0) _ R3.out Try.underlying27 rfl hzV.out ?_)
      | (go_at_call 33; refine henc.out.mono ?_; rintro e w4 ⟨E, x, rfl, hsl4, hb4⟩; have hs4 := hs3.later (Nat.le_refl _) hb4; have R4 := Lib.hid (show w4.heap[w2.heap.size]? = some (.cells V.toArray 27 (0, 0)) from Row.later (show Row w3 w2.heap.size 27 V from R3.out) hb4 (Row.lt R3.out)); have RZ := Lib.hid (show w4.heap[w.heap.size]? = some (.cells Z.toArray 27 (0, 0)) from rz3.later hb4 rz3.lt); have hbw4 := hbw3.trans (hb4.mono hbw3.size); have hslu4 := hsl3.later (Nat.le_refl _) hb4)
      | (with_reducible refine wpList_store_row rfl 27 (.tmp 2) (.tmp 22) rfl w.heap.size _ rfl rfl 27 Z.toArray RZ.out (by kernel_rfl) (Eq.trans h36Z.out.symm (by kernel_rfl)) (by kernel_rfl) ?_; refine Hid.out ?_))
    refine Lib.hid ?_
    generalize hw9 : World.setRow _ _ _ = w9
    obtain ⟨r9, hg9⟩ := row_set (xs := [Value.int .u64 0, .string { data := #[] }, .slice none 0 0, .bool false, .int .u8 0, .int .u8 0, .int .u8 0, .int .u8 0, .int .u8 0, .int .u8 0, .int .u8 0, .int .u8 0, .int .u8 0, .int .u8 0, .int .u8 0, .int .u8 0, .int .u8 0, .int .u8 0, .int .u8 0, .int .u8 0, .int .u8 0, .int .u8 0, .int .u8 0, .int .u8 0, .int .u8 0, .int .u8 0, .int .u8 0, .int .u8 0, .int .u8 0, .int .u8 0, .int .u8 0, .int .u8 0, .int .u8 0, .int .u8 0, .int .u8 0, .int .u8 0]) (old := Z) RZ.out hw9
    rw [← ztok, ← HZ.out] at r9
    have R9 := Lib.hid (show w9.heap[w.heap.size]? = some (.cells Z.toArray 27 (0, 0)) from r9)
    have hb9 := hbw4.grown hg9 hbw4.size (fun k h => by cases h; exact Nat.le_refl _)
    clear hw9 r9 hg9
    go_wp2_with fail
    exact ⟨rfl, _, results_row_tmp rfl _ _ w.heap.size 27 Z.toArray (0, 0) _ rfl R9.out Try.underlying27 rfl hzK.out _ rfl, none, 0, by rw [HER.out, HDn.out, HZ.out]; rfl, by rw [HDn.out]; exact ⟨.inl rfl, Nat.le_refl _, fun _ => rfl⟩, (fun a h => by cases h), hb9⟩
theorem pdec_any (A : Option Addr) (n c : Nat) (l : List UInt8) (w : World) (hs : Sl w A c (byts l)) (hn : n = l.length) (hm : l.length ≤ 1000000) :
    Calls Try.prog 56 #[.slice A n c] w fun e w' => ∃ B d, e = .returned (.tuple #[.agg (tokV ((decT l).getD zeroK) B d).toArray, .int .i64 (if (decT l).isSome then 0 else 2)]) ∧ Sl w' B (d * 5) (((decT l).getD zeroK).cavs.flatMap cavV) ∧ Below w.heap.size w w' :=
  (pdec_fresh A n c l w hs hn hm).mono fun _ _ ⟨B, d, h1, h2, _, h3⟩ => ⟨B, d, h1, h2, h3⟩
end Go.Proofs.Ythiebbhooigogaa
