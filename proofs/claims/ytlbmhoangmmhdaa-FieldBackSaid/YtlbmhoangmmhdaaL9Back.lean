/- LAYER 9, FieldBack: the walk of the law. -/
import Derived.Test.YtlbmhoangmmhdaaL9Tells
namespace Go.Proofs.Ytlbmhoangmmhdaa
open Go Go.RowKit

theorem bstr_cat (a b : List UInt8) : bstr a ++ bstr b = bstr (a ++ b) := by
  unfold bstr
  apply ByteArray.ext
  rw [ByteArray.data_append]
  simp
set_option maxRecDepth 100000 in
set_option maxHeartbeats 8000000 in
theorem fback_walk (A : Option Addr) (n c : Nat) (fs : List Fd) (B : Option Addr) (m d : Nat) (gs : List Fd) (C : Option Addr) (q e0 : Nat) (t : List UInt8) (w : World) (hs : Sl w A (c * 2) (fs.flatMap fdV)) (hn : n = fs.length) (hfl : fs.length ≤ 9223372036854775807) (hfe : ∀ f ∈ fs, f.2.length ≤ 140737488351232)
    (hp : Sl w B (d * 2) (gs.flatMap fdV)) (hm : m = gs.length) (hgl : gs.length ≤ 9223372036854775807) (hge : ∀ f ∈ gs, f.2.length ≤ 140737488351232) (ht : Sl w C e0 (byts t)) (hq : q = t.length) (htl : t.length ≤ 9223372036854775807) :
    Calls Try.prog 4 #[.slice A n c, .slice B m d, .slice C q e0] w fun e w' => e = .returned (.bool true) ∧ Below w.heap.size w w' := by
  subst hn hm hq
  by_cases h1000 : 1000 < t.length
  · have h1 : (1000 : Int) < (t.length : Int) := by omega
    generalize t.length = n at *
    go_enter Try.func4, Try.ntmps4
    go_wp2_with (go_at_call 5; refine (falive_any _).mono ?_; rintro e w1 ⟨rfl, hb1⟩)
    go_ret
    exact ⟨rfl, hb1⟩
  have hle : t.length ≤ 1000 := by omega
  have hg1 := Lib.hid (show ∀ w1, Sl w1 A (c * 2) (fs.flatMap fdV) → Calls Try.prog 6 #[.slice A fs.length c] w1 fun e w' => e = .returned (.bool (decide (1000 < sumF fs))) ∧ Below w1.heap.size w1 w' from fun w1 h => fgreat_any A fs.length c fs w1 h rfl hfl (fun f hf => Nat.le_trans (hfe f hf) (by decide)))
  have hg2 := Lib.hid (show ∀ w1, Sl w1 B (d * 2) (gs.flatMap fdV) → Calls Try.prog 6 #[.slice B gs.length d] w1 fun e w' => e = .returned (.bool (decide (1000 < sumF gs))) ∧ Below w1.heap.size w1 w' from fun w1 h => fgreat_any B gs.length d gs w1 h rfl hgl (fun f hf => Nat.le_trans (hge f hf) (by decide)))
  have hl1 : (t.length : Int) ≤ 1000 := by omega
  have tok1 : True := trivial
  clear hfl hfe hgl hge h1000
  by_cases hgr : 1000 < sumF fs
  · have hd : decide (1000 < sumF fs) = true := decide_eq_true hgr
    rw [hd] at hg1
    clear hd hgr hg2
    go_enter Try.func4, Try.ntmps4
    go_wp2_with (first
      | (go_at_call 5; refine (falive_any _).mono ?_; rintro e w1 ⟨rfl, hb1⟩; have hs1 := hs.later (Nat.le_refl _) hb1)
      | (go_at_call 6; refine (hg1.out _ hs1).mono ?_; rintro e w2 ⟨rfl, hb2⟩))
    go_ret
    exact ⟨rfl, hb1.trans (hb2.mono hb1.size)⟩
  have hd : decide (1000 < sumF fs) = false := decide_eq_false hgr
  rw [hd] at hg1
  have hsum : sumF fs ≤ 1000 := by omega
  clear hd hgr
  by_cases hgr : 1000 < sumF gs
  · have hd : decide (1000 < sumF gs) = true := decide_eq_true hgr
    rw [hd] at hg2
    clear hd hgr
    go_enter Try.func4, Try.ntmps4
    go_wp2_with (first
      | (go_at_call 5; refine (falive_any _).mono ?_; rintro e w1 ⟨rfl, hb1⟩; have hs1 := hs.later (Nat.le_refl _) hb1)
      | (go_at_call 6; have _t := tok1; refine (hg1.out _ hs1).mono ?_; rintro e w2 ⟨rfl, hb2⟩; have hbw2 := hb1.trans (hb2.mono hb1.size); have hp2 := hp.later (Nat.le_refl _) hbw2; clear tok1)
      | (go_at_call 6; refine (hg2.out _ hp2).mono ?_; rintro e w3 ⟨rfl, hb3⟩))
    go_ret
    exact ⟨rfl, hbw2.trans (hb3.mono hbw2.size)⟩
  have hd : decide (1000 < sumF gs) = false := decide_eq_false hgr
  rw [hd] at hg2
  have hsum2 : sumF gs ≤ 1000 := by omega
  clear hd hgr
  obtain ⟨i0, hi, hz0, hz1, hz2⟩ := info_parts infoByte
  obtain ⟨j0, hj, hj0, hj1, hj2⟩ := info_fd
  have HF1 := Lib.hid (show fs.length ≤ 1000 by have := sumF_len fs; omega)
  have HG1 := Lib.hid (show gs.length ≤ 1000 by have := sumF_len gs; omega)
  have hfe : ∀ f ∈ fs, f.2.length ≤ 1000 := fun f hf => by have := sumF_mem fs f hf; omega
  have hge : ∀ f ∈ gs, f.2.length ≤ 1000 := fun f hf => by have := sumF_mem gs f hf; omega
  have hJl := length_joinL fs
  have hKl := length_joinL gs
  have hallJ : allF (joinL fs) = some fs := allF_joinL fs (fun f hf => by have := hfe f hf; omega)
  have hallJK : allF (joinL fs ++ joinL gs) = some (fs ++ gs) := by
    rw [← joinL_append]
    exact allF_joinL _ (fun f hf => by
      rcases List.mem_append.1 hf with h | h
      · have := hfe f h; omega
      · have := hge f h; omega)
  obtain ⟨E, hE⟩ : ∃ E, E = fs ++ gs := ⟨_, rfl⟩
  rw [← hE] at hallJK
  obtain ⟨J, hJ⟩ : ∃ J, J = joinL fs := ⟨_, rfl⟩
  obtain ⟨K, hK⟩ : ∃ K, K = joinL gs := ⟨_, rfl⟩
  rw [← hJ, ← hK] at hallJK
  rw [← hJ] at hallJ hJl
  rw [← hK] at hKl
  have hfl := Lib.hid (show ∀ w1, Sl w1 A (c * 2) (fs.flatMap fdV) → Calls Try.prog 13 #[.slice A fs.length c] w1 fun e w' => ∃ A' c', e = .returned (.slice A' fs.length c') ∧ Sl w' A' (c' * 2) (fs.flatMap fdV) ∧ Below w1.heap.size w1 w' from fun w1 h => ffields_any A fs.length c fs w1 h rfl (by have := HF1.out; omega))
  have hgl := Lib.hid (show ∀ w1, Sl w1 B (d * 2) (gs.flatMap fdV) → Calls Try.prog 13 #[.slice B gs.length d] w1 fun e w' => ∃ A' c', e = .returned (.slice A' gs.length c') ∧ Sl w' A' (c' * 2) (gs.flatMap fdV) ∧ Below w1.heap.size w1 w' from fun w1 h => ffields_any B gs.length d gs w1 h rfl (by have := HG1.out; omega))
  have hjn := Lib.hid (show ∀ w1 A' c', Sl w1 A' (c' * 2) (fs.flatMap fdV) → Calls Try.prog 12 #[.slice A' fs.length c'] w1 (GaveBytes J w1) by rw [hJ]; exact fun w1 A' c' h => fjoin_any A' fs.length c' fs w1 h rfl (by rw [← hJ]; omega))
  have hkn := Lib.hid (show ∀ w1 A' c', Sl w1 A' (c' * 2) (gs.flatMap fdV) → Calls Try.prog 12 #[.slice A' gs.length c'] w1 (GaveBytes K w1) by rw [hK]; exact fun w1 A' c' h => fjoin_any A' gs.length c' gs w1 h rfl (by rw [← hK]; omega))
  have hall1 := Lib.hid (show ∀ w1 A' c', Sl w1 A' c' (byts J) → Calls Try.prog 9 #[.slice A' J.length c'] w1 fun e w' => ∃ A' c', e = .returned (.tuple #[.slice A' fs.length c', .bool true]) ∧ Sl w' A' (c' * 2) (fs.flatMap fdV) ∧ Below w1.heap.size w1 w' by
    intro w1 A' c' h
    have h := fall_any A' J.length c' J w1 h rfl (by omega)
    rw [show allD J = fs by unfold allD; rw [hallJ]; rfl, hallJ] at h
    exact h)
  have hall2 := Lib.hid (show ∀ w1 A' c', Sl w1 A' c' (byts (J ++ K)) → Calls Try.prog 9 #[.slice A' (J.length + K.length) c'] w1 fun e w' => ∃ A' c', e = .returned (.tuple #[.slice A' E.length c', .bool true]) ∧ Sl w' A' (c' * 2) (E.flatMap fdV) ∧ Below w1.heap.size w1 w' by
    intro w1 A' c' h
    have h := fall_any A' (J.length + K.length) c' (J ++ K) w1 h List.length_append.symm (by rw [List.length_append]; omega)
    rw [show allD (J ++ K) = E by unfold allD; rw [hallJK]; rfl, hallJK] at h
    exact h)
  have hallT := Lib.hid (show ∀ w1, Sl w1 C e0 (byts t) → Calls Try.prog 9 #[.slice C t.length e0] w1 fun e w' => ∃ A' c', e = .returned (.tuple #[.slice A' (allD t).length c', .bool (allF t).isSome]) ∧ Sl w' A' (c' * 2) ((allD t).flatMap fdV) ∧ Below w1.heap.size w1 w' from fun w1 h => fall_any C t.length e0 t w1 h rfl (by omega))
  have hsame1 := Lib.hid (show ∀ w1 A1 c1 A2 c2, Sl w1 A1 (c1 * 2) (fs.flatMap fdV) → Sl w1 A2 (c2 * 2) (fs.flatMap fdV) → Calls Try.prog 11 #[.slice A1 fs.length c1, .slice A2 fs.length c2] w1 fun e w' => e = .returned (.bool true) ∧ Below w1.heap.size w1 w' from fun w1 A1 c1 A2 c2 h1 h2 => (fsame_any A1 fs.length c1 fs A2 fs.length c2 fs w1 h1 rfl h2 rfl (by have := HF1.out; omega)).mono fun e w' h => ⟨h.1.trans (by rw [decide_eq_true rfl]), h.2⟩)
  have hEl : E.length ≤ 1000000 := by rw [hE, List.length_append]; have := HF1.out; have := HG1.out; omega
  have hsame2 := Lib.hid (show ∀ w1 A1 c1 A2 c2 k, k = E.length → Sl w1 A1 (c1 * 2) (E.flatMap fdV) → Sl w1 A2 (c2 * 2) (E.flatMap fdV) → Calls Try.prog 11 #[.slice A1 E.length c1, .slice A2 k c2] w1 fun e w' => e = .returned (.bool true) ∧ Below w1.heap.size w1 w' from fun w1 A1 c1 A2 c2 k hk h1 h2 => by
    subst hk
    exact (fsame_any A1 E.length c1 E A2 E.length c2 E w1 h1 rfl h2 rfl hEl).mono fun e w' h => ⟨h.1.trans (by rw [decide_eq_true rfl]), h.2⟩)
  have HK := Lib.hid (show K.length = (byts K).length from (length_byts K).symm)
  have HT := Lib.hid (show t.length = (byts t).length from (length_byts t).symm)
  have HJ := Lib.hid hJ
  have jk1 : J.length + K.length ≤ maxLen := by unfold maxLen; omega
  have jk2 : (J.length + K.length) * 1 ≤ 140737488355328 := by omega
  have t1 : 0 + t.length ≤ maxLen := by unfold maxLen; omega
  have t2 : (0 + t.length) * 1 ≤ 140737488355328 := by omega
  have f1 : 0 + fs.length ≤ maxLen := by have := HF1.out; unfold maxLen; omega
  have f2 : (0 + fs.length) * 24 ≤ 140737488355328 := by have := HF1.out; omega
  have g1 : fs.length + gs.length ≤ maxLen := by have := HF1.out; have := HG1.out; unfold maxLen; omega
  have g2 : (fs.length + gs.length) * 24 ≤ 140737488355328 := by have := HF1.out; have := HG1.out; omega
  have HFL := Lib.hid (length_fdsV fs)
  have HGL := Lib.hid (length_fdsV gs)
  have HAP := Lib.hid (show E.flatMap fdV = fs.flatMap fdV ++ gs.flatMap fdV by rw [hE]; exact List.flatMap_append)
  have HLA := Lib.hid (show fs.length + gs.length = E.length by rw [hE]; exact List.length_append.symm)
  have tok2 : True := trivial
  have tok3 : True := trivial
  have tok4 : True := trivial
  have tok5 : True := trivial
  have tok6 : True := trivial
  have tok7 : True := trivial
  have tok8 : True := trivial
  have HJb := Lib.hid (show J.length ≤ 12000 by omega)
  clear hE hEl hJ hK hge hsum hsum2 hallJ hallJK
  go_enter Try.func4, Try.ntmps4
  go_wp2_with (first
    | (go_at_call 5; refine (falive_any _).mono ?_; rintro e w3 ⟨rfl, hb3⟩; have hs3 := hs.later (Nat.le_refl _) hb3)
    | (go_at_call 6; have _t := tok1; refine (hg1.out _ hs3).mono ?_; rintro e w4 ⟨rfl, hb4⟩; have hbw4 := hb3.trans (hb4.mono hb3.size); have hp4 := hp.later (Nat.le_refl _) hbw4; clear tok1 hb4 hs3)
    | (go_at_call 6; refine (hg2.out _ hp4).mono ?_; rintro e w5 ⟨rfl, hb5⟩; have hbw5 := hbw4.trans (hb5.mono hbw4.size); have hs5 := hs.later (Nat.le_refl _) hbw5; clear hb5 hp4 hb3 hbw4)
    | (go_at_call 13; have _t := tok2; refine (hfl.out _ hs5).mono ?_; rintro e w6 ⟨A6, c6, rfl, hsl6, hb6⟩; have hbw6 := hbw5.trans (hb6.mono hbw5.size); clear tok2 hs5 hb6 hbw5)
    | (go_at_call 12; have _t := tok3; refine (hjn.out _ _ _ hsl6).mono ?_; rintro e w7 ⟨v7, rfl, hown7, hb7⟩; obtain ⟨A7, c7, rfl, _, hsl7⟩ := Sl.of_own hown7; have hbw7 := hbw6.trans (hb7.mono hbw6.size); clear tok3 hown7 hb7 hbw6 hsl6)
    | (go_at_call 9; have _t := tok4; refine (hall1.out _ _ _ hsl7).mono ?_; rintro e w8 ⟨A8, c8, rfl, hsl8, hb8⟩; have hbw8 := hbw7.trans (hb8.mono hbw7.size); have hs8 := hs.later (Nat.le_refl _) hbw8; clear tok4 hb8 hbw7 hsl7)
    | (go_at_call 13; have _t := tok5; refine (hfl.out _ hs8).mono ?_; rintro e w9 ⟨A9, c9, rfl, hsl9, hb9⟩; have hbw9 := hbw8.trans (hb9.mono hbw8.size); have hsl8 := hsl8.later (Nat.le_refl _) hb9; clear tok5 hs8 hb9 hbw8)
    | (go_at_call 12; have _t := tok6; refine (hjn.out _ _ _ hsl9).mono ?_; rintro e w10 ⟨v10, rfl, hown10, hb10⟩; have hbw10 := hbw9.trans (hb10.mono hbw9.size); have hp10 := hp.later (Nat.le_refl _) hbw10; have h910 := hb10; clear tok6 hb10 hsl9)
    | (go_at_call 13; refine (hgl.out _ hp10).mono ?_; rintro e w11 ⟨A11, c11, rfl, hsl11, hb11⟩; have h911 := h910.trans (hb11.mono h910.size); have hown10 := own_later hown10 hb11 (Nat.le_refl _); clear hb11 hp10 hbw10 h910)
    | (go_at_call 12; refine (hkn.out _ _ _ hsl11).mono ?_; rintro e w12 ⟨v12, rfl, hown12, hb12⟩; obtain ⟨A12, c12, rfl, _, hsl12⟩ := Sl.of_own hown12; have h912 := h911.trans (hb12.mono h911.size); have hown10 := own_later hown10 hb12 (Nat.le_refl _); clear hb12 hown12 h911 hsl11)
    | (at_builtin; have _t := tok7; refine wpList_append_sl rfl (.tmp 39) (.tmp 42) 22 rfl w9.heap.size 5 i0 _ 1 Try.underlying22 hi hz0 hz1 hz2 rfl _ J.length (byts J) rfl hown10 A12 K.length c12 (byts K) rfl HK.out hsl12 (byts_one _) jk1 jk2 h912.size ?_; intro v13 w13 hown13 hg13; have h913 : Below w9.heap.size w9 w13 := h912.grown hg13 h912.size (fun k hk => (hown10.lt k hk).1); rw [← byts_append] at hown13; obtain ⟨A13, c13, rfl, _, hsl13⟩ := Sl.of_own hown13; clear tok7 hg13 hown13 hown10 h912 hsl12)
    | (go_at_call 9; refine (hall2.out _ _ _ hsl13).mono ?_; rintro e w14 ⟨A14, c14, rfl, hsl14, hb14⟩; have h914 := h913.trans (hb14.mono h913.size); have hbw14 := hbw9.trans (h914.mono hbw9.size); have hsl8 := hsl8.later (Nat.le_refl _) h914; have hs14 := hs.later (Nat.le_refl _) hbw14; clear hb14 h913 h914 hsl13 hbw9)
    | (go_at_call 11; have _t := tok8; refine (hsame1.out _ _ _ _ _ hsl8 hs14).mono ?_; rintro e w15 ⟨rfl, hb15⟩; have hbw15 := hbw14.trans (hb15.mono hbw14.size); have hsl14 := hsl14.later (Nat.le_refl _) hb15; have hb15a := (Below.refl w15.heap.size w15).alloc (Nat.le_refl _) (.cells #[] 30); have hown15 : (w15.alloc (.cells #[] 30)).ownsRow w15.heap.size 30 2 (.slice (some ⟨w15.heap.size, 0, none⟩) 0 0) 0 [] := World.ownsRow_lit w15 #[] 0 (Nat.le_refl _) (by unfold maxLen; omega) rfl; clear tok8 hb15 hsl8 hs14)
    | (at_builtin; have _t := hown15; refine wpList_step fun K0 hK0 => ?_; refine step_append_k (some 63) rfl (by rfl) (.tmp 61) (.tmp 62) 23 rfl w15.heap.size 30 j0 _ 2 24 Try.underlying23 hj hj0 hj1 (by omega) hj2 rfl _ 0 [] rfl hown15 A fs.length c (fs.flatMap fdV) rfl HFL.out (hs.later (Nat.le_refl _) (hbw15.trans (hb15a.mono hbw15.size))) (fdV_one fs) f1 f2 hb15a.size ?_; intro v16 w16 hown16 hg16; refine hK0 _ _ ?_; clear hK0; rw [put_some]; dsimp only [List.set]; have h1516 : Below w15.heap.size w15 w16 := hb15a.grown hg16 hb15a.size (fun k hk => (hown15.lt k hk).1); rw [Nat.zero_add, List.nil_append] at hown16; clear hg16 hown15 hb15a)
    | (at_builtin; have _t := hown16; refine wpList_step fun K0 hK0 => ?_; refine step_append_k (some 65) rfl (by rfl) (.tmp 63) (.tmp 64) 23 rfl w15.heap.size 30 j0 _ 2 24 Try.underlying23 hj hj0 hj1 (by omega) hj2 rfl _ fs.length (fs.flatMap fdV) rfl hown16 B gs.length d (gs.flatMap fdV) rfl HGL.out (hp.later (Nat.le_refl _) (hbw15.trans (h1516.mono hbw15.size))) (fdV_one gs) g1 g2 h1516.size ?_; intro v17 w17 hown17 hg17; refine hK0 _ _ ?_; clear hK0; rw [put_some]; dsimp only [List.set]; have h1517 : Below w15.heap.size w15 w17 := h1516.grown hg17 h1516.size (fun k hk => (hown16.lt k hk).1); rw [← HAP.out] at hown17; obtain ⟨A17, c17, rfl, _, hsl17⟩ := Sl.of_ownk hown17; have hbw17 := hbw15.trans (h1517.mono hbw15.size); have hsl14 := hsl14.later (Nat.le_refl _) h1517; clear hg17 hown16 hown17 h1516 h1517 hbw15)
    | (go_at_call 11; refine (hsame2.out _ _ _ _ _ _ HLA.out hsl14 hsl17).mono ?_; rintro e w18 ⟨rfl, hb18⟩; have hbw18 := hbw17.trans (hb18.mono hbw17.size); have hb18a := (Below.refl w18.heap.size w18).alloc (Nat.le_refl _) (.cells #[] 5); have hown18 : (w18.alloc (.cells #[] 5)).ownsRow w18.heap.size 5 1 (.slice (some ⟨w18.heap.size, 0, none⟩) 0 0) 0 [] := World.ownsRow_lit w18 #[] 0 (Nat.le_refl _) (by unfold maxLen; omega) rfl; clear hb18 hbw17 hsl14 hsl17)
    | (at_builtin; have _t := hown18; refine wpList_append_sl rfl (.tmp 69) (.tmp 70) 22 rfl w18.heap.size 5 i0 _ 1 Try.underlying22 hi hz0 hz1 hz2 rfl _ 0 [] rfl hown18 C t.length e0 (byts t) rfl HT.out (ht.later (Nat.le_refl _) (hbw18.trans (hb18a.mono hbw18.size))) (byts_one _) t1 t2 hb18a.size ?_; intro v19 w19 hown19 hg19; have h1819 : Below w18.heap.size w18 w19 := hb18a.grown hg19 hb18a.size (fun k hk => (hown18.lt k hk).1); rw [Nat.zero_add, List.nil_append] at hown19; obtain ⟨A19, c19, rfl, _, hsl19⟩ := Sl.of_own hown19; have hbw19 := hbw18.trans (h1819.mono hbw18.size); clear hg19 hown18 hown19 hb18a h1819 hbw18))
  go_loopw [11, 74] (fun v i wr => ∃ (k : Nat) (A' : Option Addr) (c' : Nat), k ≤ fs.length ∧ i = .int .i64 k ∧ v = .slice A' (t ++ joinL (fs.take k)).length c' ∧ Sl wr A' c' (byts (t ++ joinL (fs.take k))) ∧ Below w.heap.size w wr) (fun _ i _ => fs.length - (intOf i).toNat)
  case atStart => exact ⟨0, A19, c19, by omega, rfl, by simp [joinL], by simpa [joinL] using hsl19, hbw19⟩
  case round =>
    clear hsl19 hbw19
    obtain ⟨k, A', c', hk, rfl, rfl, hslO, hb⟩ := hrel
    by_cases hlt : k < fs.length
    · obtain ⟨f, hf⟩ : ∃ f, fs[k]? = some f := ⟨_, List.getElem?_eq_getElem hlt⟩
      obtain ⟨b, o, rfl, hb0, hr0⟩ := hs.rd.get (i := 0) (by rw [length_fdsV]; omega)
      clear hb0 hr0
      have hix := index_fd (some ⟨b, o, none⟩) b o fs.length c k rfl hlt
      have hrg := (hs.later (Nat.le_refl _) hb).thing (k := 2) (fun _ _ => rfl) k f hf
      have HS := Lib.hid (show t ++ joinL (fs.take (k + 1)) = t ++ joinL (fs.take k) ++ fieldL f by rw [joinL_succ fs k f hf, List.append_assoc])
      have hjl : (joinL (fs.take k)).length ≤ J.length := by
        rw [HJ.out]
        have e : fs = fs.take k ++ fs.drop k := (List.take_append_drop k fs).symm
        conv => rhs; rw [e]
        rw [joinL_append, List.length_append]; omega
      have hfb := hfe f (List.mem_of_getElem? hf)
      obtain ⟨O, hO⟩ : ∃ O, O = t ++ joinL (fs.take k) := ⟨_, rfl⟩
      have hOl : O.length ≤ 1000000 := by rw [hO, List.length_append]; have := HJb.out; omega
      rw [← hO] at hslO HS
      obtain ⟨V, hV⟩ : ∃ V, V = fdV f := ⟨_, rfl⟩
      rw [← hV] at hrg
      have hput := Lib.hid (show ∀ w1, Sl w1 A' c' (byts O) → Calls Try.prog 15 #[.slice A' O.length c', .agg V.toArray] w1 (GaveBytes (O ++ fieldL f) w1) by
        rw [hV]; exact fun w1 h => fput_any A' O.length c' O f (by omega) w1 h rfl hOl)
      have hzf := Lib.hid (show (Try.prog.info? 30).map (·.size) = some V.length by rw [hV]; exact size_fd)
      have hzf2 := Lib.hid (show (Try.prog.info? 30).map (·.size) = some V.toArray.size by rw [hV]; exact size_fd)
      have hof := Lib.hid (show V.toArray.all (·.oneCell') = true by rw [hV]; exact all_one (fun v hv => fdV_one [f] v (by simpa using hv)))
      have hV2 := Lib.hid (show (2 : Nat) = V.toArray.size by rw [hV]; rfl)
      clear hV hf hfb hjl hfl hgl hjn hkn hall1 hall2 hallT hsame1 hsame2
      rw [← hO]
      clear hO
      have hk1000 : (fs.length : Int) ≤ 1000 := by have := HF1.out; omega
      go_wp2_with (first
        | (with_reducible refine wpList_load_mid rfl 30 (.tmp 76) rfl b (o + k * 2) rfl V _ hrg Try.underlying30 rfl hzf.out ?_)
        | (with_reducible refine wpList_store_row rfl 30 (.tmp 13) (.tmp 77) rfl wr.heap.size V.toArray rfl rfl 30 _ (heap_alloc_new wr _) hzf2.out (Eq.trans (by kernel_rfl) hV2.out) hof.out ?_; refine Hid.out ?_))
      refine Lib.hid ?_
      generalize hw5 : World.setRow _ _ _ = w5
      obtain ⟨r5, hb5⟩ := row_new_set (xs := V) hw5
      have R5 := Lib.hid (show w5.heap[wr.heap.size]? = some (.cells V.toArray 30 (0, 0)) from r5)
      have hsl5 := hslO.later (Nat.le_refl _) hb5
      have hbw5 := hb.trans (hb5.mono hb.size)
      clear hw5 r5 hb5 hslO
      go_wp2_with (first
        | (with_reducible refine wpList_load_row rfl 30 (.tmp 13) rfl wr.heap.size rfl 30 V.toArray (0, 0) _ R5.out Try.underlying30 rfl hzf2.out ?_)
        | (go_at_call 15; refine (hput.out _ hsl5).mono ?_; rintro e w6 ⟨v6, rfl, hown6, hb6⟩; obtain ⟨A6, c6, rfl, _, hsl6⟩ := Sl.of_own hown6; have hbw6 := hbw5.trans (hb6.mono hbw5.size); clear hown6 hb6))
      rw [← HS.out] at hsl6
      go_roundw
      case rel => exact ⟨k + 1, A6, c6, by omega, by go_num, by rw [HS.out, List.length_append], hsl6, hbw6⟩
      case measure => simp [intOf]; omega
    · have hk0 : k = fs.length := by omega
      obtain ⟨w20, rfl⟩ : ∃ w20 : World, w20 = wr := ⟨_, rfl⟩
      rw [hk0, List.take_length, ← HJ.out] at hslO ⊢
      have hbw20 := hb
      have hl20 := hs.later (Nat.le_refl _) hbw20
      have ht20 := ht.later (Nat.le_refl _) hbw20
      have hcat := bstr_cat t J
      have hz1 : ¬ 9223372036854775807 < (bstr t).size + (bstr J).size := by rw [size_bstr, size_bstr]; have := HJb.out; omega
      have hkl : ¬ (fs.length : Int) < (fs.length : Int) := by omega
      clear hk0 hlt hk hall1 hall2 hgl hkn hsame1 hsame2 hb
      go_wp2_with fail
      refine wp_region_noPanic ?_
      refine wp_region_held_drew (S := fun w' => Below w20.heap.size w20 w') (by kernel_rfl) ((Below.refl _ _).drew) (fun hHeld => ?_)
      have hB := hHeld
      refine rtake 0 _ (some 82) _ rfl rfl (by kernel_rfl) (by kernel_rfl) (by kernel_rfl) (fun _ _ _ h => h) (by rfl) hHeld (by intro w hS; go_simp; try with_reducible rfl) ?_
      try (first | (rw [put_some]; dsimp only [List.set]) | rw [put_none])
      have hcvO := conv_later hslO (t.length + J.length) List.length_append.symm
      refine rtake 1 _ (some 83) _ rfl rfl (by kernel_rfl) (by kernel_rfl) (by kernel_rfl) (fun _ _ _ h => h) (by rfl) hHeld (by intro w hS; go_simp; try with_reducible rfl) ?_
      try (first | (rw [put_some]; dsimp only [List.set]) | rw [put_none])
      refine rtake 2 _ (some 84) _ rfl rfl (by kernel_rfl) (by kernel_rfl) (by kernel_rfl) (fun _ _ _ h => h) (by rfl) hHeld (by intro w hS; go_simp; try with_reducible rfl) ?_
      try (first | (rw [put_some]; dsimp only [List.set]) | rw [put_none])
      have hcvT := conv_later ht20 _ rfl
      refine rtake 3 _ (some 85) _ rfl rfl (by kernel_rfl) (by kernel_rfl) (by kernel_rfl) (fun _ _ _ h => h) (by rfl) hHeld (by intro w hS; go_simp; try with_reducible rfl) ?_
      try (first | (rw [put_some]; dsimp only [List.set]) | rw [put_none])
      refine rtake 4 _ (some 86) _ rfl rfl (by kernel_rfl) (by kernel_rfl) (by kernel_rfl) (fun _ _ _ h => h) (by rfl) hHeld (by intro w hS; go_simp; try with_reducible rfl) ?_
      try (first | (rw [put_some]; dsimp only [List.set]) | rw [put_none])
      refine wpAnyH_ready (rs := [5]) (by kernel_rfl) (by simp) (AllReadyH.cons (o := _) rfl (fun K hK => ?_) AllReadyH.nil)
      go_simp
      refine (hfl.out _ (hl20.later (Nat.le_refl _) hB)).mono ?_; rintro e ww205 ⟨A5, c5, rfl, hsl5, hqw205⟩
      try go_wp2_with fail
      refine hK.out _ _ (hHeld.trans (hqw205.mono hHeld.size)) (fun hHeld' => ?_)
      clear hK K
      try (first | (rw [put_some]; dsimp only [List.set]) | rw [put_none])
      have hB := below_step hB hqw205
      have hB5 : Below ww205.heap.size ww205 ww205 := Below.refl _ _
      refine wpAnyH_narrow (S' := fun w' => Below ww205.heap.size ww205 w') (fun _ h => (hHeld.trans (hqw205.mono hHeld.size)).trans (h.mono (hHeld.trans (hqw205.mono hHeld.size)).size)) _ _ _ _ ?_
      clear hHeld
      have hHeld : Below ww205.heap.size ww205 ww205 := Below.refl _ _
      refine wpAnyH_ready (rs := [6]) (by kernel_rfl) (by simp) (AllReadyH.cons (o := _) rfl (fun K hK => ?_) AllReadyH.nil)
      go_simp
      refine (hjn.out _ _ _ hsl5).mono ?_; rintro e ww206 ⟨v6, rfl, hown6, hqw206⟩; obtain ⟨A6, c6, rfl, _, hsl6⟩ := Sl.of_own hown6; clear hown6
      try go_wp2_with fail
      refine hK.out _ _ (hHeld.trans (hqw206.mono hHeld.size)) (fun hHeld' => ?_)
      clear hK K
      try (first | (rw [put_some]; dsimp only [List.set]) | rw [put_none])
      have hB := below_step hB hqw206
      have hB5 := below_step hB5 hqw206
      have hB6 : Below ww206.heap.size ww206 ww206 := Below.refl _ _
      refine wpAnyH_narrow (S' := fun w' => Below ww206.heap.size ww206 w') (fun _ h => (hHeld.trans (hqw206.mono hHeld.size)).trans (h.mono (hHeld.trans (hqw206.mono hHeld.size)).size)) _ _ _ _ ?_
      clear hHeld
      have hHeld : Below ww206.heap.size ww206 ww206 := Below.refl _ _
      have hcvJ := conv_later hsl6 _ rfl
      refine rtake 7 _ (some 89) _ rfl rfl (by kernel_rfl) (by kernel_rfl) (by kernel_rfl) (fun _ _ _ h => h) (by rfl) hHeld (by intro w hS; go_simp; try with_reducible rfl) ?_
      try (first | (rw [put_some]; dsimp only [List.set]) | rw [put_none])
      refine rtake 8 _ (some 90) _ rfl rfl (by kernel_rfl) (by kernel_rfl) (by kernel_rfl) (fun _ _ _ h => h) (by rfl) hHeld (by intro w hS; go_simp; try with_reducible rfl) ?_
      try (first | (rw [put_some]; dsimp only [List.set]) | rw [put_none])
      refine rtake 9 _ (some 91) _ rfl rfl (by kernel_rfl) (by kernel_rfl) (by kernel_rfl) (fun _ _ _ h => h) (by rfl) hHeld (by intro w hS; go_simp; try with_reducible rfl) ?_
      try (first | (rw [put_some]; dsimp only [List.set]) | rw [put_none])
      refine wpAnyH_done (by kernel_rfl) ?_ _
      refine NoPanic.normal ?_
      have hb21 := hbw20.trans (hB.mono hbw20.size)
      have ht21 := ht20.later (Nat.le_refl _) hB
      clear hHeld hB hcvO hcvT hcvJ hsl5 hsl6 hslO hl20 ht20 hfl hjn
      go_wp2_with (go_at_call 9; refine (hallT.out _ ht21).mono ?_; rintro e w22 ⟨A22, c22, rfl, hsl22, hb22⟩; have hbw22 := hb21.trans (hb22.mono hb21.size); have ht22 := ht21.later (Nat.le_refl _) hb22; clear hb22 hb21 ht21)
      by_cases hsome : (allF t).isSome = true
      · obtain ⟨D, hD⟩ := Option.isSome_iff_exists.1 hsome
        have hDD : allD t = D := by unfold allD; rw [hD]; rfl
        rw [hsome]
        rw [hDD] at hsl22 ⊢
        have hjb := allF_back t D hD
        have hjD := Lib.hid (show ∀ w1 B d, Sl w1 B (d * 2) (D.flatMap fdV) → Calls Try.prog 12 #[.slice B D.length d] w1 (GaveBytes t w1) by
          intro w1 B d h
          have h := fjoin_any B D.length d D w1 h rfl (by rw [hjb.1]; omega)
          rw [hjb.1] at h
          exact h)
        clear hDD hjb hD hsome
        go_wp2_with fail
        refine wp_region_noPanic ?_
        refine wp_region_held_drew (S := fun w' => Below w22.heap.size w22 w') (by kernel_rfl) ((Below.refl _ _).drew) (fun hHeld => ?_)
        have hB := hHeld
        refine rtake 0 _ (some 97) _ rfl rfl (by kernel_rfl) (by kernel_rfl) (by kernel_rfl) (fun _ _ _ h => h) (by rfl) hHeld (by intro w hS; go_simp; try with_reducible rfl) ?_
        try (first | (rw [put_some]; dsimp only [List.set]) | rw [put_none])
        refine rtake 1 _ (some 98) _ rfl rfl (by kernel_rfl) (by kernel_rfl) (by kernel_rfl) (fun _ _ _ h => h) (by rfl) hHeld (by intro w hS; go_simp; try with_reducible rfl) ?_
        try (first | (rw [put_some]; dsimp only [List.set]) | rw [put_none])
        refine rtake 2 _ (some 99) _ rfl rfl (by kernel_rfl) (by kernel_rfl) (by kernel_rfl) (fun _ _ _ h => h) (by rfl) hHeld (by intro w hS; go_simp; try with_reducible rfl) ?_
        try (first | (rw [put_some]; dsimp only [List.set]) | rw [put_none])
        refine rskip 3 _ (some 100) rfl rfl (by kernel_rfl) (by kernel_rfl) (by kernel_rfl) (fun _ _ _ h => h) (by rfl) hHeld ?_
        try (first | (rw [put_some]; dsimp only [List.set]) | rw [put_none])
        refine rskip 4 _ (some 101) rfl rfl (by kernel_rfl) (by kernel_rfl) (by kernel_rfl) (fun _ _ _ h => h) (by rfl) hHeld ?_
        try (first | (rw [put_some]; dsimp only [List.set]) | rw [put_none])
        refine rskip 5 _ (some 102) rfl rfl (by kernel_rfl) (by kernel_rfl) (by kernel_rfl) (fun _ _ _ h => h) (by rfl) hHeld ?_
        try (first | (rw [put_some]; dsimp only [List.set]) | rw [put_none])
        refine rtake 6 _ (some 103) _ rfl rfl (by kernel_rfl) (by kernel_rfl) (by kernel_rfl) (fun _ _ _ h => h) (by rfl) hHeld (by intro w hS; go_simp; try with_reducible rfl) ?_
        try (first | (rw [put_some]; dsimp only [List.set]) | rw [put_none])
        refine rtake 7 _ (some 104) _ rfl rfl (by kernel_rfl) (by kernel_rfl) (by kernel_rfl) (fun _ _ _ h => h) (by rfl) hHeld (by intro w hS; go_simp; try with_reducible rfl) ?_
        try (first | (rw [put_some]; dsimp only [List.set]) | rw [put_none])
        refine rtake 8 _ (some 105) _ rfl rfl (by kernel_rfl) (by kernel_rfl) (by kernel_rfl) (fun _ _ _ h => h) (by rfl) hHeld (by intro w hS; go_simp; try with_reducible rfl) ?_
        try (first | (rw [put_some]; dsimp only [List.set]) | rw [put_none])
        refine rtake 9 _ (some 106) _ rfl rfl (by kernel_rfl) (by kernel_rfl) (by kernel_rfl) (fun _ _ _ h => h) (by rfl) hHeld (by intro w hS; go_simp; try with_reducible rfl) ?_
        try (first | (rw [put_some]; dsimp only [List.set]) | rw [put_none])
        refine rtake 10 _ (some 107) _ rfl rfl (by kernel_rfl) (by kernel_rfl) (by kernel_rfl) (fun _ _ _ h => h) (by rfl) hHeld (by intro w hS; go_simp; try with_reducible rfl) ?_
        try (first | (rw [put_some]; dsimp only [List.set]) | rw [put_none])
        refine rtake 13 _ (some 110) _ rfl rfl (by kernel_rfl) (by kernel_rfl) (by kernel_rfl) (fun _ _ _ h => h) (by rfl) hHeld (by intro w hS; go_simp; try with_reducible rfl) ?_
        try (first | (rw [put_some]; dsimp only [List.set]) | rw [put_none])
        have hcv14 := conv_later ht22 _ rfl
        refine rtake 14 _ (some 111) _ rfl rfl (by kernel_rfl) (by kernel_rfl) (by kernel_rfl) (fun _ _ _ h => h) (by rfl) hHeld (by intro w hS; go_simp; try with_reducible rfl) ?_
        try (first | (rw [put_some]; dsimp only [List.set]) | rw [put_none])
        refine wpAnyH_ready (rs := [11]) (by kernel_rfl) (by simp) (AllReadyH.cons (o := _) rfl (fun K hK => ?_) AllReadyH.nil)
        go_simp
        refine (hjD.out _ _ _ (hsl22.later (Nat.le_refl _) hB)).mono ?_; rintro e ww2211 ⟨v11, rfl, hown11, hqw2211⟩; obtain ⟨A11, c11, rfl, _, hsl11⟩ := Sl.of_own hown11; have hcv11 := conv_later hsl11 _ rfl; clear hown11
        try go_wp2_with fail
        refine hK.out _ _ (hHeld.trans (hqw2211.mono hHeld.size)) (fun hHeld' => ?_)
        clear hK K
        try (first | (rw [put_some]; dsimp only [List.set]) | rw [put_none])
        have hB := below_step hB hqw2211
        have hB11 : Below ww2211.heap.size ww2211 ww2211 := Below.refl _ _
        refine wpAnyH_narrow (S' := fun w' => Below ww2211.heap.size ww2211 w') (fun _ h => (hHeld.trans (hqw2211.mono hHeld.size)).trans (h.mono (hHeld.trans (hqw2211.mono hHeld.size)).size)) _ _ _ _ ?_
        clear hHeld
        have hHeld : Below ww2211.heap.size ww2211 ww2211 := Below.refl _ _
        refine rtake 12 _ (some 109) _ rfl rfl (by kernel_rfl) (by kernel_rfl) (by kernel_rfl) (fun _ _ _ h => h) (by rfl) hHeld (by intro w hS; go_simp; try with_reducible rfl) ?_
        try (first | (rw [put_some]; dsimp only [List.set]) | rw [put_none])
        refine rtake 15 _ (some 112) _ rfl rfl (by kernel_rfl) (by kernel_rfl) (by kernel_rfl) (fun _ _ _ h => h) (by rfl) hHeld (by intro w hS; go_simp; try with_reducible rfl) ?_
        try (first | (rw [put_some]; dsimp only [List.set]) | rw [put_none])
        refine rtake 16 _ (some 113) _ rfl rfl (by kernel_rfl) (by kernel_rfl) (by kernel_rfl) (fun _ _ _ h => h) (by rfl) hHeld (by intro w hS; go_simp; try with_reducible rfl) ?_
        try (first | (rw [put_some]; dsimp only [List.set]) | rw [put_none])
        refine rtake 17 _ (some 114) _ rfl rfl (by kernel_rfl) (by kernel_rfl) (by kernel_rfl) (fun _ _ _ h => h) (by rfl) hHeld (by intro w hS; go_simp; try with_reducible rfl) ?_
        try (first | (rw [put_some]; dsimp only [List.set]) | rw [put_none])
        refine rtake 18 _ (some 6) _ rfl rfl (by kernel_rfl) (by kernel_rfl) (by kernel_rfl) (fun _ _ _ h => h) (by rfl) hHeld (by intro w hS; go_simp; try with_reducible rfl) ?_
        try (first | (rw [put_some]; dsimp only [List.set]) | rw [put_none])
        refine wpAnyH_done (by kernel_rfl) ?_ _
        refine NoPanic.normal ?_
        clear hcv11 hcv14 hsl11
        have hBe := hbw22.trans (hB.mono hbw22.size)
        clear hHeld
        go_wp2
        go_ret
        exact ⟨rfl, hBe⟩
      · have hnone : allF t = none := by simpa using hsome
        have hfalse : (allF t).isSome = false := by rw [hnone]; rfl
        have hDD : allD t = [] := by unfold allD; rw [hnone]; rfl
        rw [hfalse]
        rw [hDD]
        clear hDD hnone hsome hfalse hsl22 ht22
        go_wp2_with fail
        refine wp_region_noPanic ?_
        refine wp_region_held_drew (S := fun w' => Below w22.heap.size w22 w') (by kernel_rfl) ((Below.refl _ _).drew) (fun hHeld => ?_)
        have hB := hHeld
        refine rtake 0 _ (some 97) _ rfl rfl (by kernel_rfl) (by kernel_rfl) (by kernel_rfl) (fun _ _ _ h => h) (by rfl) hHeld (by intro w hS; go_simp; try with_reducible rfl) ?_
        try (first | (rw [put_some]; dsimp only [List.set]) | rw [put_none])
        refine rtake 1 _ (some 98) _ rfl rfl (by kernel_rfl) (by kernel_rfl) (by kernel_rfl) (fun _ _ _ h => h) (by rfl) hHeld (by intro w hS; go_simp; try with_reducible rfl) ?_
        try (first | (rw [put_some]; dsimp only [List.set]) | rw [put_none])
        refine rtake 2 _ (some 99) _ rfl rfl (by kernel_rfl) (by kernel_rfl) (by kernel_rfl) (fun _ _ _ h => h) (by rfl) hHeld (by intro w hS; go_simp; try with_reducible rfl) ?_
        try (first | (rw [put_some]; dsimp only [List.set]) | rw [put_none])
        refine rtake 3 _ (some 100) _ rfl rfl (by kernel_rfl) (by kernel_rfl) (by kernel_rfl) (fun _ _ _ h => h) (by rfl) hHeld (by intro w hS; go_simp; try with_reducible rfl) ?_
        try (first | (rw [put_some]; dsimp only [List.set]) | rw [put_none])
        refine rtake 4 _ (some 101) _ rfl rfl (by kernel_rfl) (by kernel_rfl) (by kernel_rfl) (fun _ _ _ h => h) (by rfl) hHeld (by intro w hS; go_simp; try with_reducible rfl) ?_
        try (first | (rw [put_some]; dsimp only [List.set]) | rw [put_none])
        refine rtake 5 _ (some 102) _ rfl rfl (by kernel_rfl) (by kernel_rfl) (by kernel_rfl) (fun _ _ _ h => h) (by rfl) hHeld (by intro w hS; go_simp; try with_reducible rfl) ?_
        try (first | (rw [put_some]; dsimp only [List.set]) | rw [put_none])
        refine rtake 6 _ (some 103) _ rfl rfl (by kernel_rfl) (by kernel_rfl) (by kernel_rfl) (fun _ _ _ h => h) (by rfl) hHeld (by intro w hS; go_simp; try with_reducible rfl) ?_
        try (first | (rw [put_some]; dsimp only [List.set]) | rw [put_none])
        refine rtake 7 _ (some 104) _ rfl rfl (by kernel_rfl) (by kernel_rfl) (by kernel_rfl) (fun _ _ _ h => h) (by rfl) hHeld (by intro w hS; go_simp; try with_reducible rfl) ?_
        try (first | (rw [put_some]; dsimp only [List.set]) | rw [put_none])
        refine rskip 8 _ (some 105) rfl rfl (by kernel_rfl) (by kernel_rfl) (by kernel_rfl) (fun _ _ _ h => h) (by rfl) hHeld ?_
        try (first | (rw [put_some]; dsimp only [List.set]) | rw [put_none])
        refine rskip 9 _ (some 106) rfl rfl (by kernel_rfl) (by kernel_rfl) (by kernel_rfl) (fun _ _ _ h => h) (by rfl) hHeld ?_
        try (first | (rw [put_some]; dsimp only [List.set]) | rw [put_none])
        refine rskip 10 _ (some 107) rfl rfl (by kernel_rfl) (by kernel_rfl) (by kernel_rfl) (fun _ _ _ h => h) (by rfl) hHeld ?_
        try (first | (rw [put_some]; dsimp only [List.set]) | rw [put_none])
        refine rskip 11 _ (some 108) rfl rfl (by kernel_rfl) (by kernel_rfl) (by kernel_rfl) (fun _ _ _ h => h) (by rfl) hHeld ?_
        try (first | (rw [put_some]; dsimp only [List.set]) | rw [put_none])
        refine rskip 12 _ (some 109) rfl rfl (by kernel_rfl) (by kernel_rfl) (by kernel_rfl) (fun _ _ _ h => h) (by rfl) hHeld ?_
        try (first | (rw [put_some]; dsimp only [List.set]) | rw [put_none])
        refine rskip 13 _ (some 110) rfl rfl (by kernel_rfl) (by kernel_rfl) (by kernel_rfl) (fun _ _ _ h => h) (by rfl) hHeld ?_
        try (first | (rw [put_some]; dsimp only [List.set]) | rw [put_none])
        refine rskip 14 _ (some 111) rfl rfl (by kernel_rfl) (by kernel_rfl) (by kernel_rfl) (fun _ _ _ h => h) (by rfl) hHeld ?_
        try (first | (rw [put_some]; dsimp only [List.set]) | rw [put_none])
        refine rskip 15 _ (some 112) rfl rfl (by kernel_rfl) (by kernel_rfl) (by kernel_rfl) (fun _ _ _ h => h) (by rfl) hHeld ?_
        try (first | (rw [put_some]; dsimp only [List.set]) | rw [put_none])
        refine rskip 16 _ (some 113) rfl rfl (by kernel_rfl) (by kernel_rfl) (by kernel_rfl) (fun _ _ _ h => h) (by rfl) hHeld ?_
        try (first | (rw [put_some]; dsimp only [List.set]) | rw [put_none])
        refine rtake 17 _ (some 114) _ rfl rfl (by kernel_rfl) (by kernel_rfl) (by kernel_rfl) (fun _ _ _ h => h) (by rfl) hHeld (by intro w hS; go_simp; try with_reducible rfl) ?_
        try (first | (rw [put_some]; dsimp only [List.set]) | rw [put_none])
        refine rtake 18 _ (some 6) _ rfl rfl (by kernel_rfl) (by kernel_rfl) (by kernel_rfl) (fun _ _ _ h => h) (by rfl) hHeld (by intro w hS; go_simp; try with_reducible rfl) ?_
        try (first | (rw [put_some]; dsimp only [List.set]) | rw [put_none])
        refine wpAnyH_done (by kernel_rfl) ?_ _
        refine NoPanic.normal ?_
        have hBe := hbw22.trans (hB.mono hbw22.size)
        clear hHeld
        go_wp2
        go_ret
        exact ⟨rfl, hBe⟩

end Go.Proofs.Ytlbmhoangmmhdaa
