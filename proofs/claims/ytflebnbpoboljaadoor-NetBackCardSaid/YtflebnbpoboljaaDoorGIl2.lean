/- Texts of this claim, one behind the other. -/
import Derived.Test.YtflebnbpoboljaaDoorIq
import Derived.Test.YtflebnbpoboljaaDoorGAd3
import Derived.Test.YtflebnbpoboljaaDoorIo
import Derived.Test.YtflebnbpoboljaaDoorGYl
/- LAYER 12: how long an address's text can be. -/
namespace Go.Proofs.YtflebnbpoboljaaDoor
set_option maxRecDepth 100000
open Go Go.RowKit

/-- How long an address's text can be. -/
theorem glue_len1 (x : UInt8) (ps : List (List UInt8)) (m : Nat) (hm : ∀ p ∈ ps, p.length ≤ m) : (glueL x ps).length + 1 ≤ (m + 1) * ps.length + (if ps = [] then 1 else 0) := by
  induction ps with
  | nil => simp [glueL]
  | cons p ps ih =>
    have h1 := hm p (List.mem_cons_self ..)
    have h2 := ih (fun q hq => hm q (List.mem_cons_of_mem _ hq))
    cases ps with
    | nil => show p.length + 1 ≤ _; simp; omega
    | cons q ps =>
      rw [glueL_cons x p (q :: ps) (by simp), List.length_append, List.length_cons, if_neg (by simp)]
      rw [if_neg (by simp)] at h2
      rw [List.length_cons, Nat.mul_succ]
      omega
theorem joinN_len5 (l : List Nat) (hm : ∀ n ∈ l, n ≤ 65535) : (joinN l).length ≤ 5 * l.length := by
  rw [joinN_glue]
  have := glue_len1 58 (l.map (numL 16)) 4 (by
    intro p hp
    obtain ⟨n, hn, rfl⟩ := List.mem_map.1 hp
    exact numL16_len n (hm n hn))
  rw [List.length_map] at this
  split at this <;> omega
theorem joinN_len8 (l : List Nat) (h8 : l.length = 8) (hm : ∀ n ∈ l, n ≤ 65535) : (joinN l).length ≤ 39 := by
  rw [joinN_glue]
  have := glue_len1 58 (l.map (numL 16)) 4 (by
    intro p hp
    obtain ⟨n, hn, rfl⟩ := List.mem_map.1 hp
    exact numL16_len n (hm n hn))
  rw [List.length_map, h8, if_neg (by intro h; have := congrArg List.length h; simp [h8] at this)] at this
  omega
theorem textA_len (a : Adr) : (textA a).length ≤ 39 := by
  unfold textA
  split
  · split
    · unfold textN
      dsimp only
      have h8 := numsA_len a
      have hm := numsA_le a
      split
      · exact joinN_len8 _ h8 hm
      · rename_i hz
        have h1 := joinN_len5 ((numsA a).take (bestL (numsA a))) (fun n hn => hm n (List.mem_of_mem_take hn))
        have h2 := joinN_len5 ((numsA a).drop (bestL (numsA a) + zerosL ((numsA a).drop (bestL (numsA a))))) (fun n hn => hm n (List.mem_of_mem_drop hn))
        have h3 := best_le (numsA a) h8
        rw [List.length_take] at h1
        rw [List.length_drop] at h2
        rw [List.length_append, List.length_cons, List.length_cons]
        omega
    · have k0 := numL10_len (a.b.getD 0 0).toNat (by have := (a.b.getD 0 0).toNat_lt; omega)
      have k1 := numL10_len (a.b.getD 1 0).toNat (by have := (a.b.getD 1 0).toNat_lt; omega)
      have k2 := numL10_len (a.b.getD 2 0).toNat (by have := (a.b.getD 2 0).toNat_lt; omega)
      have k3 := numL10_len (a.b.getD 3 0).toNat (by have := (a.b.getD 3 0).toNat_lt; omega)
      simp only [List.length_append, List.length_cons]
      omega
  · simp
end Go.Proofs.YtflebnbpoboljaaDoor

/- LAYER 12: the document's Parse. -/
namespace Go.Proofs.YtflebnbpoboljaaDoor
set_option maxRecDepth 100000
open Go Go.RowKit

theorem rparse_any (s : List UInt8) (hs : s.length ≤ 1000) (w : World) :
    Calls Tryd.prog 22 #[.string (bstr s)] w fun e w' => e = .returned (parsV (parseL s)) ∧ Below w.heap.size w w' := by
  unfold parseL
  cases hn : numbersL 10 3 255 46 s with
  | none =>
    cases hf : findC s with
    | none => exact rparse_plainA s hs hn hf w
    | some k => exact rparse_cutA s hs hn k hf w
  | some l =>
    by_cases h4 : l.length = 4
    · simp only [if_pos h4]
      exact rparse_four s hs l hn h4 w
    · simp only [if_neg h4]
      cases hf : findC s with
      | none => exact rparse_plainB s hs l hn h4 hf w
      | some k => exact rparse_cutB s hs l hn h4 k hf w
end Go.Proofs.YtflebnbpoboljaaDoor

/- LAYER 13: the document's num and Text. -/
namespace Go.Proofs.YtflebnbpoboljaaDoor
set_option maxRecDepth 100000
open Go Go.RowKit

theorem hexD_dec (n : Nat) (h : n < 10) : ((hexD n).toNat : Int) = 48 + (n : Int) := by
  have : n = 0 ∨ n = 1 ∨ n = 2 ∨ n = 3 ∨ n = 4 ∨ n = 5 ∨ n = 6 ∨ n = 7 ∨ n = 8 ∨ n = 9 := by omega
  rcases this with rfl | rfl | rfl | rfl | rfl | rfl | rfl | rfl | rfl | rfl <;> rfl
set_option maxHeartbeats 1000000 in
theorem rnum13_any (k : Nat) : ∀ (n : Nat) (w : World), n ≤ k → n ≤ 9223372036854775807 →
    Calls Tryd.prog 32 #[.int .i64 n] w fun e w' => e = .returned (.string (bstr (numL 10 n))) ∧ Below w.heap.size w w' := by
  induction k using Nat.strongRecOn with
  | _ k ih =>
    intro n w hk hm
    by_cases hlt : n < 10
    · have hN := Lib.hid (numL_small 10 n hlt)
      have hlt' : (n : Int) < 10 := by omega
      have hd := hexD_dec n hlt
      generalize hexD n = x at *
      have hw1 : IntKind.i64.wrap (48 + (n : Int)) = (x.toNat : Int) := by rw [IntKind.wrap_i64]; omega
      have hxl := x.toNat_lt
      have hw2 : IntKind.u8.wrap (x.toNat : Int) = (x.toNat : Int) := by rw [IntKind.wrap_u8]; omega
      have hw3 : IntKind.u8.wrap (48 + (n : Int)) = (x.toNat : Int) := by rw [IntKind.wrap_u8]; omega
      have hd2 : 48 + (n : Int) = (x.toNat : Int) := hd.symm
      have hsl := sl_lit w [x] #[.int .u8 (x.toNat : Int)] (0, 0) rfl 1 rfl
      have hcv := conv_bytes hsl 1 rfl
      have hb : Below w.heap.size w (w.alloc (.cells #[.int .u8 (x.toNat : Int)] 5 (0, 0))) := (Below.refl _ w).alloc (Nat.le_refl _) _
      clear hsl ih hd
      go_enter Tryd.func32, Tryd.ntmps32
      go_wp2_with fail
      go_ret
      exact ⟨by rw [hN.out]; rfl, hb⟩
    · have hge : (10 : Int) ≤ (n : Int) := by omega
      have hN := Lib.hid (numL_great 10 n (by omega) (by omega))
      have hq := Lib.hid (show ∀ w', Calls Tryd.prog 32 #[.int .i64 ((n : Int) / 10)] w' fun e w'' => e = .returned (.string (bstr (numL 10 (n / 10)))) ∧ Below w'.heap.size w' w'' from fun w' => ih (n / 10) (by omega) (n / 10) w' (Nat.le_refl _) (by omega))
      have hr := Lib.hid (show ∀ w', Calls Tryd.prog 32 #[.int .i64 ((n : Int) % 10)] w' fun e w'' => e = .returned (.string (bstr [hexD (n % 10)])) ∧ Below w'.heap.size w' w'' from by
        rw [← numL_small 10 (n % 10) (by omega)]; exact fun w' => ih (n % 10) (by omega) (n % 10) w' (Nat.le_refl _) (by omega))
      have hY := numL_len 10 (by omega) 62 (n / 10) (by omega)
      generalize hXn : numL 10 n = X at *
      generalize numL 10 (n / 10) = Y at *
      have hZ : [hexD (n % 10)].length = 1 := rfl
      generalize [hexD (n % 10)] = Z at *
      have hl1 : (bstr Y).size + (bstr Z).size ≤ 9223372036854775807 := by rw [size_bstr, size_bstr]; omega
      have hl2 : ¬ 9223372036854775807 < (bstr Y).size + (bstr Z).size := by omega
      have hw1 : IntKind.i64.wrap ((n : Int) / 10) = (n : Int) / 10 := by rw [IntKind.wrap_i64]; omega
      have hw2 : ((n : Int)).tmod 10 = (n : Int) % 10 := Int.tmod_eq_emod_of_nonneg (by omega)
      clear ih hXn
      have tok1 : True := trivial
      go_enter Tryd.func32, Tryd.ntmps32
      go_wp2_with (first
        | (go_at_call 32; have _t := tok1; refine (hq.out _).mono ?_; rintro e w2 ⟨rfl, hb2⟩; clear tok1)
        | (go_at_call 32; refine (hr.out _).mono ?_; rintro e w3 ⟨rfl, hb3⟩; have hb3 := hb2.trans (hb3.mono hb2.size)))
      go_ret
      exact ⟨by rw [hN.out, ← bstr_cat12]; rfl, hb3⟩
set_option maxHeartbeats 2000000 in
theorem rtext13_any (r : Rng) (h : r.Ok) (w : World) :
    Calls Tryd.prog 14 #[.agg (rngV r).toArray] w fun e w' => e = .returned (.string (bstr (textR r))) ∧ Below w.heap.size w w' := by
  have hcr := Lib.hid (fun w' => rcheckR_any r h w')
  have htx := Lib.hid (fun w' => rtextA_any r.a h.a w')
  have hlim := checkR_lim r
  obtain ⟨R, hR⟩ : ∃ R, R = rngV r := ⟨_, rfl⟩
  obtain ⟨V, hV⟩ : ∃ V, V = adrV r.a := ⟨_, rfl⟩
  have HR := Lib.hid (show R = V ++ [Value.int .i64 r.n] by rw [hR, hV]; rfl)
  have hVl := Lib.hid (show V.length = 17 by rw [hV]; exact length_adrV h.a)
  have hzV := Lib.hid (show (Tryd.prog.info? 24).map (·.size) = some V.length by rw [hVl.out]; exact size_adr)
  have hzR := Lib.hid (show (Tryd.prog.info? 26).map (·.size) = some R.length by rw [hR, length_rngV' r h.a]; exact size_rng)
  rw [← hR] at hcr ⊢
  rw [← hV] at htx
  clear hR hV
  obtain ⟨w1, hw1⟩ : ∃ w1, w1 = w.alloc (.cells R.toArray 26) := ⟨_, rfl⟩
  have r1 : Row w1 w.heap.size 26 R := by rw [hw1]; exact Row.new w _ _
  have hb1 : Below w.heap.size w w1 := by rw [hw1]; exact (Below.refl _ w).alloc (Nat.le_refl _) _
  have HW := Lib.hid hw1
  clear hw1
  have tok1 : True := trivial
  cases hc : checkR r with
  | false =>
    have HX := Lib.hid (show textR r = [] by unfold textR; rw [hc]; rfl)
    rw [hc] at hcr
    clear hc hlim
    go_enter Tryd.func14, Tryd.ntmps14
    go_wp2_with (first
      | (have _t := tok1; rw [← HW.out]; clear tok1; with_reducible refine wpList_load_mid rfl 26 (.tmp 1) rfl w.heap.size 0 rfl R _ (row_range r1) Tryd.underlying26 rfl hzR.out ?_)
      | (go_at_call 12; refine (hcr.out _).mono ?_; rintro e w2 ⟨rfl, hb2⟩; have hb2 := hb1.trans (hb2.mono hb1.size)))
    go_ret
    exact ⟨by rw [HX.out]; rfl, hb2⟩
  | true =>
    obtain ⟨-, n0, n1⟩ := hlim hc
    have HX := Lib.hid (show textR r = (textA r.a ++ [47]) ++ numL 10 r.n.toNat by rw [textR_ok r hc]; simp)
    have hnm := Lib.hid (show ∀ w', Calls Tryd.prog 32 #[.int .i64 r.n] w' fun e w'' => e = .returned (.string (bstr (numL 10 r.n.toNat))) ∧ Below w'.heap.size w' w'' from fun w' => by
      have := rnum13_any r.n.toNat r.n.toNat w' (Nat.le_refl _) (by omega)
      rw [Int.toNat_of_nonneg n0] at this
      exact this)
    have hl1 := textA_len r.a
    have hl2 := numL_len 10 (by omega) 2 r.n.toNat (by omega)
    rw [hc] at hcr
    generalize textA r.a = A at *
    generalize numL 10 r.n.toNat = B at *
    generalize hn : r.n = n at *
    have hs1 : (bstr A).size ≤ 39 := by rw [size_bstr]; exact hl1
    have hs2 : (bstr B).size ≤ 3 := by rw [size_bstr]; exact hl2
    clear hc hlim n0 n1 hl1 hl2 hn
    go_enter Tryd.func14, Tryd.ntmps14
    go_wp2_with (first
      | (have _t := tok1; rw [← HW.out]; clear tok1; with_reducible refine wpList_load_mid rfl 26 (.tmp 1) rfl w.heap.size 0 rfl R _ (row_range r1) Tryd.underlying26 rfl hzR.out ?_)
      | (go_at_call 12; refine (hcr.out _).mono ?_; rintro e w2 ⟨rfl, hb2⟩; have r2 := r1.later hb2 r1.lt; have hb2 := hb1.trans (hb2.mono hb1.size)))
    refine wp_region_noPanic ?_
    refine wp_region_held_drew (S := fun w' => Below w2.heap.size w2 w') (by kernel_rfl) ((Below.refl _ _).drew) (fun hHeld => ?_)
    have hB := hHeld
    refine rtake 0 _ (some 6) _ rfl rfl (by kernel_rfl) (by kernel_rfl) (by kernel_rfl) (fun _ _ _ h => h) (by rfl) hHeld (by intro w hS; go_simp; try with_reducible rfl) ?_
    try (first | (rw [put_some]; dsimp only [List.set]) | rw [put_none])
    refine rtake 1 _ (some 7) _ rfl rfl (by kernel_rfl) (by kernel_rfl) (by kernel_rfl) (fun _ _ _ h => h) (by rfl) hHeld (by intro w hS; exact run_load_op 24 (.tmp 6) rfl _ 0 rfl V _ (row_part' HR.out (r2.later hS r2.lt)) Tryd.underlying24 rfl hzV.out) ?_
    try (first | (rw [put_some]; dsimp only [List.set]) | rw [put_none])
    refine rtake 4 _ (some 10) _ rfl rfl (by kernel_rfl) (by kernel_rfl) (by kernel_rfl) (fun _ _ _ h => h) (by rfl) hHeld (by intro w hS; go_simp; try with_reducible rfl) ?_
    try (first | (rw [put_some]; dsimp only [List.set]) | rw [put_none])
    refine rtake 5 _ (some 11) _ rfl rfl (by kernel_rfl) (by kernel_rfl) (by kernel_rfl) (fun _ _ _ h => h) (by rfl) hHeld (by intro w hS; have hcn := rng_n' hVl.out HR.out (r2.later hS r2.lt); go_simp; try with_reducible rfl) ?_
    try (first | (rw [put_some]; dsimp only [List.set]) | rw [put_none])
    refine wpAnyH_ready (rs := [2]) (by kernel_rfl) (by simp) (AllReadyH.cons (o := _) rfl (fun K hK => ?_) AllReadyH.nil)
    go_simp
    refine (htx.out _).mono ?_; rintro e ww22 ⟨rfl, hqw22⟩
    try go_wp2_with fail
    refine hK.out _ _ (hHeld.trans (hqw22.mono hHeld.size)) (fun hHeld' => ?_)
    clear hK K
    try (first | (rw [put_some]; dsimp only [List.set]) | rw [put_none])
    have hB := below_step hB hqw22
    have hB2 : Below ww22.heap.size ww22 ww22 := Below.refl _ _
    refine wpAnyH_narrow (S' := fun w' => Below ww22.heap.size ww22 w') (fun _ h => (hHeld.trans (hqw22.mono hHeld.size)).trans (h.mono (hHeld.trans (hqw22.mono hHeld.size)).size)) _ _ _ _ ?_
    clear hHeld
    have hHeld : Below ww22.heap.size ww22 ww22 := Below.refl _ _
    refine rtake 3 _ (some 9) _ rfl rfl (by kernel_rfl) (by kernel_rfl) (by kernel_rfl) (fun _ _ _ h => h) (by rfl) hHeld (by intro w hS; go_simp; rw [if_neg (by (try simp only [ByteArray.size_append]); (try simp only [show ({ data := #[47] } : ByteArray).size = 1 from rfl]); omega)]) ?_
    try (first | (rw [put_some]; dsimp only [List.set]) | rw [put_none])
    refine wpAnyH_ready (rs := [6]) (by kernel_rfl) (by simp) (AllReadyH.cons (o := _) rfl (fun K hK => ?_) AllReadyH.nil)
    go_simp
    refine (hnm.out _).mono ?_; rintro e ww26 ⟨rfl, hqw26⟩
    try go_wp2_with fail
    refine hK.out _ _ (hHeld.trans (hqw26.mono hHeld.size)) (fun hHeld' => ?_)
    clear hK K
    try (first | (rw [put_some]; dsimp only [List.set]) | rw [put_none])
    have hB := below_step hB hqw26
    have hB2 := below_step hB2 hqw26
    have hB6 : Below ww26.heap.size ww26 ww26 := Below.refl _ _
    refine wpAnyH_narrow (S' := fun w' => Below ww26.heap.size ww26 w') (fun _ h => (hHeld.trans (hqw26.mono hHeld.size)).trans (h.mono (hHeld.trans (hqw26.mono hHeld.size)).size)) _ _ _ _ ?_
    clear hHeld
    have hHeld : Below ww26.heap.size ww26 ww26 := Below.refl _ _
    refine rtake 7 _ (some 13) _ rfl rfl (by kernel_rfl) (by kernel_rfl) (by kernel_rfl) (fun _ _ _ h => h) (by rfl) hHeld (by intro w hS; go_simp; rw [if_neg (by (try simp only [ByteArray.size_append]); (try simp only [show ({ data := #[47] } : ByteArray).size = 1 from rfl]); omega)]) ?_
    try (first | (rw [put_some]; dsimp only [List.set]) | rw [put_none])
    refine rtake 8 _ (some 2) _ rfl rfl (by kernel_rfl) (by kernel_rfl) (by kernel_rfl) (fun _ _ _ h => h) (by rfl) hHeld (by intro w hS; go_simp; try with_reducible rfl) ?_
    try (first | (rw [put_some]; dsimp only [List.set]) | rw [put_none])
    refine wpAnyH_done (by kernel_rfl) ?_ _
    refine NoPanic.normal ?_
    have hbe := hb2.trans (hB.mono hb2.size)
    clear hHeld
    go_wp2
    go_ret
    exact ⟨by rw [HX.out]; simp only [← bstr_cat12]; rfl, hbe⟩
end Go.Proofs.YtflebnbpoboljaaDoor

/- LAYER 13: the document's Parse. -/
namespace Go.Proofs.YtflebnbpoboljaaDoor
set_option maxRecDepth 100000
open Go Go.RowKit

theorem parsA_out (s : List UInt8) : ∃ (a : Adr) (b : Bool), a.Ok ∧ parsV (parseL s) = .tuple #[.agg (adrV a).toArray, .bool b] ∧ (b = true → parseL s = some a) ∧ (b = false → parseL s = none) := by
  cases hp : parseL s with
  | none => exact ⟨zeroA, false, zeroA_ok, rfl, (fun h => by cases h), fun _ => rfl⟩
  | some a => exact ⟨a, true, ((parseL_iff s a).1 hp).1, rfl, (fun _ => rfl), fun h => by cases h⟩
theorem parseR_at (s : List UInt8) (k : Nat) (a : Adr) (n : Nat) (hs : slashL s = some k) (hp : parseL (s.take k) = some a) (ht : textR ⟨a, n⟩ = s) : parseR s = some ⟨a, n⟩ := by
  refine (parseR_iff s ⟨a, n⟩).2 ⟨((parseL_iff _ a).1 hp).1, ?_, ht⟩
  refine (textR_ne _ ?_).1
  rw [ht]
  intro e
  rw [e] at hs; cases hs
theorem parseR_no (s : List UInt8) (k : Nat) (a : Adr) (hs : slashL s = some k) (hp : parseL (s.take k) = some a) (hn : ∀ n : Nat, n < 129 → textR ⟨a, n⟩ ≠ s) : parseR s = none := by
  unfold parseR
  simp only [hs, hp]
  rw [List.find?_eq_none.2 (fun n hmem => by simpa using hn n (List.mem_range.1 hmem))]
  rfl
theorem parseR_none1 (s : List UInt8) (hs : slashL s = none) : parseR s = none := by unfold parseR; simp only [hs]
theorem parseR_none2 (s : List UInt8) (k : Nat) (hs : slashL s = some k) (hp : parseL (s.take k) = none) : parseR s = none := by unfold parseR; simp only [hs, hp]
set_option maxHeartbeats 4000000 in
theorem rparse13_any (s : List UInt8) (hs : s.length ≤ 1000) (w : World) :
    Calls Tryd.prog 8 #[.string (bstr s)] w fun e w' => e = .returned (parsR (parseR s)) ∧ Below w.heap.size w w' := by
  have hzs := size_bstr s
  have HE := Lib.hid (fun t => bstr_beq t s)
  obtain ⟨Z, hZ⟩ : ∃ Z, Z = rngV zeroR := ⟨_, rfl⟩
  have hzZ := Lib.hid (show (Tryd.prog.info? 26).map (·.size) = some Z.toArray.size by rw [hZ, List.size_toArray, length_rngV' _ zeroA_ok]; exact size_rng)
  have hZ1 := Lib.hid (show Z.toArray.all (·.oneCell') = true by rw [hZ]; exact rngV_one' _)
  have HZ0 := Lib.hid (show parsR none = .tuple #[.agg Z.toArray, .bool false] by rw [hZ]; rfl)
  have hZl := Lib.hid (show Z.toArray.size = 18 by rw [hZ, List.size_toArray, length_rngV' _ zeroA_ok])
  have hZe := Lib.hid (hZ.trans rngV_zero)
  obtain ⟨w1, hw1⟩ : ∃ w1, w1 = w.alloc (.cells Z.toArray 26) := ⟨_, rfl⟩
  have q1 : Row w1 w.heap.size 26 Z := by rw [hw1]; exact Row.new w _ _
  have hb1 : Below w.heap.size w w1 := by rw [hw1]; exact (Below.refl _ w).alloc (Nat.le_refl _) _
  have HW := Lib.hid (show w1 = w.alloc (.cells #[Value.bool false, .int .u8 0, .int .u8 0, .int .u8 0, .int .u8 0, .int .u8 0, .int .u8 0, .int .u8 0, .int .u8 0, .int .u8 0, .int .u8 0, .int .u8 0, .int .u8 0, .int .u8 0, .int .u8 0, .int .u8 0, .int .u8 0, .int .i64 0] 26) by rw [hw1, hZe.out])
  clear hw1 hZ
  have hno := slashL_none s
  have hat := slashL_at s
  have HNO := Lib.hid hno
  have HAT := Lib.hid hat
  have HIX := Lib.hid (index_bstr s)
  have HCUT := Lib.hid (fun k => (show (bstr s).extract 0 k = bstr (s.take k) by rw [extract_bstr12 s 0 k]; simp))
  clear hno hat
  obtain ⟨S, hS⟩ : ∃ S, S = bstr s := ⟨_, rfl⟩
  rw [← hS] at hzs HIX HCUT HE ⊢
  clear hS
  go_enter Tryd.func8, Tryd.ntmps8
  go_wp2
  rw [← HW.out]
  clear HW
  go_loopw [4] (fun i wr => ∃ k : Nat, k ≤ s.length ∧ i = .int .i64 k ∧ (∀ j, j < k → s.getD j 0 ≠ 47) ∧ Row wr w.heap.size 26 Z ∧ Below w.heap.size w wr) (fun i _ => s.length - (intOf i).toNat)
  case atStart => exact ⟨0, Nat.zero_le _, rfl, fun j hj => by omega, q1, hb1⟩
  case round =>
    clear q1 hb1
    obtain ⟨k, hk, rfl, hz, q1, hb1⟩ := hrel
    by_cases hlt : k < s.length
    · have hlt' : (k : Int) < (s.length : Int) := by omega
      have hix := HIX.out k hlt
      by_cases hx : s.getD k 0 = 47
      · have HSL := Lib.hid (HAT.out k hlt hz hx)
        rw [hx] at hix
        have hix : ∀ w, (Instr.index 9 (.string S) (.int .i64 (k : Int))).run Tryd.prog w = .ok (.int .u8 47) w := hix
        obtain ⟨a, ok, ha, hpe, hpt, hpf⟩ := parsA_out (s.take k)
        have hpr := Lib.hid (fun w' => rparse_any (s.take k) (by rw [List.length_take]; omega) w')
        rw [hpe] at hpr
        have hcut := HCUT.out k
        have HPT := Lib.hid hpt
        have HPF := Lib.hid hpf
        obtain ⟨V, hV⟩ : ∃ V, V = adrV a := ⟨_, rfl⟩
        have hVl := Lib.hid (show V.length = 17 by rw [hV]; exact length_adrV ha)
        have hzV := Lib.hid (show (Tryd.prog.info? 24).map (·.size) = some V.length by rw [hVl.out]; exact size_adr)
        have hzV2 := Lib.hid (show (Tryd.prog.info? 24).map (·.size) = some V.toArray.size by rw [List.size_toArray, hVl.out]; exact size_adr)
        have h17 := Lib.hid (show 17 = V.toArray.size by rw [List.size_toArray, hVl.out])
        have hV1 := Lib.hid (show V.toArray.all (·.oneCell') = true by rw [hV]; exact adrV_one' _)
        have HV := Lib.hid hV
        rw [← hV] at hpr
        have hks : (k : Int) ≤ (s.length : Int) := by omega
        generalize bstr (s.take k) = T at *
        clear hV hz hx HIX HCUT HNO HAT hpt hpf hpe
        go_wp2_with (first
          | (go_at_call 22; refine (hpr.out _).mono ?_; rintro e w2 ⟨rfl, hb2⟩; have q2 := q1.later hb2 q1.lt; have hb2 := hb1.trans (hb2.mono hb1.size))
          | (have _t := hb2; refine wpList_store_row rfl 24 (.tmp 5) (.tmp 24) rfl w2.heap.size V.toArray rfl rfl 24 _ (heap_alloc_new w2 _) hzV2.out h17.out hV1.out ?_; refine Hid.out ?_))
        refine Lib.hid ?_
        generalize hw4 : World.setRow _ _ _ = w4
        obtain ⟨r4, hb4'⟩ := row_new_set (xs := V) hw4
        have q4 := q2.later hb4' q2.lt
        have hb4 := hb2.trans (hb4'.mono hb2.size)
        clear hw4 hb4' q1 q2 hix hcut hpr
        generalize w2.heap.size = g at *
        go_wp2
        go_loopw [7] (fun i wr2 => ∃ n : Nat, n ≤ 129 ∧ i = .int .i64 n ∧ (∀ j : Nat, j < n → textR ⟨a, j⟩ ≠ s) ∧ Row wr2 w.heap.size 26 Z ∧ Row wr2 g 24 V ∧ Below w.heap.size w wr2) (fun i _ => 129 - (intOf i).toNat)
        case atStart => exact ⟨0, Nat.zero_le _, rfl, fun j hj => by omega, q4, r4, hb4⟩
        case round =>
          clear q4 r4 hb4
          obtain ⟨n, hn, rfl, hz, q4, r4, hb4⟩ := hrel
          cases ok with
          | false =>
            have HX := Lib.hid (show parsR (parseR s) = .tuple #[.agg Z.toArray, .bool false] by rw [parseR_none2 s k HSL.out (HPF.out rfl), HZ0.out])
            have Q2 := Lib.hid (show wr.heap[w.heap.size]? = some (.cells Z.toArray 26 (0, 0)) from q4)
            clear hz q4 r4 HPT HPF HSL HE
            go_wp2_with (have _t := Q2; refine wpList_store_row rfl 26 (.tmp 2) (.tmp 41) rfl w.heap.size Z.toArray rfl (by rw [hZe.out]; rfl) 26 Z.toArray Q2.out hzZ.out rfl hZ1.out ?_; refine Hid.out ?_)
            refine Lib.hid ?_
            generalize hw8 : World.setRow _ _ _ = w8
            obtain ⟨r8, hg8⟩ := row_set (show Row wr w.heap.size 26 Z from Q2.out) hw8
            have hb8 := hb4.grown hg8 hb4.size (fun k h => by cases h; exact Nat.le_refl _)
            have R8 := Lib.hid (show w8.heap[w.heap.size]? = some (.cells Z.toArray 26 (0, 0)) from r8)
            clear hw8 r8 hg8 Q2
            go_wp2_with fail
            exact ⟨rfl, _, results_row_tmp rfl _ _ w.heap.size 26 Z.toArray (0, 0) _ rfl R8.out Tryd.underlying26 rfl hzZ.out _ rfl, by rw [HX.out]; rfl, hb8⟩
          | true =>
            have HP := Lib.hid (HPT.out rfl)
            by_cases hlt2 : n ≤ 128
            · have hlt3 : (n : Int) ≤ 128 := by omega
              have hro : (⟨a, (n : Int)⟩ : Rng).Ok := ⟨ha, by show (-9223372036854775808 : Int) ≤ (n : Int); omega, by show (n : Int) ≤ 9223372036854775807; omega⟩
              have htx := Lib.hid (fun w' => rtext13_any ⟨a, n⟩ hro w')
              have heq := HE.out (textR ⟨a, n⟩)
              obtain ⟨X, hX⟩ : ∃ X, X = rngV ⟨a, n⟩ := ⟨_, rfl⟩
              have hXl := length_rngV' _ hro.a
              have hzX := Lib.hid (show (Tryd.prog.info? 26).map (·.size) = some X.length by rw [hX, hXl]; exact size_rng)
              have hzX2 := Lib.hid (show (Tryd.prog.info? 26).map (·.size) = some X.toArray.size by rw [List.size_toArray]; exact hzX.out)
              have h18 := Lib.hid (show 18 = X.toArray.size by rw [hX, List.size_toArray, hXl])
              have hX1 := Lib.hid (show X.toArray.all (·.oneCell') = true by rw [hX]; exact rngV_one' _)
              have hZX := Lib.hid (show Z.toArray.size = X.toArray.size by rw [hZl.out, hX, List.size_toArray, hXl])
              have HXe := Lib.hid (show X = V ++ [Value.int .i64 (n : Int)] by rw [hX, HV.out]; rfl)
              have HXp := Lib.hid (show parsR (some ⟨a, n⟩) = .tuple #[.agg X.toArray, .bool true] by rw [hX]; rfl)
              rw [← hX] at htx
              clear hX hXl hro HE HPT HPF
              by_cases hT : textR ⟨a, n⟩ = s
              · have HX := Lib.hid (show parsR (parseR s) = .tuple #[.agg X.toArray, .bool true] by rw [parseR_at s k a n HSL.out HP.out hT, HXp.out])
                rw [decide_eq_true hT] at heq
                clear hT hz HSL HP HXp
                generalize textR ⟨a, n⟩ = tx at *
                generalize bstr tx = TX at *
                go_wp2_with (first
                  | (with_reducible refine wpList_load_mid rfl 24 (.tmp 5) rfl g 0 rfl V _ (row_range r4) Tryd.underlying24 rfl hzV.out ?_)
                  | (refine wpList_build2 rfl 26 0 1 (.tmp 33) (.tmp 34) rfl (.agg V.toArray) (.int .i64 (n : Int)) (.agg X.toArray) rfl rfl (by rw [HXe.out]; exact build_rng V (n : Int) hVl.out _) ?_)
                  | (refine wpList_store_row rfl 26 (.tmp 8) (.tmp 35) rfl wr.heap.size X.toArray rfl rfl 26 _ (heap_alloc_new wr _) hzX2.out h18.out hX1.out ?_; refine Hid.out ?_))
                refine Lib.hid ?_
                generalize hw6 : World.setRow _ _ _ = w6
                obtain ⟨x6, hb6'⟩ := row_new_set (xs := X) hw6
                have q6 := q4.later hb6' q4.lt
                have r6 := r4.later hb6' r4.lt
                have hb6 := hb4.trans (hb6'.mono hb4.size)
                clear hw6 hb6' q4 r4
                generalize wr.heap.size = g2 at *
                go_wp2_with (first
                  | (with_reducible refine wpList_load_mid rfl 26 (.tmp 8) rfl g2 0 rfl X _ (row_range x6) Tryd.underlying26 rfl hzX.out ?_)
                  | (go_at_call 14; refine (htx.out _).mono ?_; rintro e w7 ⟨rfl, hb7⟩; have x7 := x6.later hb7 x6.lt; have q7 := q6.later hb7 q6.lt; have r7 := r6.later hb7 r6.lt; have hb7 := hb6.trans (hb7.mono hb6.size); clear x6 q6 r6; refine Hid.out ?_))
                refine Lib.hid ?_
                have Q2 := Lib.hid (show w7.heap[w.heap.size]? = some (.cells Z.toArray 26 (0, 0)) from q7)
                clear q7 r7
                go_wp2_with (first
                  | (with_reducible refine wpList_load_mid rfl 26 (.tmp 8) rfl g2 0 rfl X _ (row_range x7) Tryd.underlying26 rfl hzX.out ?_)
                  | (with_reducible refine wpList_store_row rfl 26 (.tmp 2) (.tmp 40) rfl w.heap.size X.toArray rfl rfl 26 Z.toArray Q2.out hzX2.out hZX.out hX1.out ?_; refine Hid.out ?_))
                refine Lib.hid ?_
                generalize hw8 : World.setRow _ _ _ = w8
                obtain ⟨r8, hg8⟩ := row_set (show Row w7 w.heap.size 26 Z from Q2.out) hw8
                have hb8 := hb7.grown hg8 hb7.size (fun k h => by cases h; exact Nat.le_refl _)
                have R8 := Lib.hid (show w8.heap[w.heap.size]? = some (.cells X.toArray 26 (0, 0)) from r8)
                clear hw8 r8 hg8 Q2
                go_wp2_with fail
                exact ⟨rfl, _, results_row_tmp rfl _ _ w.heap.size 26 X.toArray (0, 0) _ rfl R8.out Tryd.underlying26 rfl hzX2.out _ rfl, by rw [HX.out]; rfl, hb8⟩
              · have HZ := Lib.hid (show ∀ j : Nat, j < n + 1 → textR ⟨a, j⟩ ≠ s from fun j hj => by
                  by_cases e : j = n
                  · rw [e]; exact hT
                  · exact hz j (by omega))
                rw [decide_eq_false hT] at heq
                clear hT hz HSL HP HXp
                generalize textR ⟨a, n⟩ = tx at *
                generalize bstr tx = TX at *
                go_wp2_with (first
                  | (with_reducible refine wpList_load_mid rfl 24 (.tmp 5) rfl g 0 rfl V _ (row_range r4) Tryd.underlying24 rfl hzV.out ?_)
                  | (refine wpList_build2 rfl 26 0 1 (.tmp 33) (.tmp 34) rfl (.agg V.toArray) (.int .i64 (n : Int)) (.agg X.toArray) rfl rfl (by rw [HXe.out]; exact build_rng V (n : Int) hVl.out _) ?_)
                  | (refine wpList_store_row rfl 26 (.tmp 8) (.tmp 35) rfl wr.heap.size X.toArray rfl rfl 26 _ (heap_alloc_new wr _) hzX2.out h18.out hX1.out ?_; refine Hid.out ?_))
                refine Lib.hid ?_
                generalize hw6 : World.setRow _ _ _ = w6
                obtain ⟨x6, hb6'⟩ := row_new_set (xs := X) hw6
                have q6 := q4.later hb6' q4.lt
                have r6 := r4.later hb6' r4.lt
                have hb6 := hb4.trans (hb6'.mono hb4.size)
                clear hw6 hb6' q4 r4
                generalize wr.heap.size = g2 at *
                go_wp2_with (first
                  | (with_reducible refine wpList_load_mid rfl 26 (.tmp 8) rfl g2 0 rfl X _ (row_range x6) Tryd.underlying26 rfl hzX.out ?_)
                  | (go_at_call 14; refine (htx.out _).mono ?_; rintro e w7 ⟨rfl, hb7⟩; have x7 := x6.later hb7 x6.lt; have q7 := q6.later hb7 q6.lt; have r7 := r6.later hb7 r6.lt; have hb7 := hb6.trans (hb7.mono hb6.size); clear x6 q6 r6; refine Hid.out ?_))
                refine Lib.hid ?_
                go_wp2
                go_roundw
                case rel => exact ⟨n + 1, by omega, by go_num, HZ.out, q7, r7, hb7⟩
                case measure => simp [intOf]; omega
            · obtain rfl : n = 129 := by omega
              have HX := Lib.hid (show parsR (parseR s) = .tuple #[.agg Z.toArray, .bool false] by rw [parseR_no s k a HSL.out HP.out hz, HZ0.out])
              have Q2 := Lib.hid (show wr.heap[w.heap.size]? = some (.cells Z.toArray 26 (0, 0)) from q4)
              clear hz q4 r4 HPT HPF HSL HE HP
              go_wp2_with (have _t := Q2; refine wpList_store_row rfl 26 (.tmp 2) (.tmp 41) rfl w.heap.size Z.toArray rfl (by rw [hZe.out]; rfl) 26 Z.toArray Q2.out hzZ.out rfl hZ1.out ?_; refine Hid.out ?_)
              refine Lib.hid ?_
              generalize hw8 : World.setRow _ _ _ = w8
              obtain ⟨r8, hg8⟩ := row_set (show Row wr w.heap.size 26 Z from Q2.out) hw8
              have hb8 := hb4.grown hg8 hb4.size (fun k h => by cases h; exact Nat.le_refl _)
              have R8 := Lib.hid (show w8.heap[w.heap.size]? = some (.cells Z.toArray 26 (0, 0)) from r8)
              clear hw8 r8 hg8 Q2
              go_wp2_with fail
              exact ⟨rfl, _, results_row_tmp rfl _ _ w.heap.size 26 Z.toArray (0, 0) _ rfl R8.out Tryd.underlying26 rfl hzZ.out _ rfl, by rw [HX.out]; rfl, hb8⟩
      · have hxe : (((s.getD k 0).toNat : Int) != 47) = true := by
          rw [bne_iff_ne]
          intro h
          exact hx (UInt8.toNat_inj.1 (by show (s.getD k 0).toNat = 47; omega))
        have HZ := Lib.hid (show ∀ j, j < k + 1 → s.getD j 0 ≠ 47 from fun j hj => by
          by_cases e : j = k
          · rw [e]; exact hx
          · exact hz j (by omega))
        generalize s.getD k 0 = x at *
        clear hz hx HIX HCUT HNO HAT
        go_wp2
        go_roundw
        case rel => exact ⟨k + 1, by omega, by go_num, HZ.out, q1, hb1⟩
        case measure => simp [intOf]; omega
    · obtain rfl : k = s.length := by omega
      have HX := Lib.hid (show parsR (parseR s) = .tuple #[.agg Z.toArray, .bool false] by rw [parseR_none1 s (HNO.out hz), HZ0.out])
      have Q2 := Lib.hid (show wr.heap[w.heap.size]? = some (.cells Z.toArray 26 (0, 0)) from q1)
      clear hz HIX HCUT HNO HAT q1
      go_wp2_with (have _t := Q2; refine wpList_store_row rfl 26 (.tmp 2) (.tmp 42) rfl w.heap.size Z.toArray rfl (by rw [hZe.out]; rfl) 26 Z.toArray Q2.out hzZ.out rfl hZ1.out ?_; refine Hid.out ?_)
      refine Lib.hid ?_
      generalize hw8 : World.setRow _ _ _ = w8
      obtain ⟨r8, hg8⟩ := row_set (show Row wr w.heap.size 26 Z from Q2.out) hw8
      have hb8 := hb1.grown hg8 hb1.size (fun k h => by cases h; omega)
      have R8 := Lib.hid (show w8.heap[w.heap.size]? = some (.cells Z.toArray 26 (0, 0)) from r8)
      clear hw8 r8 hg8 Q2
      go_wp2_with fail
      exact ⟨rfl, _, results_row_tmp rfl _ _ w.heap.size 26 Z.toArray (0, 0) _ rfl R8.out Tryd.underlying26 rfl hzZ.out _ rfl, by rw [HX.out]; rfl, hb8⟩
end Go.Proofs.YtflebnbpoboljaaDoor
