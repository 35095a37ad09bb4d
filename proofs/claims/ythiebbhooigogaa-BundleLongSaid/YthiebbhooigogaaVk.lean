/- LAYER 8: package varint: Size, Put, Get. -/
import Derived.Test.YthiebbhooigogaaVg
import Derived.Laws.MakeOwn
namespace Go.Proofs.Ythiebbhooigogaa
open Go Go.RowKit

theorem length_varL_small (n : Nat) (h : n < 128) : (varL n).length = 1 := by rw [varL_small n h]; rfl
theorem length_varL_big (n : Nat) (h : ¬ n < 128) (hn : n < 18446744073709551616) : (varL n).length = (varL (n / 128)).length + 1 := by rw [varL_big n h hn]; rfl
set_option maxHeartbeats 1000000 in
theorem vsize_pure (m : Nat) (hm : m < 18446744073709551616) (w : World) :
    Calls Try.prog 59 #[.int .u64 m] w fun e w' => e = .returned (.int .i64 ((varL m).length : Int)) ∧ w' = w := by
  go_enter Try.func59, Try.ntmps59
  go_wp2_with fail
  go_loop [0, 3] (fun x s => ∃ q k : Nat, q < 18446744073709551616 ∧ x = .int .u64 q ∧ s = .int .i64 ((k : Int) + 1) ∧ (varL m).length + 1 = (varL q).length + (k + 1)) (fun x _ => (intOf x).toNat)
  case atStart => exact ⟨m, 0, hm, rfl, rfl, rfl⟩
  case round =>
    obtain ⟨q, k, hq, rfl, rfl, hlen⟩ := hrel
    have hl := length_varL m
    have hlq := length_varL q
    by_cases h0 : q < 128
    · rw [length_varL_small q h0] at hlen
      have hk := Lib.hid (show (varL m).length = k + 1 by omega)
      have hge : ¬ (128 : Int) ≤ (q : Int) := by omega
      clear hl hlq hlen hm
      go_wp2
      go_ret
      exact ⟨by rw [hk.out]; rfl, rfl⟩
    · have hlt : (128 : Int) ≤ (q : Int) := by omega
      rw [length_varL_big q h0 hq] at hlen
      have hlq2 := length_varL (q / 128)
      obtain ⟨q2, hq2⟩ : ∃ q2, q2 = q / 128 := ⟨_, rfl⟩
      have hquo : (q : Int) / 128 = (q2 : Int) := by rw [hq2]; omega
      have hsm : q2 < 18446744073709551616 ∧ q2 < q := by omega
      rw [← hq2] at hlen hlq2
      have hkb : (k : Int) ≤ 10 := by omega
      have hlen := Lib.hid hlen
      clear hl hlq hlq2 hq2
      go_wp2
      go_round
      case rel => exact ⟨q2, k + 1, hsm.1, rfl, rfl, by have := hlen.out; omega⟩
      case measure => have := hsm.2; simp [intOf]; omega
theorem vsize_any (m : Nat) (hm : m < 18446744073709551616) (w : World) :
    Calls Try.prog 59 #[.int .u64 m] w fun e w' => e = .returned (.int .i64 ((varL m).length : Int)) ∧ Below w.heap.size w w' :=
  (vsize_pure m hm w).mono fun e w' h => ⟨h.1, by rw [h.2]; exact Below.refl _ _⟩
/-- What a number's bytes must be to be bytes of that number: as many as it has. -/
theorem val_inj : ∀ (k : Nat) (T L : List UInt8), headL k T = T → headL k L = L → T.length = L.length → valL T = valL L → T = L
  | 0, T, L, h1, h2, _, _ => by rw [← h1, ← h2]; rfl
  | k + 1, [], L, _, _, h, _ => (List.eq_nil_of_length_eq_zero h.symm).symm
  | k + 1, b :: T, [], _, _, h, _ => by simp at h
  | k + 1, b :: T, c :: L, h1, h2, h, hv => by
    have hbl := b.toNat_lt
    have hcl := c.toNat_lt
    have hlen : T.length = L.length := by simpa using h
    rw [valL, valL] at hv
    have hmod : b.toNat % 128 = c.toNat % 128 := by omega
    have hrest : valL T = valL L := by omega
    have key : ∀ (x : UInt8) (X : List UInt8), headL (k + 1) (x :: X) = x :: X → (x.toNat < 128 ∧ X = []) ∨ (128 ≤ x.toNat ∧ X ≠ [] ∧ headL k X = X) := by
      intro x X hx
      rw [headL] at hx
      by_cases e : x.toNat < 128
      · rw [if_pos e] at hx
        injection hx with _ hx
        exact .inl ⟨e, hx.symm⟩
      · rw [if_neg e] at hx
        refine .inr ⟨by omega, ?_⟩
        cases hq : headL k X with
        | nil => rw [hq] at hx; cases hx
        | cons d D =>
          rw [hq] at hx
          injection hx with _ hx
          exact ⟨by rw [← hx]; exact List.cons_ne_nil _ _, hx⟩
    have hbc : b.toNat = c.toNat → b :: T = c :: L → b :: T = c :: L := fun _ h => h
    rcases key b T h1 with ⟨p1, p2⟩ | ⟨p1, p2, p3⟩
    · rcases key c L h2 with ⟨q1, q2⟩ | ⟨q1, q2, q3⟩
      · have : b = c := by rw [← UInt8.toNat_inj]; omega
        rw [this, p2, q2]
      · subst p2
        exact absurd (List.eq_nil_of_length_eq_zero hlen.symm) q2
    · rcases key c L h2 with ⟨q1, q2⟩ | ⟨q1, q2, q3⟩
      · subst q2
        exact absurd (List.eq_nil_of_length_eq_zero hlen) p2
      · have : b = c := by rw [← UInt8.toNat_inj]; omega
        rw [this, val_inj k T L p3 q3 hlen hrest]
/-- Where the loop stops at a byte that ends: a number, just if it has as many bytes. -/
theorem getL_ends (l : List UInt8) (k : Nat) (h1 : k < 10) (h2 : k < l.length) (hb : BigTo l k) (hs : (l.getD k 0).toNat < 128) (hv : valL (l.take (k + 1)) < 18446744073709551616) :
    getL l = if (varL (valL (l.take (k + 1)))).length = k + 1 then (valL (l.take (k + 1)), k + 1) else (0, 0) := by
  have h := getL_stop l k h1 h2 hb hs
  have hlen : (l.take (k + 1)).length = k + 1 := by rw [List.length_take]; omega
  rw [Nat.mod_eq_of_lt hv] at h
  rw [h]
  by_cases e : (varL (valL (l.take (k + 1)))).length = k + 1
  · rw [if_pos e]
    refine if_pos (val_inj 10 _ _ ?_ ?_ (by rw [e, hlen]) (valL_varL _ hv))
    · have := headL_varL (valL (l.take (k + 1))) [] hv
      rwa [List.append_nil] at this
    · have hg : ∀ j, j < k + 1 → (l.take (k + 1)).getD j 0 = l.getD j 0 := by
        intro j hj
        rw [List.getD_eq_getElem?_getD, List.getD_eq_getElem?_getD, List.getElem?_take, if_pos hj]
      have := head_stop k 10 (l.take (k + 1)) h1 (by omega) (fun j hj => by rw [hg j (by omega)]; exact hb j hj) (by rw [hg k (by omega)]; exact hs)
      rw [this, List.take_take, Nat.min_self]
  · rw [if_neg e]
    refine if_neg fun h => e ?_
    rw [h, hlen]
theorem valL_lt : ∀ (l : List UInt8), valL l < 128 ^ l.length
  | [] => by simp [valL]
  | b :: l => by
    have := valL_lt l
    rw [valL, List.length_cons, Nat.pow_succ]
    have : b.toNat % 128 < 128 := Nat.mod_lt _ (by decide)
    omega
/-- Where bits lie beyond the highest of the 64: none. -/
theorem getL_over (l : List UInt8) (k : Nat) (h1 : k < 10) (h2 : k < l.length) (hb : BigTo l k) (hv : ¬ valL (l.take (k + 1)) < 18446744073709551616) : getL l = (0, 0) := by
  have hlen : (l.take (k + 1)).length = k + 1 := by rw [List.length_take]; omega
  have hlt := valL_lt (l.take (k + 1))
  rw [hlen] at hlt
  have hk : k = 9 := by
    have : k = 0 ∨ k = 1 ∨ k = 2 ∨ k = 3 ∨ k = 4 ∨ k = 5 ∨ k = 6 ∨ k = 7 ∨ k = 8 ∨ k = 9 := by omega
    rcases this with rfl | rfl | rfl | rfl | rfl | rfl | rfl | rfl | rfl | rfl <;> first | rfl | (exfalso; simp only [Nat.zero_add, Nat.reduceAdd, Nat.reducePow] at hlt hv; omega)
  by_cases hs : (l.getD k 0).toNat < 128
  · rw [getL_stop l k h1 h2 hb hs]
    refine if_neg fun h => hv ?_
    rw [← h]
    rw [valL_varL _ (Nat.mod_lt _ (by decide))]
    exact Nat.mod_lt _ (by decide)
  · exact getL_none l (k + 1) (.inl (by omega)) (by omega) (by omega) (hb.succ (by omega))
/-- The number, if it has that many bytes. -/
theorem vended_any (n k : Nat) (hn : n < 18446744073709551616) (w : World) :
    Calls Try.prog 63 #[.int .u64 n, .int .i64 k] w fun e w' => e = .returned (getVV (if (varL n).length = k then (n, k) else (0, 0))) ∧ w' = w := by
  by_cases h : (varL n).length = k
  · rw [if_pos h]
    have hk : ((varL n).length : Int) = (k : Int) := by omega
    clear h
    go_enter Try.func63, Try.ntmps63
    go_wp2_with (go_at_call 59; refine (vsize_pure n hn _).mono ?_; rintro e w1 ⟨rfl, rfl⟩; rw [hk])
    go_ret2
    exact ⟨rfl, rfl⟩
  · rw [if_neg h]
    generalize hL : (varL n).length = L at *
    have hL := Lib.hid hL
    have hk : ¬ (L : Int) = (k : Int) := by omega
    clear h
    go_enter Try.func63, Try.ntmps63
    go_wp2_with (go_at_call 59; refine (vsize_pure n hn _).mono ?_; rintro e w1 ⟨rfl, rfl⟩; rw [hL.out])
    go_ret2
    exact ⟨rfl, rfl⟩
theorem wpList_min {P : Program} {w : World} {ops : Array Oper} {rest : List Oper} {o : Oper} {a : Act} {Q : Exit → Act → World → Prop} (hgd : o.guard = none) (x y : Operand) (t : TypeId)
    (ho : o.op = .call { callee := .builtin .min, args := #[x, y], argTypes := #[t, t] }) (k : IntKind) (i j m : Int) (hx : a.eval x = .int k i) (hy : a.eval y = .int k j) (hm : (if j < i then j else i) = m)
    (h : wpList P ops Q rest (a.put o.dst (.int k m)) w) : wpList P ops Q (o :: rest) a w := by
  refine wpList_plain hgd fun _ hK => ?_
  have hrun := run_min_int2 (P := P) (w := w) #[t, t] o.type k k i j
  rw [hm] at hrun
  unfold Oper.wp execOp
  simp only [ho, resolve, invoke, builtin, Sem.run_bind, Sem.run_pure, Result.andThen_ok, List.map_toArray, List.map_cons, List.map_nil, hx, hy, hrun]
  exact hK _ _ h
theorem or_sum (a b k : Nat) (h : a < 2 ^ k) (h1 : a < 18446744073709551616) (h2 : b * 2 ^ k < 18446744073709551616) :
    bits .or .u64 (a : Int) ((b * 2 ^ k : Nat) : Int) = ((a + b * 2 ^ k : Nat) : Int) ∧ a + b * 2 ^ k < 18446744073709551616 := by
  have e : a + b * 2 ^ k = a ||| (b * 2 ^ k) := by
    have := Nat.shiftLeft_add_eq_or_of_lt h b
    rw [Nat.shiftLeft_eq] at this
    rw [Nat.add_comm, this, Nat.or_comm]
  have hlt : a ||| (b * 2 ^ k) < 18446744073709551616 := Nat.or_lt_two_pow (n := 64) h1 h2
  rw [e]
  refine ⟨?_, hlt⟩
  show IntKind.u64.wrap ((BitVec.ofInt 64 (a : Int) ||| BitVec.ofInt 64 ((b * 2 ^ k : Nat) : Int)).toNat : Int) = _
  rw [BitVec.ofInt_natCast, BitVec.ofInt_natCast, BitVec.toNat_or, BitVec.toNat_ofNat, BitVec.toNat_ofNat, Nat.mod_eq_of_lt h1, Nat.mod_eq_of_lt h2, IntKind.wrap_u64]
  omega
/-- What was shifted to the left comes back just if nothing was lost. -/
theorem shl_back (z P : Nat) (hP : 0 < P) : z * P % 18446744073709551616 / P = z ↔ z * P < 18446744073709551616 := by
  constructor
  · intro h
    have h1 : z * P % 18446744073709551616 / P * P ≤ z * P % 18446744073709551616 := Nat.div_mul_le_self _ _
    rw [h] at h1
    have := Nat.mod_lt (z * P) (show 0 < 18446744073709551616 by decide)
    omega
  · intro h
    rw [Nat.mod_eq_of_lt h, Nat.mul_div_cancel _ hP]
theorem or_128 : ∀ y : Nat, y < 256 → bits .or .u8 (y : Int) 128 = ((y % 128 + 128 : Nat) : Int) := by decide +kernel
theorem andnot_128 : ∀ y : Nat, y < 256 → bits .andNot .u8 (y : Int) 128 = ((y % 128 : Nat) : Int) := by decide +kernel
set_option maxRecDepth 20000 in
set_option maxHeartbeats 2000000 in
theorem vget_any (A : Option Addr) (n c : Nat) (l : List UInt8) (w : World) (hs : Sl w A c (byts l)) (hn : n = l.length) (hl : l.length ≤ 1000000) :
    Calls Try.prog 60 #[.slice A n c] w fun e w' => e = .returned (getVV (getL l)) ∧ Below w.heap.size w w' := by
  subst hn
  obtain ⟨m, hm⟩ : ∃ m, m = min l.length 10 := ⟨_, rfl⟩
  have hmin := Lib.hid (show (if (10 : Int) < (l.length : Int) then (10 : Int) else (l.length : Int)) = (m : Int) by split <;> omega)
  have hmle : m ≤ l.length ∧ m ≤ 10 := by omega
  have hroom := hs.room
  rw [length_byts] at hroom
  have hmc : (m : Int) ≤ (c : Int) := by omega
  have hM := Lib.hid hm
  have hl := Lib.hid hl
  clear hm hroom
  go_enter Try.func60, Try.ntmps60
  go_wp2_with (refine wpList_min rfl (.tmp 9) (.const (.int .i64 10)) 3 rfl .i64 (l.length : Int) 10 (m : Int) rfl rfl hmin.out ?_)
  go_loop [13, 2] (fun i x => ∃ k : Nat, k ≤ m ∧ i = .int .i64 k ∧ x = .int .u64 (valL (l.take k) : Nat) ∧ BigTo l k ∧ valL (l.take k) < 18446744073709551616) (fun i _ => m - (intOf i).toNat)
  case atStart => exact ⟨0, by omega, rfl, rfl, BigTo.zero l, by rw [List.take_zero, valL]; omega⟩
  case round =>
    obtain ⟨k, hk, rfl, rfl, hbig, hval⟩ := hrel
    by_cases hlt : k < m
    · have hkl : k < l.length := by omega
      have h10 : k < 10 := by omega
      obtain ⟨b, o, rfl, _, hc⟩ := hs.rd.get (i := k) (by rw [length_byts]; exact hkl)
      rw [get_byts _ _ hkl] at hc
      have HV := Lib.hid (valL_next l k hkl)
      have HE := Lib.hid (getL_ends l k h10 hkl hbig)
      have HO := Lib.hid (getL_over l k h10 hkl hbig)
      have HBS := Lib.hid (fun h => hbig.succ (i := k) h)
      have hix := index_bytes (some ⟨b, o, none⟩) b o m c k rfl hlt
      generalize hxd : l.getD k 0 = x at *
      clear hxd
      have hxl := x.toNat_lt
      obtain ⟨N, hN⟩ : ∃ N, N = valL (l.take k) := ⟨_, rfl⟩
      obtain ⟨N', hN'⟩ : ∃ N', N' = valL (l.take (k + 1)) := ⟨_, rfl⟩
      obtain ⟨y, hy⟩ : ∃ y, y = x.toNat := ⟨_, rfl⟩
      obtain ⟨z, hz⟩ : ∃ z, z = y % 128 := ⟨_, rfl⟩
      have hand : bits .andNot .u8 (y : Int) 128 = (z : Int) := by rw [hz]; exact andnot_128 y (by omega)
      have hcv : IntKind.u64.wrap (z : Int) = (z : Int) := by rw [IntKind.wrap_u64]; omega
      have h7 : IntKind.i64.wrap (7 * (k : Int)) = 7 * (k : Int) := by rw [IntKind.wrap_i64]; omega
      have h70 : (0 : Int) ≤ 7 * (k : Int) := by omega
      have hP : (128 : Nat) ^ k = 2 ^ (7 * k) := by rw [Nat.pow_mul]
      have hNP : N < 2 ^ (7 * k) := by
        have h := valL_lt (l.take k)
        rw [List.length_take, Nat.min_eq_left (by omega), ← hN, hP] at h
        exact h
      have hN64 : N < 18446744073709551616 := by rw [hN]; exact hval
      have hV : N' = N + z * 2 ^ (7 * k) := by rw [hN', HV.out, hN, hz, hy, hP]
      have hsum := or_sum N z (7 * k) hNP hN64
      obtain ⟨M, hM1⟩ : ∃ M, M = z * 2 ^ (7 * k) % 18446744073709551616 := ⟨_, rfl⟩
      obtain ⟨D, hD⟩ : ∃ D, D = M / 2 ^ (7 * k) := ⟨_, rfl⟩
      have hsh : IntKind.u64.wrap ((z : Int) * 2 ^ (7 * k)) = (M : Int) := by rw [IntKind.wrap_u64, hM1]; simp
      have hdv : (M : Int) / 2 ^ (7 * k) = (D : Int) := by rw [hD]; simp
      have hover := shl_back z (2 ^ (7 * k)) (Nat.pow_pos (by omega))
      rw [← hM1, ← hD] at hover
      have HS := Lib.hid hV
      have HM1 := Lib.hid hM1
      have hkm : (k : Int) < (m : Int) := by omega
      have HK := Lib.hid (show k < m ∧ k < 10 ∧ k < l.length from ⟨hlt, h10, hkl⟩)
      rw [← hN]
      rw [← hy] at hc
      have HY := Lib.hid hy
      have HN' := Lib.hid hN'
      have hkw : IntKind.i64.wrap ((k : Int) + 1) = (k : Int) + 1 := by rw [IntKind.wrap_i64]; omega
      clear hs hxl hbig hlt hkl h10 hk hval hN hN' hy hz hP hNP hN64 hM1 hD HV hV
      by_cases hDz : D = z
      · have hfit := hover.1 hDz
        obtain ⟨hor0, hlt64⟩ := hsum hfit
        rw [← HS.out] at hor0 hlt64
        have HM : M = z * 2 ^ (7 * k) := by rw [HM1.out, Nat.mod_eq_of_lt hfit]
        have heq : (D : Int) = (z : Int) := by omega
        have hor : bits .or .u64 (N : Int) (M : Int) = (N' : Int) := by rw [HM]; exact hor0
        have HL := Lib.hid hlt64
        clear hover hsum hDz hfit hlt64 HM HS HM1 HO hor0
        by_cases hsm : y < 128
        · have hsm' : (y : Int) < 128 := by omega
          have HG := Lib.hid (HE.out (by rw [← HY.out]; exact hsm) (by rw [← HN'.out]; exact HL.out))
          rw [← HN'.out] at HG
          have hend := Lib.hid (show ∀ w1, Calls Try.prog 63 #[.int .u64 N', .int .i64 ((k : Int) + 1)] w1 fun e w' => e = .returned (getVV (if (varL N').length = k + 1 then (N', k + 1) else (0, 0))) ∧ w' = w1 from fun w1 => vended_any N' (k + 1) HL.out w1)
          rw [← HG.out] at hend
          obtain ⟨G, hG⟩ : ∃ G, G = getL l := ⟨_, rfl⟩
          obtain ⟨g1, g2⟩ := G
          rw [← hG] at hend
          have HG2 := Lib.hid hG
          clear HBS HE hsm HG hG
          go_wp2_with (go_at_call 63; refine (hend.out _).mono ?_; rintro e w1 ⟨rfl, rfl⟩; unfold getVV)
          go_ret2
          exact ⟨by rw [← HG2.out]; rfl, Below.refl _ _⟩
        · have hsm' : ¬ (y : Int) < 128 := by omega
          have hsm2 : (128 : Int) ≤ (y : Int) := by omega
          have HB := Lib.hid (HBS.out (by rw [← HY.out]; omega))
          clear HE HBS hsm
          go_wp2_with fail
          go_round
          case rel =>
            have := HK.out
            exact ⟨k + 1, by omega, rfl, by rw [HN'.out], HB.out, by rw [← HN'.out]; exact HL.out⟩
          case measure => have := HK.out; simp [intOf]; omega
      · have hbad : ¬ N' < 18446744073709551616 := by
          have := HS.out
          have h2 : ¬ z * 2 ^ (7 * k) < 18446744073709551616 := fun h => hDz (hover.2 h)
          omega
        have HG := Lib.hid (HO.out (by rw [← HN'.out]; exact hbad))
        have hne : ¬ (D : Int) = (z : Int) := by omega
        clear hover hsum hDz hbad HE HBS HS HM1 HO
        go_wp2_with fail
        go_ret2
        exact ⟨by rw [HG.out]; rfl, Below.refl _ _⟩
    · have hk0 : k = m := by omega
      have HG := Lib.hid (getL_none l k (by have := hM.out; omega) (by omega) (by omega) hbig)
      have hkk : ¬ (k : Int) < (m : Int) := by omega
      generalize valL (l.take k) = N at *
      clear hs hbig hk0 hval hlt hk
      go_wp2
      go_ret2
      exact ⟨by rw [HG.out]; rfl, Below.refl _ _⟩
set_option maxHeartbeats 2000000 in
theorem vput_any (A : Option Addr) (n c : Nat) (l : List UInt8) (m : Nat) (hm : m < 18446744073709551616) (w : World) (hs : Sl w A c (byts l)) (hn : n = l.length) (hl : l.length ≤ 1000000) :
    Calls Try.prog 51 #[.slice A n c, .int .u64 m] w (GaveBytes (l ++ varL m) w) := by
  subst hn
  obtain ⟨i0, hi, hz0, hz1, hz2⟩ := info_parts infoByte
  have hlm := length_varL m
  obtain ⟨T, hT⟩ : ∃ T, T = l.length + (varL m).length := ⟨_, rfl⟩
  have hTb : T ≤ 1000010 := by omega
  have hsum : (l.length : Int) + ((varL m).length : Int) = (T : Int) := by omega
  have hlT : l.length ≤ T := by omega
  have hmk : i0.bytes * T ≤ 281474976710656 := by rw [hz2]; omega
  have hTm : T ≤ maxLen := by unfold maxLen; omega
  have HL := Lib.hid (show l.length = (byts l).length from (length_byts l).symm)
  have hsz := Lib.hid (fun w1 => vsize_pure m hm w1)
  have hm64 := Lib.hid hm
  have HTT := Lib.hid hT
  clear hm hT hlm
  go_enter Try.func51, Try.ntmps51
  go_wp2_with (first
    | (go_at_call 59; refine (hsz.out _).mono ?_; rintro e w1 ⟨rfl, rfl⟩)
    | (at_make; refine wpList_make_own _ rfl _ _ 31 rfl w1.heap.size 5 i0 _ 1 Try.underlying31 hi hz0 hz1 _ _ _ T rfl rfl rfl hmk hTm (Nat.le_refl _) ?_; intro w2 hown2 hg2; have hb2 : Below w1.heap.size w1 w2 := (Below.refl _ _).grown hg2 (Nat.le_refl _) (fun _ h => by cases h); have hs2 := hs.later (Nat.le_refl _) hb2; clear hg2)
    | (at_builtin; refine wpList_append_sl rfl (.tmp 12) (.tmp 13) 31 rfl w1.heap.size 5 i0 _ 1 Try.underlying31 hi hz0 hz1 hz2 rfl _ 0 [] rfl hown2 A l.length c (byts l) rfl HL.out hs2 (byts_one _) (by unfold maxLen; omega) (by omega) hb2.size ?_; intro v3 w3 hown3 hg3; have hb3 : Below w1.heap.size w1 w3 := hb2.grown hg3 hb2.size (fun k hk => (hown2.lt k hk).1); rw [Nat.zero_add, List.nil_append] at hown3; clear hg3 hown2 hb2 hs2 hs))
  go_loopw [1, 5] (fun x v wr => ∃ (q : Nat) (X : List UInt8), q < 18446744073709551616 ∧ x = .int .u64 q ∧ wr.ownsRow w1.heap.size 5 1 v X.length (byts X) ∧ Below w1.heap.size w1 wr ∧ l ++ varL m = X ++ varL q) (fun x _ _ => (intOf x).toNat)
  case atStart => exact ⟨m, l, hm64.out, rfl, hown3, hb3, rfl⟩
  case round =>
    clear hown3 hb3 hsum hlT hmk hTm
    obtain ⟨q, X, hq, rfl, hown, hb, hlist⟩ := hrel
    have hXl : X.length ≤ 1000010 := by
      have := congrArg List.length hlist
      have h2 := HTT.out
      rw [List.length_append, List.length_append] at this
      omega
    have HX := Lib.hid (show X.length = (byts X).length from (length_byts X).symm)
    have hm1 : X.length + 1 ≤ maxLen := by unfold maxLen; omega
    have hm2 : (X.length + 1) * 1 ≤ 140737488355328 := by omega
    have hbw := hb.alloc hb.size
    by_cases h0 : q < 128
    · have HLs := Lib.hid (show l ++ varL m = X ++ [UInt8.ofNat q] by rw [hlist, varL_small q h0])
      have hge : ¬ (128 : Int) ≤ (q : Int) := by omega
      have hcv : IntKind.u8.wrap (q : Int) = (q : Int) := by rw [IntKind.wrap_u8]; omega
      have HB := Lib.hid (show (#[Value.int .u8 (q : Int)] : Array Value) = (byts [UInt8.ofNat q]).toArray by
        show _ = #[Value.int .u8 ((UInt8.ofNat q).toNat : Int)]
        rw [toNat_ofNat8 q (by omega)])
      have hsl1 := sl_lit wr [UInt8.ofNat q] _ (0, 0) HB.out 1 rfl
      have hown1 := own_later hown ((Below.refl wr.heap.size wr).alloc (Nat.le_refl _) (.cells #[Value.int .u8 (q : Int)] 5)) (Nat.le_refl _)
      have hb1 := hbw (.cells #[Value.int .u8 (q : Int)] 5)
      clear hown hb hbw hXl h0 hq hlist
      go_wp2_with (at_builtin; refine wpList_append_sl rfl (.tmp 25) (.tmp 28) 31 rfl w1.heap.size 5 i0 _ 1 Try.underlying31 hi hz0 hz1 hz2 rfl _ X.length (byts X) rfl hown1 (some ⟨wr.heap.size, 0, none⟩) 1 1 (byts [UInt8.ofNat q]) rfl rfl hsl1 (byts_one _) hm1 hm2 hb1.size ?_; intro v4 w4 hown4 hg4; have hb4 := hb1.grown hg4 hb1.size (fun k hk => (hown1.lt k hk).1))
      go_ret
      rw [← byts_append, ← HLs.out] at hown4
      rw [show X.length + 1 = (l ++ varL m).length by rw [HLs.out, List.length_append]; rfl] at hown4
      exact ⟨_, rfl, hown4, hb4⟩
    · have hlt : (128 : Int) ≤ (q : Int) := by omega
      obtain ⟨q2, hq2⟩ : ∃ q2, q2 = q / 128 := ⟨_, rfl⟩
      obtain ⟨z, hz⟩ : ∃ z, z = q % 128 := ⟨_, rfl⟩
      obtain ⟨y, hy⟩ : ∃ y, y = q % 256 := ⟨_, rfl⟩
      have hquo : (q : Int) / 128 = (q2 : Int) := by rw [hq2]; omega
      have hcv : IntKind.u8.wrap (q : Int) = (y : Int) := by rw [IntKind.wrap_u8, hy]; omega
      have hor : bits .or .u8 (y : Int) 128 = (z : Int) + 128 := by
        rw [or_128 y (by omega), hz, hy]; omega
      have HLs := Lib.hid (show l ++ varL m = (X ++ [UInt8.ofNat (z + 128)]) ++ varL q2 by rw [hlist, varL_big q h0 hq, hz, hq2]; simp)
      have HB := Lib.hid (show (#[Value.int .u8 ((z : Int) + 128)] : Array Value) = (byts [UInt8.ofNat (z + 128)]).toArray by
        show _ = #[Value.int .u8 ((UInt8.ofNat (z + 128)).toNat : Int)]
        rw [toNat_ofNat8 (z + 128) (by omega)]; rfl)
      have hsl1 := sl_lit wr [UInt8.ofNat (z + 128)] _ (0, 0) HB.out 1 rfl
      have hown1 := own_later hown ((Below.refl wr.heap.size wr).alloc (Nat.le_refl _) (.cells #[Value.int .u8 ((z : Int) + 128)] 5)) (Nat.le_refl _)
      have hb1 := hbw (.cells #[Value.int .u8 ((z : Int) + 128)] 5)
      have hsm : Hid (q2 < 18446744073709551616 ∧ q2 < q) := Lib.hid (by omega)
      clear hown hb hbw hXl h0 hq hq2 hz hy hlist
      go_wp2_with (at_builtin; refine wpList_append_sl rfl (.tmp 19) (.tmp 23) 31 rfl w1.heap.size 5 i0 _ 1 Try.underlying31 hi hz0 hz1 hz2 rfl _ X.length (byts X) rfl hown1 (some ⟨wr.heap.size, 0, none⟩) 1 1 (byts [UInt8.ofNat (z + 128)]) rfl rfl hsl1 (byts_one _) hm1 hm2 hb1.size ?_; intro v4 w4 hown4 hg4; have hb4 := hb1.grown hg4 hb1.size (fun k hk => (hown1.lt k hk).1))
      go_roundw
      case rel =>
        rw [← byts_append] at hown4
        rw [show X.length + 1 = (X ++ [UInt8.ofNat (z + 128)]).length by rw [List.length_append]; rfl] at hown4
        exact ⟨q2, _, hsm.out.1, rfl, hown4, hb4, HLs.out⟩
      case measure => have := hsm.out.2; simp [intOf]; omega
end Go.Proofs.Ythiebbhooigogaa
