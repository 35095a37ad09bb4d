/- LAYER 16: package lex: fit, Names, Join. -/
import Derived.Test.YtbngnmhbnhpbeaaDoorXb
namespace Go.Proofs.YtbngnmhbnhpbeaaDoor
set_option maxRecDepth 100000
open Go Go.RowKit Go.Lib

/-- The name ahead of a place; none's are no bytes. -/
def aheadL (l : List (List UInt8)) : Nat → List UInt8
  | 0 => []
  | k + 1 => l.getD k []
theorem okAt_ahead (l : List (List UInt8)) (k : Nat) : okAt l k = (name16 (l.getD k []) && Op.bytesLess (aheadL l k) (l.getD k [])) := by
  cases k with
  | zero =>
    rw [okAt_zero l 0 rfl]
    cases h : name16 (l.getD 0 []) with
    | false => rfl
    | true =>
      have hne := (name16_44 _ h).1
      generalize l.getD 0 [] = s at *
      cases s with
      | nil => exact absurd rfl hne
      | cons c s => rfl
  | succ k => rw [okAt_pos l (k + 1) (by omega)]; rfl
theorem less_or (a : List UInt8) : ∀ b : List UInt8, (Op.bytesLess a b || a == b) = !Op.bytesLess b a := by
  induction a with
  | nil =>
    intro b
    cases b with
    | nil => rfl
    | cons c b => rfl
  | cons c a ih =>
    intro b
    cases b with
    | nil => rfl
    | cons d b =>
      show ((decide (c < d) || (c == d && Op.bytesLess a b)) || (c == d && a == b)) = !(decide (d < c) || (d == c && Op.bytesLess b a))
      have hlt : ∀ x y : UInt8, decide (x < y) = decide (x.toNat < y.toNat) := fun x y => rfl
      have heq : ∀ x y : UInt8, (x == y) = decide (x.toNat = y.toNat) := by
        intro x y
        rw [Bool.eq_iff_iff, beq_iff_eq, decide_eq_true_iff]
        exact UInt8.toNat_inj.symm
      rw [hlt, hlt, heq, heq]
      rcases Nat.lt_trichotomy c.toNat d.toNat with h | h | h
      · rw [decide_eq_true h, decide_eq_false (by omega : ¬ d.toNat < c.toNat), decide_eq_false (by omega : ¬ d.toNat = c.toNat)]; rfl
      · rw [decide_eq_false (by omega : ¬ c.toNat < d.toNat), decide_eq_false (by omega : ¬ d.toNat < c.toNat), decide_eq_true h, decide_eq_true h.symm]
        simpa using ih b
      · rw [decide_eq_false (by omega : ¬ c.toNat < d.toNat), decide_eq_true h, decide_eq_false (by omega : ¬ c.toNat = d.toNat)]; rfl
set_option maxHeartbeats 2000000 in
theorem xfit_any (l : List (List UInt8)) (hp : ∀ p ∈ l, p.length ≤ 100000) (hl : l.length ≤ 100000) (A : Option Addr) (c : Nat) (w : World) (hsl : Sl w A c (strsV l)) :
    Calls Tryd.prog 27 #[.slice A l.length c] w fun e w' => e = .returned (.bool (riseL l)) ∧ Below w.heap.size w w' := by
  obtain ⟨V, hV⟩ : ∃ V, V = riseL l := ⟨_, rfl⟩
  have HV := Lib.hid hV
  rw [← hV]
  clear hV
  by_cases h1 : l.length = 0
  · have HW := Lib.hid (show V = false by rw [HV.out]; unfold riseL; rw [decide_eq_false (by omega : ¬ 1 ≤ l.length)]; rfl)
    have a1 : ((l.length : Int) == 0) = true := by rw [beq_iff_eq]; omega
    clear HV h1
    go_enter Tryd.func27, Tryd.ntmps27
    go_wp2
    go_ret
    exact ⟨by rw [HW.out]; rfl, Below.refl _ _⟩
  have a1 : ((l.length : Int) == 0) = false := by rw [beq_eq_false_iff_ne]; omega
  by_cases h2 : 32 < l.length
  · have HW := Lib.hid (show V = false by rw [HV.out]; unfold riseL; rw [decide_eq_false (by omega : ¬ l.length ≤ 32), Bool.and_false]; rfl)
    have a2 : (32 : Int) < (l.length : Int) := by omega
    clear HV h1 h2
    go_enter Tryd.func27, Tryd.ntmps27
    go_wp2
    go_ret
    exact ⟨by rw [HW.out]; rfl, Below.refl _ _⟩
  have a2 : decide ((32 : Int) < (l.length : Int)) = false := decide_eq_false (by omega)
  have HT := Lib.hid (show (∀ i < l.length, okAt l i = true) → V = true from fun h => by rw [HV.out]; exact (riseL_at l).2 ⟨by omega, by omega, h⟩)
  have HFa := Lib.hid (show ∀ i, i < l.length → okAt l i = false → V = false from fun i hi h => by rw [HV.out]; exact riseL_bad l i hi h)
  have hnm := Lib.hid (fun s (h : s ∈ l) w' => xname_any s (hp s h) w')
  clear HV h1 h2 hp
  go_enter Tryd.func27, Tryd.ntmps27
  go_wp2
  clear a1 a2
  go_loopw [3, 16] (fun v i wr => ∃ k : Nat, k ≤ l.length ∧ v = .string (bstr (aheadL l k)) ∧ i = .int .i64 k ∧ (∀ j < k, okAt l j = true) ∧ Below w.heap.size w wr) (fun _ i _ => l.length - (intOf i).toNat)
  case atStart => exact ⟨0, by omega, rfl, rfl, fun j hj => by omega, Below.refl _ _⟩
  case round =>
    obtain ⟨k, hk, rfl, rfl, hf, hbr⟩ := hrel
    by_cases hlt : k < l.length
    · have hlt' : (k : Int) < (l.length : Int) := by omega
      obtain ⟨b, o, rfl, -, -⟩ := hsl.rd.get (i := k) (by rw [length_strsV]; exact hlt)
      have hix := index_strs (some ⟨b, o, none⟩) b o l.length c k rfl hlt
      have hce := strs_cell (hsl.later (Nat.le_refl _) hbr) k hlt
      have HF := Lib.hid hf
      have HC := Lib.hid (hnm.out (l.getD k []) (by rw [List.getD_eq_getElem?_getD, List.getElem?_eq_getElem hlt]; exact List.getElem_mem hlt))
      have HA := Lib.hid (okAt_ahead l k)
      have HB := Lib.hid (HFa.out k hlt)
      have hnx : aheadL l (k + 1) = l.getD k [] := rfl
      have HX := Lib.hid hnx
      have HL := Lib.hid (show (Op.bytesLess (bstr (l.getD k [])).toList (bstr (aheadL l k)).toList || (bstr (l.getD k [])).toList == (bstr (aheadL l k)).toList) = !Op.bytesLess (aheadL l k) (l.getD k []) by rw [bstr_toList, bstr_toList]; exact less_or _ _)
      clear hf hnx
      generalize l.getD k [] = s at *
      generalize aheadL l k = s1 at *
      cases hsg : name16 s with
      | true =>
        cases hle : Op.bytesLess s1 s with
        | true =>
          have HN := Lib.hid (okAt_next l k HF.out (by rw [HA.out, hsg, hle]; rfl))
          have hle2 := HL.out.trans (congrArg (!·) hle)
          obtain ⟨p1, p2⟩ := Bool.or_eq_false_iff.1 hle2
          rw [hsg] at HC
          clear HA hsg HB HL hle hle2
          go_wp2_with (go_at_call 14; refine (HC.out _).mono ?_; rintro e w' ⟨rfl, hq⟩; have hq := hbr.trans (hq.mono hbr.size))
          go_roundw
          case rel => exact ⟨k + 1, by omega, by rw [HX.out], by go_num, HN.out, hq⟩
          case measure => simp [intOf]; omega
        | false =>
          have HN := Lib.hid (HB.out (by rw [HA.out, hsg, hle]; rfl))
          have hle2 := HL.out.trans (congrArg (!·) hle)
          rw [hsg] at HC
          clear HA hsg HB HL hle
          rcases hp1 : Op.bytesLess (bstr s).toList (bstr s1).toList with _ | _
          · rw [hp1, Bool.false_or] at hle2
            go_wp2_with (go_at_call 14; refine (HC.out _).mono ?_; rintro e w' ⟨rfl, hq⟩; have hq := hbr.trans (hq.mono hbr.size))
            go_ret
            exact ⟨by rw [HN.out]; rfl, hq⟩
          · clear hle2
            go_wp2_with (go_at_call 14; refine (HC.out _).mono ?_; rintro e w' ⟨rfl, hq⟩; have hq := hbr.trans (hq.mono hbr.size))
            go_ret
            exact ⟨by rw [HN.out]; rfl, hq⟩
      | false =>
        have HN := Lib.hid (HB.out (by rw [HA.out, hsg]; rfl))
        rw [hsg] at HC
        clear HA hsg HB HL
        go_wp2_with (go_at_call 14; refine (HC.out _).mono ?_; rintro e w' ⟨rfl, hq⟩; have hq := hbr.trans (hq.mono hbr.size))
        go_ret
        exact ⟨by rw [HN.out]; rfl, hq⟩
    · obtain rfl : k = l.length := by omega
      have HN := Lib.hid (HT.out hf)
      clear hf
      go_wp2
      go_ret
      exact ⟨by rw [HN.out]; rfl, hbr⟩
/-! The library's Join. -/
theorem join_glue16 (ss : List (List UInt8)) (x : UInt8) : Lib.join ss [x] = glueL x ss := by
  induction ss with
  | nil => rfl
  | cons s ss ih =>
    cases ss with
    | nil => rw [Lib.join_one]; rfl
    | cons t ss =>
      rw [glueL_cons x s (t :: ss) (by simp), ← ih]
      rw [Lib.join_cons, Lib.join_cons]
      simp [Lib.joinTail]
theorem xjoined_any (ss : List (List UInt8)) (x : UInt8) (A : Option Addr) (c : Nat) (w : World) (hs : Sl w A c (strsV ss)) (hn : ss.length ≤ 100000) (hl : sumS ss ≤ 100000) :
    Calls Tryd.prog 30 #[.slice A ss.length c, .string (bstr [x])] w fun e w' => e = .returned (.string (bstr (glueL x ss))) ∧ Below w.heap.size w w' := by
  by_cases h0 : ss = []
  · subst h0
    refine (Tryd.strings_Join_none A c (bstr [x]) w).mono ?_
    rintro e w' ⟨rfl, rfl⟩
    exact ⟨rfl, Below.refl _ _⟩
  · have hp : 0 < ss.length := List.length_pos_iff.2 h0
    obtain ⟨bk, o, rfl, hbk, -⟩ := hs.rd.get (i := 0) (by rw [length_strsV]; exact hp)
    have hj := Tryd.strings_Join bk o c (ss.map bstr) (bstr [x]) w (fun j y hy => by
      obtain ⟨b', o', hA, _, hc⟩ := hs.rd.get (i := j) (by rw [length_strsV]; have := (List.getElem?_eq_some_iff.1 hy).1; simpa using this)
      cases hA
      rw [hc]
      unfold strsV
      rw [List.getElem?_map] at hy ⊢
      cases hq : ss[j]? with
      | none => rw [hq] at hy; cases hy
      | some q => rw [hq] at hy; cases hy; rfl) hbk (by rw [List.length_map]; omega) (by rw [List.length_map]; have := hs.room; rw [length_strsV] at this; omega) (by
        rw [show (ss.map bstr).map (·.data.toList) = ss by rw [List.map_map]; exact List.map_id _, show (bstr [x]).data.toList = [x] from rfl, join_glue16]
        have := glue_len x ss
        omega)
    rw [show (ss.map bstr).map (·.data.toList) = ss by rw [List.map_map]; exact List.map_id _, show (bstr [x]).data.toList = [x] from rfl, join_glue16, List.length_map] at hj
    exact hj
/-- What SplitN answers where 33 pieces at most are asked for. -/
theorem xsplitN_any (s : List UInt8) (hs : s.length ≤ 100000) (w : World) (hE : EnvX w) : ∃ ps : List (List UInt8), namesC s = (if riseL ps = true then some ps else none) ∧ (∀ p ∈ ps, p.length ≤ s.length) ∧ ps.length ≤ 33 ∧
    Calls Tryd.prog 26 #[.string (bstr s), .string ⟨#[44]⟩, .int .i64 33] w fun e w' => ∃ A c, e = .returned (.slice A ps.length c) ∧ Sl w' A c (strsV ps) ∧ Below w.heap.size w w' := by
  obtain ⟨m, hm⟩ := hE
  have h := Tryd.strings_SplitN (bstr s) (bstr [44]) 33 m w (by rw [size_bstr]; omega) hm (Nat.le_refl 1) (by omega) (by omega)
  rw [size_bstr] at h
  obtain ⟨ps, e1, e2, e3, e4⟩ := splitN_names s
  rw [e1, List.length_map] at h
  refine ⟨ps, e2, e3, by omega, h.mono ?_⟩
  rintro e w' ⟨rfl, rfl⟩
  have e5 : Lib.cellsOf (ps.map bstr) (min 33 (s.length + 1)) = (strsV ps ++ List.replicate (min 33 (s.length + 1) - ps.length) (Value.string ByteArray.empty)).toArray := by
    unfold Lib.cellsOf strsV
    rw [List.map_map, List.length_map]; rfl
  rw [e5]
  exact ⟨_, _, rfl, (sl_made (t := 9) _ rfl (min 33 (s.length + 1)) (by rw [List.length_append, length_strsV, List.length_replicate]; omega)).pre, (Below.refl _ w).alloc (Nat.le_refl _) _⟩
set_option maxHeartbeats 2000000 in
theorem xnames_any (s : List UInt8) (hs : s.length ≤ 2100) (w : World) (hE : EnvX w) : Calls Tryd.prog 11 #[.string (bstr s)] w (GaveRow (namesC s) w) := by
  have hz := size_bstr s
  obtain ⟨ps, hv, hp, hlen, hsp⟩ := xsplitN_any s (by omega) w hE
  have hsp := Lib.hid hsp
  have hri := Lib.hid (fun A c w' => xfit_any ps (fun p hq => by have := hp p hq; omega) (by omega) A c w')
  have HV := Lib.hid hv
  generalize namesC s = V at *
  clear hE hs hlen hv hp
  cases hr : riseL ps with
  | true =>
    have HW := Lib.hid (HV.out.trans (if_pos hr))
    rw [hr] at hri
    clear HV hr
    go_enter Tryd.func11, Tryd.ntmps11
    go_wp2_with (first
      | (go_at_call 26; refine hsp.out.mono ?_; rintro e w1 ⟨A, c, rfl, hsl, hb1⟩)
      | (go_at_call 27; refine (hri.out A c w1 hsl).mono ?_; rintro e w' ⟨rfl, hq⟩; have hsl := hsl.later (Nat.le_refl _) hq; have hb2 := hb1.trans (hq.mono hb1.size)))
    go_ret2
    exact ⟨A, c, by rw [HW.out]; rfl, by rw [HW.out]; exact hsl, hb2⟩
  | false =>
    have HW := Lib.hid (HV.out.trans (if_neg (by rw [hr]; decide)))
    rw [hr] at hri
    clear HV hr
    go_enter Tryd.func11, Tryd.ntmps11
    go_wp2_with (first
      | (go_at_call 26; refine hsp.out.mono ?_; rintro e w1 ⟨A, c, rfl, hsl, hb1⟩)
      | (go_at_call 27; refine (hri.out A c w1 hsl).mono ?_; rintro e w' ⟨rfl, hq⟩; have hb2 := hb1.trans (hq.mono hb1.size)))
    go_ret2
    exact ⟨none, 0, by rw [HW.out]; rfl, by rw [HW.out]; exact sl_none16 _, hb2⟩
set_option maxHeartbeats 2000000 in
theorem xjoin_any (l : List (List UInt8)) (hl : sumS l ≤ 2100) (A : Option Addr) (c : Nat) (w : World) (hsl : Sl w A c (strsV l)) (_ : EnvX w) :
    Calls Tryd.prog 16 #[.slice A l.length c] w fun e w' => e = .returned (.string (bstr (joinL16 l))) ∧ Below w.heap.size w w' := by
  have hlen := sumS_len l
  have hri := Lib.hid (xfit_any l (fun p hp => by have := sumS_mem l p hp; omega) (by omega) A c w hsl)
  have hjo := Lib.hid (fun w' h => xjoined_any l 44 A c w' h (by omega) (by omega))
  have HV := Lib.hid (show joinL16 l = if riseL l = true then glueL 44 l else [] from rfl)
  generalize joinL16 l = V at *
  cases hr : riseL l with
  | true =>
    have HW := Lib.hid (HV.out.trans (if_pos hr))
    rw [hr] at hri
    clear HV hr hl hlen
    generalize l.length = n at *
    go_enter Tryd.func16, Tryd.ntmps16
    go_wp2_with (first
      | (go_at_call 27; refine hri.out.mono ?_; rintro e w' ⟨rfl, hq⟩; have hsl := hsl.later (Nat.le_refl _) hq)
      | (go_at_call 30; refine (hjo.out _ hsl).mono ?_; rintro e w2 ⟨rfl, hq2⟩; have hq := hq.trans (hq2.mono hq.size)))
    go_ret
    exact ⟨by rw [HW.out]; rfl, hq⟩
  | false =>
    have HW := Lib.hid (HV.out.trans (if_neg (by rw [hr]; decide)))
    rw [hr] at hri
    clear HV hr hl hlen
    generalize l.length = n at *
    go_enter Tryd.func16, Tryd.ntmps16
    go_wp2_with (go_at_call 27; refine hri.out.mono ?_; rintro e w' ⟨rfl, hq⟩)
    go_ret
    exact ⟨by rw [HW.out]; rfl, hq⟩
end Go.Proofs.YtbngnmhbnhpbeaaDoor
