/- Texts of this claim, one behind the other. -/
import Derived.Test.YtcbilopdeiapjaaDoorRaaf
import Derived.Test.YtcbilopdeiapjaaDoorRaai
import Derived.Test.YtcbilopdeiapjaaDoorRaah
import Derived.Test.YtcbilopdeiapjaaDoorRaab
import Derived.Deep.OwnRows
/- LAYER 4: package hmac's New, Write, Sum. -/
namespace Go.Proofs.YtcbilopdeiapjaaDoor
set_option maxRecDepth 100000
open Go Go.RowKit

/-- Block g is a mac by the key k to which l was written: two digests beside each other. -/
structure Macd (w : World) (g gi go : Nat) (k l : List UInt8) : Prop where
  row : Row w g 103 [.pointer (some ⟨gi, 0, none⟩), .pointer (some ⟨go, 0, none⟩)]
  din : Dgt w gi (xorL 54 (keyL k) ++ l)
  dout : Dgt w go (xorL 92 (keyL k))
  gi_lt : gi < g
  go_lt : go < g
  ne : gi ≠ go
theorem Macd.lt {w : World} {g gi go : Nat} {k l : List UInt8} (h : Macd w g gi go k l) : g < w.heap.size := h.row.lt
/-- The call gave a mac of its own by the key k to which nothing was written. -/
def GaveMac (k : List UInt8) (w : World) (e : Ending) (w' : World) : Prop :=
  ∃ g gi go, e = .returned (.pointer (some ⟨g, 0, none⟩)) ∧ w.heap.size ≤ gi ∧ w.heap.size ≤ go ∧ Macd w' g gi go k [] ∧ Below w.heap.size w w'
set_option maxRecDepth 100000 in
set_option maxHeartbeats 1000000 in
theorem mnew_any (A : Option Addr) (n c : Nat) (k : List UInt8) (w : World) (hT : Tabs w) (hs : Sl w A c (byts k)) (hn : n = k.length) (hm : k.length ≤ 2305843009213693952) :
    Calls Tryd.prog 53 #[.slice A n c] w (GaveMac k w) := by
  have hKl := length_keyL k
  obtain ⟨V, hVq⟩ : ∃ V, V = byts (keyL k) := ⟨_, rfl⟩
  have hVl : V.length = 64 := by rw [hVq, length_byts, hKl]
  have hone := Lib.hid (all_one (show ∀ v ∈ V, v.oneCell' = true by rw [hVq]; exact byts_one _))
  have hsz := Lib.hid (show (Tryd.prog.info? 98).map (·.size) = some V.toArray.size by rw [size_blk, List.size_toArray, hVl])
  have hszV := Lib.hid (show (Tryd.prog.info? 98).map (·.size) = some V.length by rw [size_blk, hVl])
  have h64 := Lib.hid (show 64 = V.toArray.size by rw [List.size_toArray, hVl])
  have hw := Lib.hid (show Calls Tryd.prog 66 #[.slice A n c] w fun e w' => e = .returned (.agg V.toArray) ∧ Below w.heap.size w w' by rw [hVq]; exact whole_any A n c k w hT hs hn hm)
  have hb54 := Lib.hid (show ∀ w, Tabs w → Calls Tryd.prog 67 #[.agg V.toArray, .int .u8 54] w (GaveDig (xorL 54 (keyL k)) w) by rw [hVq]; exact fun w h => begun_any (keyL k) hKl 54 w h)
  have hb92 := Lib.hid (show ∀ w, Tabs w → Calls Tryd.prog 67 #[.agg V.toArray, .int .u8 92] w (GaveDig (xorL 92 (keyL k)) w) by rw [hVq]; exact fun w h => begun_any (keyL k) hKl 92 w h)
  clear hVq hVl hKl hs hn hm
  go_enter Tryd.func53, Tryd.ntmps53
  go_wp2_with (first
    | (go_at_call 66; refine hw.out.mono ?_; rintro e w1 ⟨rfl, hb1⟩)
    | (with_reducible refine wpList_store_row rfl 98 (.tmp 3) (.tmp 5) rfl w1.heap.size V.toArray rfl rfl 98 _ (heap_alloc_new w1 _) hsz.out (Eq.trans (by kernel_rfl) h64.out) hone.out ?_; refine Hid.out ?_))
  refine Lib.hid ?_
  generalize hw4 : World.setRow _ _ _ = w4
  obtain ⟨r4, hb4⟩ := row_new_set (xs := V) hw4
  have hbB := hb1.trans (hb4.mono hb1.size)
  have hT4 := hT.later hbB (Nat.le_refl _)
  clear hw4 hb4 hb1
  go_wp2_with fail
  refine wp_region_noPanic ?_
  refine wp_region_held_drew (S := fun w' => Below w4.heap.size w4 w') (by kernel_rfl) ((Below.refl _ _).drew) (fun hHeld => ?_)
  have hAll := hHeld
  refine rt 0 6 hHeld ?_ (hy := by intro w hS; exact run_load_op 98 (.tmp 3) rfl w1.heap.size 0 rfl V (.array 64 5) (row_range (r4.later hS r4.lt)) Tryd.underlying98 rfl hszV.out)
  refine rt 2 8 hHeld ?_ (hy := by intro w hS; exact run_load_op 98 (.tmp 3) rfl w1.heap.size 0 rfl V (.array 64 5) (row_range (r4.later hS r4.lt)) Tryd.underlying98 rfl hszV.out)
  refine rc1 1 fun K hK => ?_
  go_simp
  refine (hb54.out _ (hT4.later hHeld (Nat.le_refl _))).mono ?_; rintro e w5 ⟨gi, rfl, hgi, hd5, hb5⟩
  try go_wp2_with fail
  refine hK.out _ _ (below_step hHeld hb5) (fun _ => ?_)
  clear hK K
  try (rw [put_some]; dsimp only [List.set])
  have hAll := below_step hAll hb5
  refine wpAnyH_narrow (S' := fun w' => Below w5.heap.size w5 w') (fun _ h => below_step (below_step hHeld hb5) h) _ _ _ _ ?_
  clear hHeld
  have hHeld : Below w5.heap.size w5 w5 := Below.refl _ _
  refine rc1 3 fun K hK => ?_
  go_simp
  refine (hb92.out _ (hT4.later hAll (Nat.le_refl _))).mono ?_; rintro e w6 ⟨go, rfl, hgo, hd6, hb6⟩
  try go_wp2_with fail
  refine hK.out _ _ (below_step hHeld hb6) (fun _ => ?_)
  clear hK K
  try (rw [put_some]; dsimp only [List.set])
  have hAll := below_step hAll hb6
  refine wpAnyH_narrow (S' := fun w' => Below w6.heap.size w6 w') (fun _ h => below_step (below_step hHeld hb6) h) _ _ _ _ ?_
  clear hHeld
  have hHeld : Below w6.heap.size w6 w6 := Below.refl _ _
  refine rt 4 10 hHeld ?_
  refine rc1 5 fun K hK => ?_
  refine step_alloc (some 11) rfl (by rfl) (.pointer (some ⟨w6.heap.size, 0, none⟩)) (.cells #[.pointer (some ⟨gi, 0, none⟩), .pointer (some ⟨go, 0, none⟩)] 103) (by go_simp) ?_; intro w7 hw7 hb7
  refine hK.out _ _ (below_step hHeld hb7) (fun _ => ?_)
  clear hK K
  try (rw [put_some]; dsimp only [List.set])
  have hAll := below_step hAll hb7
  refine wpAnyH_narrow (S' := fun w' => Below w7.heap.size w7 w') (fun _ h => below_step (below_step hHeld hb7) h) _ _ _ _ ?_
  clear hHeld
  have hHeld : Below w7.heap.size w7 w7 := Below.refl _ _
  refine rt 6 2 hHeld ?_
  refine wpAnyH_done (by kernel_rfl) ?_ _
  refine NoPanic.normal ?_
  subst hw7
  have r7 := Row.new w6 103 [.pointer (some ⟨gi, 0, none⟩), .pointer (some ⟨go, 0, none⟩)]
  have hbC := hbB.trans (hAll.mono hbB.size)
  go_wp2
  go_ret
  have q1 := hd5.lt
  have q2 := hd6.lt
  have q3 := hb6.size
  have q4 := hbB.size
  have q5 := hb5.size
  have q6 : w4.drew.heap.size = w4.heap.size := rfl
  exact ⟨w6.heap.size, gi, go, rfl, by omega, by omega, ⟨r7, by rw [List.append_nil]; exact (hd5.later hb6 hd5.lt).later hb7 (by omega), hd6.later hb7 hd6.lt, by omega, by omega, by omega⟩, hbC⟩
theorem mac_cells {w : World} {g gi go : Nat} {k l : List UInt8} (h : Macd w g gi go k l) : w.cell? ⟨g, 0, none⟩ = some (.pointer (some ⟨gi, 0, none⟩)) ∧ w.cell? ⟨g, 1, none⟩ = some (.pointer (some ⟨go, 0, none⟩)) :=
  ⟨(h.row.cell 0).trans rfl, (h.row.cell 1).trans rfl⟩
theorem mwrite_any (g gi go n : Nat) (k l b : List UInt8) (A : Option Addr) (c : Nat) (w : World) (hT : Cube w) (hd : Macd w g gi go k l) (hs : Sl w A c (byts b)) (hA : 0 < b.length → ∀ a, A = some a → a.block ≠ gi) (hn : n = b.length) (hm : 64 + l.length + b.length ≤ 4611686018427387904) :
    Calls Tryd.prog 54 #[.pointer (some ⟨g, 0, none⟩), .slice A n c] w fun e w' => e = .returned (.tuple #[]) ∧ Macd w' g gi go k (l ++ b) ∧ w.grownBy w' (some gi) := by
  have hw := Lib.hid (show Calls Tryd.prog 68 #[.pointer (some ⟨gi, 0, none⟩), .slice A n c] w fun e w' => e = .returned (.tuple #[]) ∧ Dgt w' gi ((xorL 54 (keyL k) ++ l) ++ b) ∧ w.grownBy w' (some gi) from
    write_at gi n _ b A c w hT hd.din hs hA hn (by rw [List.length_append, length_xorL, length_keyL]; exact hm))
  obtain ⟨c0, c1⟩ := mac_cells hd
  clear c1 hs hA hn hm hT
  go_enter Tryd.func54, Tryd.ntmps54
  go_wp2_with (go_at_call 68; refine hw.out.mono ?_; rintro e w3 ⟨rfl, hd3, hg3⟩)
  go_end0
  have q1 := hd.gi_lt
  exact ⟨rfl, ⟨hd.row.grown hg3 (by omega), by rw [← List.append_assoc]; exact hd3, hd.dout.grown hg3 (Ne.symm hd.ne), hd.gi_lt, hd.go_lt, hd.ne⟩, hg3⟩
set_option maxRecDepth 100000 in
set_option maxHeartbeats 1000000 in
theorem msum_any (g gi go : Nat) (k l : List UInt8) (w : World) (hT : Cube w) (hd : Macd w g gi go k l) (hm : 64 + l.length ≤ 2305843009213693952) :
    Calls Tryd.prog 55 #[.pointer (some ⟨g, 0, none⟩)] w fun e w' => e = .returned (.agg (byts (macL k l)).toArray) ∧ Below w.heap.size w w' := by
  obtain ⟨KI, hKI⟩ : ∃ KI, KI = xorL 54 (keyL k) ++ l := ⟨_, rfl⟩
  obtain ⟨KO, hKO⟩ : ∃ KO, KO = xorL 92 (keyL k) := ⟨_, rfl⟩
  have hKIl : KI.length ≤ 2305843009213693952 := by rw [hKI, List.length_append, length_xorL, length_keyL]; exact hm
  have hKOl : KO.length = 64 := by rw [hKO, length_xorL, length_keyL]
  have hdi := hd.din
  have hdo := hd.dout
  rw [← hKI] at hdi
  rw [← hKO] at hdo
  obtain ⟨c0, c1⟩ := mac_cells hd
  have hgl := hd.lt
  have hil := hdi.lt
  have hol := hdo.lt
  obtain ⟨X, hX⟩ : ∃ X, X = byts (shaL KI) := ⟨_, rfl⟩
  have hXl : X.length = 32 := by rw [hX]; exact store_tag
  have honeX := Lib.hid (all_one (show ∀ v ∈ X, v.oneCell' = true by rw [hX]; exact byts_one _))
  have hszX := Lib.hid (show (Tryd.prog.info? 25).map (·.size) = some X.toArray.size by rw [size_tag, List.size_toArray, hXl])
  have h32 := Lib.hid (show 32 = X.toArray.size by rw [List.size_toArray, hXl])
  obtain ⟨V, hV⟩ : ∃ V, V = byts (macL k l) := ⟨_, rfl⟩
  have hVl : V.length = 32 := by rw [hV]; exact store_tag
  have honeV := Lib.hid (all_one (show ∀ v ∈ V, v.oneCell' = true by rw [hV]; exact byts_one _))
  have hszV := Lib.hid (show (Tryd.prog.info? 25).map (·.size) = some V.toArray.size by rw [size_tag, List.size_toArray, hVl])
  have hszo := Lib.hid (show (List.replicate 32 (Value.int .u8 0)).toArray.size = V.toArray.size by rw [List.size_toArray, List.size_toArray, List.length_replicate, hVl])
  have hsum1 := Lib.hid (show ∀ w, Cube w → Dgt w gi KI → Calls Tryd.prog 69 #[.pointer (some ⟨gi, 0, none⟩)] w fun e w' => e = .returned (.agg X.toArray) ∧ Below w.heap.size w w' by rw [hX]; exact fun w hC hd => sum_any gi KI w hC hd hKIl)
  have hsum2 := Lib.hid (show ∀ g w, Cube w → Dgt w g (KO ++ shaL KI) → Calls Tryd.prog 69 #[.pointer (some ⟨g, 0, none⟩)] w fun e w' => e = .returned (.agg V.toArray) ∧ Below w.heap.size w w' by
    intro g w hC hd
    have := sum_any g (KO ++ shaL KI) w hC hd (by rw [List.length_append, hKOl, length_shaL]; decide)
    rw [hV]; unfold macL; rw [← hKI, ← hKO]; exact this)
  have HX := Lib.hid hX
  have HV := Lib.hid hV
  have HKO := Lib.hid hKOl
  clear hX hXl hV hVl hKI hKO hKIl hKOl hm hd
  have tok1 : True := trivial
  have tok2 : True := trivial
  go_enter Tryd.func55, Tryd.ntmps55
  have hb0 := (Below.refl w.heap.size w).alloc (Nat.le_refl _) (.cells (List.replicate 32 (Value.int .u8 0)).toArray 25)
  go_wp2_with (first
    | (go_at_call 69; have _t := tok1; refine (hsum1.out _ (hT.later hb0 (Nat.le_refl _)) (hdi.later hb0 hil)).mono ?_; rintro e w1 ⟨rfl, hb1⟩; have r0 := (Row.new w 25 (List.replicate 32 (.int .u8 0))).later hb1 (Row.new w 25 (List.replicate 32 (.int .u8 0))).lt; have hbA := hb0.trans (hb1.mono hb0.size); clear tok1 hb1)
    | (with_reducible refine wpList_store_row rfl 25 (.tmp 3) (.tmp 9) rfl w1.heap.size X.toArray rfl rfl 25 _ (heap_alloc_new w1 _) hszX.out (Eq.trans (by kernel_rfl) h32.out) honeX.out ?_; refine Hid.out ?_))
  refine Lib.hid ?_
  generalize hw4 : World.setRow _ _ _ = w4
  obtain ⟨r4, hb4⟩ := row_new_set (xs := X) hw4
  rw [HX.out] at r4
  have r0 := r0.later hb4 r0.lt
  have hbB := hbA.trans (hb4.mono hbA.size)
  have c1' : w4.cell? ⟨g, 1, none⟩ = some (.pointer (some ⟨go, 0, none⟩)) := by rw [hbB.cell (p := ⟨g, 1, none⟩) hgl]; exact c1
  have hne : w.heap.size < w4.heap.size := r0.lt
  have hrl := r4.lt
  clear hw4 hb4 hbA hb0 c0 c1
  go_wp2_with (first
    | (go_at_call 70; refine (clone_any go KO _ (hdo.later hbB hol)).mono ?_; rintro e w5 ⟨g5, rfl, hg5, hd5, hb5⟩; have r4 := r4.later hb5 r4.lt; have r0 := r0.later hb5 r0.lt; have hbC := hbB.trans (hb5.mono hbB.size))
    | (go_at_call 68; refine (write_at g5 32 KO (shaL KI) (some ⟨w1.heap.size, 0, none⟩) 32 _ (hT.later hbC (Nat.le_refl _)) hd5 ⟨Rd.row (ys := []) (by rw [List.append_nil]; exact r4), by rw [store_tag]; exact Nat.le_refl _, fun h => by cases h⟩ (fun _ a ha => by cases ha; show w1.heap.size ≠ g5; omega) rfl (by rw [HKO.out, length_shaL]; decide)).mono ?_; rintro e w6 ⟨rfl, hd6, hg6⟩; have hbD := hbC.grown hg6 hbC.size (fun k h => by cases h; omega); have r0 := r0.grown hg6 (by omega))
    | (go_at_call 69; have _t := tok2; refine (hsum2.out g5 _ (hT.later hbD (Nat.le_refl _)) hd6).mono ?_; rintro e w7 ⟨rfl, hb7⟩; have R0 := Lib.hid (show w7.heap[w.heap.size]? = some (.cells (List.replicate 32 (Value.int .u8 0)).toArray 25 (0, 0)) from r0.later hb7 r0.lt); clear tok2)
    | ((with_reducible refine wpList_store_row rfl 25 (.tmp 2) (.tmp 19) rfl w.heap.size V.toArray rfl rfl 25 _ R0.out hszV.out hszo.out honeV.out ?_); have HG := Lib.hid (setRow_heap w7 w.heap.size _ V.toArray 25 (0, 0) R0.out))
    | (with_reducible refine bodyPost_ret (results_cell_row rfl _ _ w.heap.size 25 V.toArray (0, 0) (.array 32 5) rfl HG.out Tryd.underlying25 rfl hszV.out) rfl ?_))
  exact ⟨by rw [HV.out], below_setRow (hbD.trans (hb7.mono hbD.size)) (Nat.le_refl _) _⟩
end Go.Proofs.YtcbilopdeiapjaaDoor

/- LAYER 4: package hmac's Of. -/
namespace Go.Proofs.YtcbilopdeiapjaaDoor
set_option maxRecDepth 100000
open Go Go.RowKit

set_option maxRecDepth 100000 in
set_option maxHeartbeats 1000000 in
theorem mof_any (A : Option Addr) (n c : Nat) (K : List UInt8) (B : Option Addr) (m d : Nat) (ps : List Part) (w : World) (hT : Tabs w) (hs : Sl w A c (byts K)) (hn : n = K.length) (hp : Parts w B d ps) (hmn : m = ps.length)
    (hK : K.length ≤ 2305843009213693952) (hm : 64 + (flat ps).length ≤ 2305843009213693952) (hpl : ps.length ≤ 9223372036854775807) :
    Calls Tryd.prog 39 #[.slice A n c, .slice B m d] w fun e w' => e = .returned (.agg (byts (macL K (flat ps))).toArray) ∧ Below w.heap.size w w' := by
  subst hmn
  have hb0 := (Below.refl w.heap.size w).alloc (Nat.le_refl _) (.cells (List.replicate 32 (Value.int .u8 0)).toArray 25)
  have hnew := Lib.hid (mnew_any A n c K _ (hT.later hb0 (Nat.le_refl _)) (hs.later (Nat.le_refl _) hb0) hn hK)
  have HB0 := Lib.hid hb0
  clear hs hn hK hb0
  go_enter Tryd.func39, Tryd.ntmps39
  go_wp2_with (go_at_call 53; refine hnew.out.mono ?_; rintro e w1 ⟨g, gi, go, rfl, hgi, hgo, hd1, hb1⟩; have hbA : Below w.heap.size w w1 := HB0.out.trans (hb1.mono HB0.out.size); have r0 := (Row.new w 25 (List.replicate 32 (.int .u8 0))).later hb1 (Row.new w 25 (List.replicate 32 (.int .u8 0))).lt; rw [World.size_alloc] at hgi hgo; clear hb1 hnew)
  go_loopw [12] (fun i wr => ∃ k : Nat, k ≤ ps.length ∧ i = .int .i64 k ∧ Macd wr g gi go K (flat (ps.take k)) ∧ Row wr w.heap.size 25 (List.replicate 32 (.int .u8 0)) ∧ Below w.heap.size w wr) (fun i _ => ps.length - (intOf i).toNat)
  case atStart => exact ⟨0, by omega, rfl, hd1, r0, hbA⟩
  case round =>
    clear hd1 r0 hbA
    obtain ⟨k, hk, rfl, hd, r0, hb⟩ := hrel
    by_cases hlt : k < ps.length
    · obtain ⟨b, o, hA, _, _⟩ := hp.sl.rd.get (i := 0) (by rw [List.length_map]; omega)
      have hix := index_parts B b o ps.length d k hA hlt
      have hps := hp.later (Nat.le_refl _) hb
      rw [hA] at hps
      have hck := hps.get k hlt
      have hsk := hps.each ps[k] (List.getElem_mem hlt)
      have hsw := hp.each ps[k] (List.getElem_mem hlt)
      have HF := Lib.hid (flat_succ ps k hlt)
      have hfl := flat_le ps (k + 1)
      rw [HF.out, List.length_append] at hfl
      unfold partV at hck
      obtain ⟨⟨Ak, ck, lk⟩, hpk⟩ : ∃ p, p = ps[k] := ⟨_, rfl⟩
      rw [← hpk] at hck hsk hsw HF hfl
      dsimp only at hck hsk hsw HF hfl
      have hml : 64 + (flat (ps.take k)).length + lk.length ≤ 4611686018427387904 := by omega
      have HA := Lib.hid hA
      clear hpk hps hfl hA
      go_wp2_with (go_at_call 54; refine (mwrite_any g gi go lk.length K (flat (ps.take k)) lk Ak ck _ (hT.cu.later hb (Nat.le_refl _)) hd hsk (fun h a ha => by have := hsw.block_lt (by rw [length_byts]; exact h) ha; omega) rfl hml).mono ?_; rintro e w3 ⟨rfl, hd3, hg3⟩)
      have hb3 := hb.grown hg3 hb.size (fun k h => by cases h; omega)
      have r3 := r0.grown hg3 (by omega)
      clear hd hb r0 hg3 hck hsk hsw hix
      go_roundw
      case rel => exact ⟨k + 1, by omega, by go_num, by rw [HF.out]; exact hd3, r3, hb3⟩
      case measure => simp [intOf]; omega
    · rw [flat_all ps k (by omega)] at hd
      have hC := hT.cu.later hb (Nat.le_refl _)
      obtain ⟨V, hVq⟩ : ∃ V, V = byts (macL K (flat ps)) := ⟨_, rfl⟩
      have hsum := Lib.hid (show Calls Tryd.prog 55 #[.pointer (some ⟨g, 0, none⟩)] wr fun e w' => e = .returned (.agg V.toArray) ∧ Below wr.heap.size wr w' by rw [hVq]; exact msum_any g gi go K (flat ps) wr hC hd hm)
      have hVl : V.length = 32 := by rw [hVq]; exact store_tag
      have hone := Lib.hid (all_one (show ∀ v ∈ V, v.oneCell' = true by rw [hVq]; exact byts_one _))
      have hsz := Lib.hid (show (Tryd.prog.info? 25).map (·.size) = some V.toArray.size by rw [size_tag, List.size_toArray, hVl])
      have hszo := Lib.hid (show (List.replicate 32 (Value.int .u8 0)).toArray.size = V.toArray.size by rw [List.size_toArray, List.size_toArray, List.length_replicate, hVl])
      have HV := Lib.hid hVq
      clear hVq hVl hC hd
      go_wp2_with (first
        | (go_at_call 55; refine hsum.out.mono ?_; rintro e w3 ⟨rfl, hb3⟩; have R0 := Lib.hid (show w3.heap[w.heap.size]? = some (.cells (List.replicate 32 (Value.int .u8 0)).toArray 25 (0, 0)) from r0.later hb3 r0.lt))
        | ((with_reducible refine wpList_store_row rfl 25 (.tmp 4) (.tmp 21) rfl w.heap.size V.toArray rfl rfl 25 _ R0.out hsz.out hszo.out hone.out ?_); have HG := Lib.hid (setRow_heap w3 w.heap.size _ V.toArray 25 (0, 0) R0.out))
        | (with_reducible refine bodyPost_ret (results_cell_row rfl _ _ w.heap.size 25 V.toArray (0, 0) (.array 32 5) rfl HG.out Tryd.underlying25 rfl hsz.out) rfl ?_))
      exact ⟨by rw [HV.out], below_setRow (hb.trans (hb3.mono hb.size)) (Nat.le_refl _) _⟩
end Go.Proofs.YtcbilopdeiapjaaDoor

/- LAYER 6: package derive's Key. -/
namespace Go.Proofs.YtcbilopdeiapjaaDoor
set_option maxRecDepth 100000
open Go Go.RowKit

theorem parts_pair {w : World} {A B : Option Addr} {c d : Nat} {l k : List UInt8} (h : Sl w A c (byts l)) (g : Sl w B d (byts k)) :
    Parts (w.alloc (.cells #[.slice A l.length c, .slice B k.length d] 58)) (some ⟨w.heap.size, 0, none⟩) 2 [(A, c, l), (B, d, k)] := by
  have r := Row.new w 58 [.slice A l.length c, .slice B k.length d]
  have hb := (Below.refl w.heap.size w).alloc (Nat.le_refl _) (.cells #[.slice A l.length c, .slice B k.length d] 58)
  refine ⟨⟨Rd.row (ys := []) (by rw [List.append_nil]; exact r), by simp, fun h => by cases h⟩, fun p hp => ?_⟩
  simp only [List.mem_cons, List.not_mem_nil, or_false] at hp
  rcases hp with rfl | rfl
  · exact h.later (Nat.le_refl _) hb
  · exact g.later (Nat.le_refl _) hb
set_option maxRecDepth 100000 in
set_option maxHeartbeats 1000000 in
theorem dkey_any (key : List UInt8) (hk : key.length = 32) (use : List UInt8) (A : Option Addr) (n c : Nat) (ss : List (List UInt8)) (w : World) (hT : Tabs w) (hs : Sl w A c (strsV ss)) (hn : n = ss.length) (hm : sumS (use :: ss) ≤ 1000000000) :
    Calls Tryd.prog 24 #[.agg (byts key).toArray, .string (bstr use), .slice A n c] w fun e w' => e = .returned (.agg (byts (keyD key use ss)).toArray) ∧ Below w.heap.size w w' := by
  subst hn
  have hFl := length_frameL (use :: ss)
  have hm1 : sumS [use] ≤ 1000000000 := by have := sumS_le (use :: ss) 1; rw [show (use :: ss).take 1 = [use] from rfl] at this; omega
  have hm2 : sumS ss ≤ 1000000000 := by have h2 : sumS (use :: ss) = use.length + 1 + sumS ss := rfl; omega
  obtain ⟨K, hK⟩ : ∃ K, K = byts key := ⟨_, rfl⟩
  have HK := Lib.hid hK
  have hKl : K.length = 32 := by rw [hK, length_byts]; exact hk
  obtain ⟨V, hV⟩ : ∃ V, V = byts (keyD key use ss) := ⟨_, rfl⟩
  have hVl : V.length = 32 := by rw [hV, length_byts]; exact length_keyD _ _ _
  have hone := Lib.hid (show ∀ v ∈ V, v.oneCell' = true by rw [hV]; exact byts_one _)
  have hszl := Lib.hid (show (Tryd.prog.info? 25).map (·.size) = some V.length by rw [size_tag, hVl])
  have hsz2 := Lib.hid (show (Tryd.prog.info? 25).map (·.size) = some V.toArray.size by rw [size_tag, List.size_toArray, hVl])
  have hfit := Lib.hid (show 0 + V.length ≤ (List.replicate 32 (Value.int .u8 0)).length by rw [hVl, List.length_replicate]; decide)
  have HVr := Lib.hid (show splice (List.replicate 32 (Value.int .u8 0)) 0 V = V by
    unfold splice
    rw [List.take_zero, List.nil_append, Nat.zero_add, hVl, List.drop_of_length_le (by rw [List.length_replicate]; exact Nat.le_refl _), List.append_nil])
  have hkl := Lib.hid hk
  obtain ⟨F1, hF1⟩ : ∃ F, F = frameL [use] := ⟨_, rfl⟩
  obtain ⟨F2, hF2⟩ : ∃ F, F = frameL ss := ⟨_, rfl⟩
  have hF12 := Lib.hid (show ∀ (A4 A5 : Option Addr) (c4 c5 : Nat), flat [(A4, c4, F1), (A5, c5, F2)] = frameL (use :: ss) by
    intros
    rw [hF1, hF2, show use :: ss = [use] ++ ss from rfl, frameL_append]
    simp [flat])
  have hFm := Lib.hid (show ∀ (A4 A5 : Option Addr) (c4 c5 : Nat), 64 + (flat [(A4, c4, F1), (A5, c5, F2)]).length ≤ 2305843009213693952 by
    intros
    rw [hF12.out _ _ _ _]; omega)
  have hf1 := Lib.hid (show ∀ w1 B d, Sl w1 B d (strsV [use]) → Calls Tryd.prog 40 #[.slice B 1 d] w1 (GaveBytes F1 w1) by
    rw [hF1]
    exact fun w1 B d h => dframe_any B 1 d [use] w1 h rfl hm1)
  have hf2 := Lib.hid (show ∀ w1, Sl w1 A c (strsV ss) → Calls Tryd.prog 40 #[.slice A ss.length c] w1 (GaveBytes F2 w1) by
    rw [hF2]
    exact fun w1 h => dframe_any A ss.length c ss w1 h rfl hm2)
  have HV := Lib.hid (show V = byts (macL key (frameL (use :: ss))) by rw [hV]; rfl)
  have HVD := Lib.hid hV
  rw [← hK]
  clear hV hVl hK hF1 hF2 hFl hk
  go_enter Tryd.func24, Tryd.ntmps24
  go_wp2_with fail
  generalize hw2 : World.alloc (World.alloc w _) _ = w2
  obtain ⟨r0, r1, hb2, _hs2⟩ := two_rows (A := K) (B := List.replicate 32 (.int .u8 0)) hw2
  clear hw2 _hs2
  have hsl2 := hs.later (Nat.le_refl _) hb2
  have hT2 := hT.later hb2 (Nat.le_refl _)
  have hslK : Sl w2 (some ⟨w.heap.size, 0, none⟩) 32 (byts key) := ⟨Rd.row (ys := []) (by rw [List.append_nil, ← HK.out]; exact r0), by rw [length_byts, hkl.out]; exact Nat.le_refl _, fun h => by cases h⟩
  clear r0 hs
  refine wp_region_noPanic ?_
  refine wp_region_held_drew (S := fun _ => True) (by kernel_rfl) (trivial) (fun hHeld => ?_)
  refine rt 0 7 hHeld ?_
  refine rt 1 8 hHeld ?_
  refine rt 4 11 hHeld ?_
  refine rc1 2 fun K hK => ?_
  refine step_alloc (some 9) rfl (by rfl) (.slice (some ⟨w2.heap.size, 0, none⟩) 1 1) (.cells #[.string (bstr use)] 9) (by go_simp) ?_; intro w3 hw3 hb3; have hsu : Sl w3 (some ⟨w2.heap.size, 0, none⟩) 1 (strsV [use]) := (by rw [hw3]; exact ⟨Rd.row (ys := []) (by rw [List.append_nil]; exact Row.new w2.drew 9 (strsV [use])), by rw [length_strsV]; exact Nat.le_refl _, fun h => by cases h⟩); have hb23 : Below w2.heap.size w2 w3 := (Below.refl w2.heap.size w2).drew.trans hb3; clear hw3
  refine rk hK (trivial) fun hHeld => ?_
  clear hK K
  refine rc1 3 fun K hK => ?_
  go_simp
  refine (hf1.out _ _ _ hsu).mono ?_; rintro e w4 ⟨v4, rfl, hown4, hb4⟩; obtain ⟨A4, c4, rfl, _, hsl4⟩ := Sl.of_own hown4; have hb24 := below_step hb23 hb4; clear hown4
  try go_wp2_with fail
  refine hK.out _ _ (trivial) (fun hHeld => ?_)
  clear hK K
  refine rc1 5 fun K hK => ?_
  go_simp
  refine (hf2.out _ (hsl2.later (Nat.le_refl _) hb24)).mono ?_; rintro e w5 ⟨v5, rfl, hown5, hb5⟩; obtain ⟨A5, c5, rfl, _, hsl5⟩ := Sl.of_own hown5; have hb25 := below_step hb24 hb5; clear hown5
  try go_wp2_with fail
  refine hK.out _ _ (trivial) (fun hHeld => ?_)
  clear hK K
  refine rc1 6 fun K hK => ?_
  refine step_alloc (some 13) rfl (by rfl) (.slice (some ⟨w5.heap.size, 0, none⟩) 2 2) (.cells #[.slice A4 F1.length c4, .slice A5 F2.length c5] 58) (by go_simp) ?_; intro w6 hw6 hb6; have hpt : Parts w6 (some ⟨w5.heap.size, 0, none⟩) 2 [(A4, c4, F1), (A5, c5, F2)] := (by rw [hw6]; exact parts_pair (hsl4.later (Nat.le_refl _) hb5) hsl5); have hb26 := below_step hb25 hb6; clear hw6
  refine rk hK (trivial) fun hHeld => ?_
  clear hK K
  refine rc1 7 fun K hK => ?_
  go_simp
  refine (mof_any (some ⟨w.heap.size, 0, none⟩) 32 32 key (some ⟨w5.heap.size, 0, none⟩) 2 2 [(A4, c4, F1), (A5, c5, F2)] _ (hT2.later hb26 (Nat.le_refl _)) (hslK.later (Nat.le_refl _) hb26) hkl.out.symm hpt rfl (by rw [hkl.out]; decide) (hFm.out _ _ _ _) (by simp)).mono ?_; rintro e w7 ⟨rfl, hb7⟩; have hb27 := below_step hb26 hb7; rw [hF12.out _ _ _ _, ← HV.out]
  try go_wp2_with fail
  refine hK.out _ _ (trivial) (fun hHeld => ?_)
  clear hK K
  refine rc1 8 fun K hK => ?_
  refine step_store_row none rfl (by rfl) 25 (.tmp 6) (.tmp 14) rfl (w.heap.size + 1) 0 25 _ V rfl rfl (r1.later hb27 r1.lt) hfit.out hszl.out hone.out ?_; intro w9 r9 hg9
  refine hK.out _ _ (trivial) (fun _ => ?_)
  clear hK K
  rw [put_none]
  refine wpAnyH_done (by kernel_rfl) ?_ _
  refine NoPanic.normal ?_
  have r9 : Row w9 (w.heap.size + 1) 25 V := by rw [HVr.out] at r9; exact r9
  have hb9 := (hb2.trans (hb27.mono hb2.size)).grown hg9 (Nat.le_trans hb2.size hb27.size) (fun k h => by cases h; omega)
  have R9 := Lib.hid (show w9.heap[w.heap.size + 1]? = some (.cells V.toArray 25 (0, 0)) from r9)
  clear r9 hg9 r1 hslK hsl2 hsu hsl4 hsl5 hpt hb3 hb4 hb5 hb6 hb7 hb23 hb24 hb25 hb26 hb27 hb2
  go_wp2_with (with_reducible refine bodyPost_ret (results_cell_row rfl _ _ (w.heap.size + 1) 25 V.toArray (0, 0) (.array 32 5) rfl R9.out Tryd.underlying25 rfl hsz2.out) rfl ?_)
  exact ⟨by rw [HVD.out], hb9⟩
end Go.Proofs.YtcbilopdeiapjaaDoor

/- LAYER 7: package seal's turn: a row of bytes is turned in place. -/
namespace Go.Proofs.YtcbilopdeiapjaaDoor
set_option maxRecDepth 100000
open Go Go.RowKit

/-- Block g is a row that holds just xs, whatever of it a string shares. -/
def Rowf (w : World) (g : Nat) (t : TypeId) (fr : Nat × Nat) (xs : List Value) : Prop := w.heap[g]? = some (.cells xs.toArray t fr)
theorem Rowf.lt {w : World} {g t : Nat} {fr : Nat × Nat} {xs : List Value} (h : Rowf w g t fr xs) : g < w.heap.size := by
  unfold Rowf at h
  exact (Array.getElem?_eq_some_iff.1 h).1
theorem Rowf.cell {w : World} {g t : Nat} {fr : Nat × Nat} {xs : List Value} (h : Rowf w g t fr xs) (i : Nat) : w.cell? ⟨g, i, none⟩ = xs[i]? := by
  rw [cell_of_row w g i _ t fr h]; simp
theorem Rowf.free {w : World} {g t : Nat} {fr : Nat × Nat} {xs : List Value} (h : Rowf w g t fr xs) (i : Nat) (hi : fr.2 ≤ fr.1 ∨ i < fr.1) : w.frozen? ⟨g, i, none⟩ = false := by
  unfold Rowf at h
  simp only [World.frozen?, h]
  rw [Bool.and_eq_false_iff]
  rcases Nat.lt_or_ge i fr.1 with h1 | h1
  · exact .inl (decide_eq_false (by omega))
  · exact .inr (decide_eq_false (by omega))
theorem Rowf.set {w : World} {g t : Nat} {fr : Nat × Nat} {xs : List Value} (h : Rowf w g t fr xs) (i : Nat) (v : Value) : Rowf (w.setCell ⟨g, i, none⟩ v) g t fr (xs.set i v) := by
  unfold Rowf at h ⊢
  rw [show (xs.set i v).toArray = xs.toArray.setIfInBounds i v by simp]
  simp [World.setCell, Array.getElem?_modify, h]
theorem Rowf.drew {w : World} {g t : Nat} {fr : Nat × Nat} {xs : List Value} (h : Rowf w g t fr xs) : Rowf w.drew g t fr xs := h
theorem Rowf.later {w w' : World} {g t : Nat} {fr : Nat × Nat} {xs : List Value} {B : Nat} (h : Rowf w g t fr xs) (hb : Below B w w') (hg : g < B) : Rowf w' g t fr xs := by
  unfold Rowf at h ⊢
  rw [hb.block g hg]; exact h
theorem Rowf.grown {w w' : World} {g k t : Nat} {fr : Nat × Nat} {xs : List Value} (h : Rowf w g t fr xs) (hg : w.grownBy w' (some k)) (hne : g ≠ k) : Rowf w' g t fr xs := by
  have hl := h.lt
  unfold Rowf at h ⊢
  rw [hg.block g hl (fun e => hne (Option.some.inj e))]; exact h
theorem Rd.rowf {w : World} {g t : Nat} {fr : Nat × Nat} {xs ys : List Value} (h : Rowf w g t fr (xs ++ ys)) : Rd w (some ⟨g, 0, none⟩) xs :=
  .inr ⟨g, 0, rfl, h.lt, fun i hi => by rw [Nat.zero_add, h.cell, List.getElem?_append_left hi]⟩
theorem turn_succ (a b : List UInt8) (k : Nat) (ha : k < a.length) (hb : k < b.length) : (xorWith (a.take k) (b.take k) ++ a.drop k).set k (a.getD k 0 ^^^ b.getD k 0) = xorWith (a.take (k + 1)) (b.take (k + 1)) ++ a.drop (k + 1) := by
  have hl : (xorWith (a.take k) (b.take k)).length = k := by rw [length_xorWith _ _ (by rw [List.length_take, List.length_take]; omega), List.length_take]; omega
  rw [xorWith_succ a b k ha hb, List.set_append_right _ _ (by omega), hl, Nat.sub_self, List.drop_eq_getElem_cons ha, List.set_cons_zero, List.append_assoc]
  rfl
theorem turn_at (a b : List UInt8) (k : Nat) (ha : k < a.length) (hb : k < b.length) : (xorWith (a.take k) (b.take k) ++ a.drop k).getD k 0 = a.getD k 0 := by
  have hl : (xorWith (a.take k) (b.take k)).length = k := by rw [length_xorWith _ _ (by rw [List.length_take, List.length_take]; omega), List.length_take]; omega
  rw [List.getD_eq_getElem?_getD, List.getElem?_append_right (by omega), hl, Nat.sub_self, List.getElem?_drop, Nat.add_zero, List.getD_eq_getElem?_getD]
theorem turn_len (a b : List UInt8) (k : Nat) (ha : k ≤ a.length) (hb : k ≤ b.length) : (xorWith (a.take k) (b.take k) ++ a.drop k).length = a.length := by
  rw [List.length_append, length_xorWith _ _ (by rw [List.length_take, List.length_take]; omega), List.length_take, List.length_drop]; omega
/-- What turns a block made since, turns none of those ahead. -/
theorem grown_past {a b c : World} {row : Option Nat} {t : Nat} (h : a.grownBy b row) (k : b.grownBy c (some t)) (ht : a.heap.size ≤ t) : a.grownBy c row :=
  ⟨k.os.trans h.os, k.tape.trans h.tape, k.output.trans h.output, Nat.le_trans h.size k.size, fun i hi hne => (k.block i (Nat.lt_of_lt_of_le hi h.size) (fun e => by cases e; omega)).trans (h.block i hi hne)⟩
set_option maxRecDepth 100000 in
set_option maxHeartbeats 2000000 in
theorem dturn_any (key nonce : List UInt8) (hk : key.length = 32) (hn : nonce.length = 32) (l : List UInt8) (hm : l.length < 9223372036854775808) (ys : List Value) (g n c : Nat) (fr : Nat × Nat) (hfr : fr.2 ≤ fr.1 ∨ l.length ≤ fr.1) (hnl : n = l.length) (w0 w : World) (hT0 : Tabs w0) (hb0 : Below w0.heap.size w0 w) (hg0 : w0.heap.size ≤ g) (hrow : Rowf w g 5 fr (byts l ++ ys)) :
    Calls Tryd.prog 52 #[.agg (byts key).toArray, .agg (byts nonce).toArray, .slice (some ⟨g, 0, none⟩) n c] w fun e w' => e = .returned (.tuple #[]) ∧ w.grownBy w' (some g) ∧ Rowf w' g 5 fr (byts (turnL key nonce l) ++ ys) := by
  have hglt := hrow.lt
  obtain ⟨K, hK⟩ : ∃ K, K = byts key := ⟨_, rfl⟩
  have hKl : K.length = 32 := by rw [hK, length_byts]; exact hk
  have hszL := Lib.hid (show (Tryd.prog.info? 25).map (·.size) = some K.length by rw [size_tag, hKl])
  obtain ⟨M, hM⟩ : ∃ M, M = byts nonce := ⟨_, rfl⟩
  have HM := Lib.hid hM
  obtain ⟨X, hX⟩ : ∃ X, X = streamL key nonce l.length := ⟨_, rfl⟩
  have HXl := Lib.hid (show X.length = l.length by rw [hX]; exact length_streamL _ _ _)
  have HX := Lib.hid hX
  have hnumA := Lib.hid (show ∀ q w1, Calls Tryd.prog 56 #[.int .u64 ((q : Nat) : Int)] w1 (GaveBytes (eightL q) w1) from fun q w1 => number_any q w1)
  have hkeyA := Lib.hid (show ∀ q w1 B d, Tabs w1 → Sl w1 B d (strsV [nonce, eightL q]) → Calls Tryd.prog 24 #[.agg K.toArray, .string (bstr streamU), .slice B 2 d] w1 fun e w' => e = .returned (.agg (byts (blockL key nonce q)).toArray) ∧ Below w1.heap.size w1 w' by
    rw [hK]
    exact fun q w1 B d hT h => dkey_any key hk streamU B 2 d [nonce, eightL q] w1 hT h rfl (by show (6 + 1) + ((nonce.length + 1) + (((eightL q).length + 1) + 0)) ≤ _; rw [length_eightL, hn]; decide))
  have HN := Lib.hid hn
  have HNL := Lib.hid hnl
  rw [← hK, ← hM]
  clear hK hKl hM hk hn hX hnl
  go_enter Tryd.func52, Tryd.ntmps52
  go_wp2_with fail
  generalize hw3 : World.alloc (World.alloc (World.alloc w _) _) _ = w3
  obtain ⟨r0, r1, rT, hb3, hs3⟩ := rows3 (A := K) (B := M) (C := List.replicate 32 (.int .u8 0)) hw3
  have rg := hrow.later hb3 hglt
  rw [zero_cells] at rT
  clear hw3 hs3 hrow
  go_wp2_with fail
  go_loopw [10] (fun i wr => ∃ k : Nat, k ≤ l.length ∧ i = .int .i64 k ∧ Rowf wr g 5 fr (byts (xorWith (l.take k) (X.take k) ++ l.drop k) ++ ys) ∧ Row wr w.heap.size 25 K ∧ Row wr (w.heap.size + 1) 25 M ∧ (∃ T : List UInt8, T.length = 32 ∧ Row wr (w.heap.size + 1 + 1) 25 (byts T) ∧ (k % 32 ≠ 0 → T = blockL key nonce (k / 32))) ∧ w.grownBy wr (some g)) (fun i _ => l.length - (intOf i).toNat)
  case atStart => exact ⟨0, by omega, rfl, rg, r0, r1, ⟨zeroT, rfl, rT, fun h => absurd rfl h⟩, grown_of_below hb3 _⟩
  case round =>
    clear r0 r1 rT hb3 rg
    obtain ⟨k, hk, rfl, rg, r0, r1, ⟨T, hTl, rT, hT⟩, hg⟩ := hrel
    by_cases hlt : k < l.length
    · have hlt' : k < n := by rw [HNL.out]; exact hlt
      obtain ⟨r, hrk⟩ : ∃ r, r = k % 32 := ⟨_, rfl⟩
      have hr : r < 32 := by omega
      have hrem : (k : Int) % (32 : Int) = (r : Int) := by rw [hrk]; omega
      have hk32 := Lib.hid hrk
      have hT := fun h : r ≠ 0 => hT (by rw [← hrk]; exact h)
      have hgne : g ≠ w.heap.size + 1 + 1 := by omega
      obtain ⟨P, hP⟩ : ∃ P, P = xorWith (l.take k) (X.take k) ++ l.drop k := ⟨_, rfl⟩
      have HPl := Lib.hid (show P.length = l.length by rw [hP]; exact turn_len l X k (by omega) (by rw [HXl.out]; omega))
      have HPk := Lib.hid (show P.getD k 0 = l.getD k 0 by rw [hP]; exact turn_at l X k hlt (by rw [HXl.out]; omega))
      have HP := Lib.hid hP
      have hTr : Tabs wr := hT0.later (hb0.grown hg hb0.size (fun k h => by cases h; exact hg0)) (Nat.le_refl _)
      rw [← hP] at rg
      clear hrk hP
      by_cases h0 : r = 0
      · have HR := Lib.hid hrem
        have hrem0 : (k : Int) % (32 : Int) = 0 := by rw [hrem, h0]; rfl
        clear hrem h0 hT
        obtain ⟨q, hq⟩ : ∃ q, q = k / 32 := ⟨_, rfl⟩
        have hquo : (k : Int) / (32 : Int) = (q : Int) := by rw [hq]; omega
        have hqw : IntKind.i64.wrap (q : Int) = (q : Int) := by rw [IntKind.wrap_i64]; omega
        have hwr : IntKind.u64.wrap (q : Int) = (q : Int) := by rw [IntKind.wrap_u64]; omega
        obtain ⟨T', hT'⟩ : ∃ T', T' = blockL key nonce q := ⟨_, rfl⟩
        obtain ⟨V, hV⟩ : ∃ V, V = byts T' := ⟨_, rfl⟩
        have hTl' : T'.length = 32 := by rw [hT']; exact length_blockL _ _ _
        have hVl : V.length = 32 := by rw [hV, length_byts]; exact hTl'
        obtain ⟨E, hE⟩ : ∃ E, E = eightL q := ⟨_, rfl⟩
        have hnum := Lib.hid (show ∀ w1, Calls Tryd.prog 56 #[.int .u64 (q : Int)] w1 (GaveBytes E w1) by rw [hE]; exact hnumA.out q)
        have hkey := Lib.hid (show ∀ w1 B d, Tabs w1 → Sl w1 B d (strsV [nonce, E]) → Calls Tryd.prog 24 #[.agg K.toArray, .string (bstr streamU), .slice B 2 d] w1 fun e w' => e = .returned (.agg V.toArray) ∧ Below w1.heap.size w1 w' by
          rw [hV, hT', hE]; exact hkeyA.out q)
        have hone := Lib.hid (show ∀ v ∈ V, v.oneCell' = true by rw [hV]; exact byts_one _)
        have hszl := Lib.hid (show (Tryd.prog.info? 25).map (·.size) = some V.length by rw [size_tag, hVl])
        have hfit := Lib.hid (show 0 + V.length ≤ (byts T).length by rw [hVl, length_byts, hTl]; decide)
        have HVr := Lib.hid (show splice (byts T) 0 V = V by
          unfold splice
          rw [List.take_zero, List.nil_append, Nat.zero_add, hVl, List.drop_of_length_le (by rw [length_byts, hTl]; exact Nat.le_refl _), List.append_nil])
        have HV := Lib.hid hV
        have HT' := Lib.hid (show T' = blockL key nonce (k / 32) by rw [hT', hq])
        have HK1 := Lib.hid (show (k + 1) % 32 ≠ 0 → T' = blockL key nonce ((k + 1) / 32) from fun _ => by rw [hT', hq, show (k + 1) / 32 = k / 32 by have := hk32.out; have := HR.out; omega])
        have ne0 : w.heap.size ≠ w.heap.size + 1 + 1 := by omega
        have hcv3 := conv_grown (g := w.heap.size + 1 + 1) (w := wr) (A := some ⟨w.heap.size + 1, 0, none⟩) (c := 32) (l := nonce) ⟨Rd.row (ys := []) (by rw [List.append_nil, ← HM.out]; exact r1), by rw [length_byts, HN.out]; exact Nat.le_refl _, fun h => by cases h⟩ 32 HN.out.symm (fun _ a ha => by cases ha; show w.heap.size + 1 ≠ _; omega)
        clear hV hVl hT' hE hr hq
        go_wp2_with fail
        refine wp_region_noPanic ?_
        refine wp_region_held_drew (S := fun w' => World.grownBy wr w' (some (w.heap.size + 1 + 1))) (by kernel_rfl) (grown_of_below (Below.refl _ _).drew _) (fun hHeld => ?_)
        have hAll := hHeld
        refine rt 0 16 hHeld ?_ (hy := by intro w hS; exact run_load_op 25 (.tmp 3) rfl _ 0 rfl K _ (row_range (r0.grown hS ne0)) Tryd.underlying25 rfl hszL.out)
        refine rt 1 17 hHeld ?_
        refine rt 2 18 hHeld ?_
        refine rt 3 19 hHeld ?_
        refine rt 4 20 hHeld ?_
        refine rt 5 21 hHeld ?_
        refine rc1 6 fun K hK => ?_
        go_simp
        refine (hnum.out _).mono ?_; rintro e w4 ⟨v4, rfl, hown4, hb4⟩; have hb34 := ((Below.refl wr.heap.size wr).drew).trans (hb4.mono (Nat.le_refl _)); obtain ⟨A4, c4, rfl, _, hsl4⟩ := Sl.of_own hown4; have hcv4 := conv_grown (g := w.heap.size + 1 + 1) hsl4 _ rfl (fun _ a ha => own_apart hown4 rT.lt a ha); clear hown4
        try go_wp2_with fail
        refine hK.out _ _ (grown_trans hHeld (grown_of_below hb4 _)) (fun _ => ?_)
        clear hK K
        have hAll := grown_trans hAll (grown_of_below hb4 _)
        refine wpAnyH_narrow (S' := fun w' => World.grownBy w4 w' (some (w.heap.size + 1 + 1))) (fun _ h => grown_trans (grown_trans hHeld (grown_of_below hb4 _)) h) _ _ _ _ ?_
        clear hHeld
        have hHeld : World.grownBy w4 w4 (some (w.heap.size + 1 + 1)) := grown_refl _ _
        refine rt 7 23 hHeld ?_
        refine rc1 8 fun K hK => ?_
        refine step_alloc (some 24) rfl (by rfl) (.slice (some ⟨w4.heap.size, 0, none⟩) 2 2) (.cells #[.string (bstr nonce), .string (bstr E)] 9) (by go_simp) ?_; intro w5 hw5 hb5; have hb35 := below_step hb34 hb5; have hss : Sl w5 (some ⟨w4.heap.size, 0, none⟩) 2 (strsV [nonce, E]) := (by rw [hw5]; exact ⟨Rd.row (ys := []) (by rw [List.append_nil]; exact Row.new w4 9 (strsV [nonce, E])), by rw [length_strsV]; exact Nat.le_refl _, fun h => by cases h⟩); clear hw5
        refine rk hK (grown_trans hHeld (grown_of_below hb5 _)) fun _ => ?_
        clear hK K
        have hAll := grown_trans hAll (grown_of_below hb5 _)
        refine wpAnyH_narrow (S' := fun w' => World.grownBy w5 w' (some (w.heap.size + 1 + 1))) (fun _ h => grown_trans (grown_trans hHeld (grown_of_below hb5 _)) h) _ _ _ _ ?_
        clear hHeld
        have hHeld : World.grownBy w5 w5 (some (w.heap.size + 1 + 1)) := grown_refl _ _
        refine rc1 9 fun K hK => ?_
        go_simp
        refine (hkey.out _ _ _ (hTr.later hb35 (Nat.le_refl _)) hss).mono ?_; rintro e w6 ⟨rfl, hb6⟩; have hb36 := below_step hb35 hb6
        try go_wp2_with fail
        refine hK.out _ _ (grown_trans hHeld (grown_of_below hb6 _)) (fun _ => ?_)
        clear hK K
        have hAll := grown_trans hAll (grown_of_below hb6 _)
        refine wpAnyH_narrow (S' := fun w' => World.grownBy w6 w' (some (w.heap.size + 1 + 1))) (fun _ h => grown_trans (grown_trans hHeld (grown_of_below hb6 _)) h) _ _ _ _ ?_
        clear hHeld
        have hHeld : World.grownBy w6 w6 (some (w.heap.size + 1 + 1)) := grown_refl _ _
        refine rc1 10 fun K hK => ?_
        refine step_store_row none rfl (by rfl) 25 (.tmp 6) (.tmp 25) rfl (w.heap.size + 1 + 1) 0 25 _ V rfl rfl (rT.later hb36 rT.lt) hfit.out hszl.out hone.out ?_; intro w9 r9 hg9
        refine hK.out _ _ (grown_trans hHeld hg9) (fun _ => ?_)
        clear hK K
        rw [put_none]
        have hAll := grown_trans hAll hg9
        refine wpAnyH_narrow (S' := fun w' => World.grownBy w9 w' (some (w.heap.size + 1 + 1))) (fun _ h => grown_trans (grown_trans hHeld hg9) h) _ _ _ _ ?_
        clear hHeld
        have hHeld : World.grownBy w9 w9 (some (w.heap.size + 1 + 1)) := grown_refl _ _
        refine wpAnyH_done (by kernel_rfl) ?_ _
        refine NoPanic.normal ?_
        have r9 : Row w9 (w.heap.size + 1 + 1) 25 V := by rw [HVr.out] at r9; exact r9
        rw [HV.out] at r9
        have hb3 := hb36
        have r0' := (r0.later hb36 r0.lt).grown hg9 ne0
        have r1' := (r1.later hb36 r1.lt).grown hg9 (by omega)
        have rg' := (rg.later hb36 rg.lt).grown hg9 hgne
        have hg' : w.grownBy w9 (some g) := grown_past hg hAll (by omega)
        have hr : r < 32 := by have := hk32.out; omega
        have hTl := hTl'
        have hT := HT'.out
        have hrem := HR.out
        clear hb36 hb35 hb34 hb4 hb5 hb6 hcv4 hcv3 hss hsl4 hg9 hAll hHeld rT rg r0 r1 hTr hnum hkey hone hszl hfit HVr HV HT' HR hrem0 hquo hqw hwr
        generalize T' = T at *
        have hcb : w9.cell? ⟨g, k, none⟩ = some (.int .u8 ((l.getD k 0).toNat : Int)) := by
          rw [rg'.cell, List.getElem?_append_left (by rw [length_byts, HPl.out]; exact hlt), get_byts _ _ (by rw [HPl.out]; exact hlt), HPk.out]
        have hfb : w9.frozen? ⟨g, k, none⟩ = false := rg'.free k (by omega)
        have hct : w9.cell? ⟨w.heap.size + 1 + 1, r, none⟩ = some (.int .u8 ((T.getD r 0).toNat : Int)) := by rw [r9.cell, get_byts _ _ (by rw [hTl]; exact hr)]
        have HT := Lib.hid (show T.getD r 0 = X.getD k 0 by rw [hT, HX.out, getD_streamL _ _ _ _ hlt, ← hk32.out])
        have HS := Lib.hid (show (P.set k (l.getD k 0 ^^^ T.getD r 0)) = xorWith (l.take (k + 1)) (X.take (k + 1)) ++ l.drop (k + 1) by rw [HT.out, HP.out]; exact turn_succ l X k hlt (by rw [HXl.out]; exact hlt))
        generalize T.getD r 0 = y at *
        generalize l.getD k 0 = x at *
        have hx := byte_xor x y
        have hrr : (r : Int) < 32 := by omega
        have htm : (k : Int).tmod 32 = (r : Int) := by rw [Int.tmod_eq_emod_of_nonneg (by omega)]; exact hrem
        have hixg := index_own (some ⟨g, 0, none⟩) g n c k rfl hlt'
        clear hT
        go_wp2_with fail
        refine wp_region_noPanic ?_
        refine wp_region_held_drew (S := fun w' => w'.cell? ⟨w.heap.size + 1 + 1, r, none⟩ = some (.int .u8 (y.toNat : Int))) (by kernel_rfl) (hct) (fun hHeld => ?_)
        refine rt 0 26 hHeld ?_
        refine rt 1 27 hHeld ?_
        refine rt 2 28 hHeld ?_
        refine rt 4 30 hHeld ?_
        refine rt 5 31 hHeld ?_
        refine rt 6 32 hHeld ?_
        refine rt 7 33 hHeld ?_
        refine rc1 3 fun K hK => ?_
        go_simp
        refine hK.out _ _ (hHeld) (fun hHeld => ?_)
        clear hK K
        try (first | (rw [put_some]; dsimp only [List.set]) | rw [put_none])
        refine rt 8 34 hHeld ?_
        refine rt 9 35 hHeld ?_
        refine rc1 10 fun K hK => ?_
        go_simp
        refine hK.out _ _ (by exact (World.cell?_setCell_far _ _ _ _ hgne).trans hct) (fun _ => ?_)
        clear hK K
        try (first | (rw [put_some]; dsimp only [List.set]) | rw [put_none])
        refine wpAnyH_done (by kernel_rfl) ?_ _
        refine NoPanic.normal ?_
        have rN := (rg'.set k (.int .u8 ((x ^^^ y).toNat : Int))).drew
        rw [List.set_append_left _ _ (by rw [length_byts, HPl.out]; exact hlt), byts_set, HS.out, UInt8.toNat_xor] at rN
        have r0N := (r0'.far ⟨g, k, none⟩ (.int .u8 ((x.toNat ^^^ y.toNat : Nat) : Int)) (by show w.heap.size ≠ g; omega)).drew
        have r1N := (r1'.far ⟨g, k, none⟩ (.int .u8 ((x.toNat ^^^ y.toNat : Nat) : Int)) (by show w.heap.size + 1 ≠ g; omega)).drew
        have rTN := (r9.far ⟨g, k, none⟩ (.int .u8 ((x.toNat ^^^ y.toNat : Nat) : Int)) (by show w.heap.size + 1 + 1 ≠ g; omega)).drew
        have hgN := grown_trans hg' (grown_trans (grown_setCell w9 g k (.int .u8 ((x.toNat ^^^ y.toNat : Nat) : Int))) (grown_of_below (Below.refl _ _).drew _))
        generalize (w9.setCell ⟨g, k, none⟩ (.int .u8 ((x.toNat ^^^ y.toNat : Nat) : Int))).drew = wN at *
        clear hcb hfb hct hx hixg rg' r9 r0' r1' HS HT
        go_wp2_with fail
        go_roundw
        case rel => exact ⟨k + 1, by omega, by go_num, rN, r0N, r1N, ⟨T, hTl, rTN, fun h => HK1.out h⟩, hgN⟩
        case measure => simp [intOf]; omega
      · have hr0 : ¬ (r : Int) = 0 := by omega
        have hT := hT h0
        have HK1 := Lib.hid (show (k + 1) % 32 ≠ 0 → T = blockL key nonce ((k + 1) / 32) from fun h => by rw [hT, show (k + 1) / 32 = k / 32 by have := hk32.out; omega])
        have hcb : wr.cell? ⟨g, k, none⟩ = some (.int .u8 ((l.getD k 0).toNat : Int)) := by
          rw [rg.cell, List.getElem?_append_left (by rw [length_byts, HPl.out]; exact hlt), get_byts _ _ (by rw [HPl.out]; exact hlt), HPk.out]
        have hfb : wr.frozen? ⟨g, k, none⟩ = false := rg.free k (by omega)
        have hct : wr.cell? ⟨w.heap.size + 1 + 1, r, none⟩ = some (.int .u8 ((T.getD r 0).toNat : Int)) := by rw [rT.cell, get_byts _ _ (by rw [hTl]; exact hr)]
        have HT := Lib.hid (show T.getD r 0 = X.getD k 0 by rw [hT, HX.out, getD_streamL _ _ _ _ hlt, ← hk32.out])
        have HS := Lib.hid (show (P.set k (l.getD k 0 ^^^ T.getD r 0)) = xorWith (l.take (k + 1)) (X.take (k + 1)) ++ l.drop (k + 1) by rw [HT.out, HP.out]; exact turn_succ l X k hlt (by rw [HXl.out]; exact hlt))
        generalize T.getD r 0 = y at *
        generalize l.getD k 0 = x at *
        have hx := byte_xor x y
        have hrr : (r : Int) < 32 := by omega
        have htm : (k : Int).tmod 32 = (r : Int) := by rw [Int.tmod_eq_emod_of_nonneg (by omega)]; exact hrem
        have hixg := index_own (some ⟨g, 0, none⟩) g n c k rfl hlt'
        clear hT
        go_wp2_with fail
        refine wp_region_noPanic ?_
        refine wp_region_held_drew (S := fun w' => w'.cell? ⟨w.heap.size + 1 + 1, r, none⟩ = some (.int .u8 (y.toNat : Int))) (by kernel_rfl) (hct) (fun hHeld => ?_)
        refine rt 0 26 hHeld ?_
        refine rt 1 27 hHeld ?_
        refine rt 2 28 hHeld ?_
        refine rt 4 30 hHeld ?_
        refine rt 5 31 hHeld ?_
        refine rt 6 32 hHeld ?_
        refine rt 7 33 hHeld ?_
        refine rc1 3 fun K hK => ?_
        go_simp
        refine hK.out _ _ (hHeld) (fun hHeld => ?_)
        clear hK K
        try (first | (rw [put_some]; dsimp only [List.set]) | rw [put_none])
        refine rt 8 34 hHeld ?_
        refine rt 9 35 hHeld ?_
        refine rc1 10 fun K hK => ?_
        go_simp
        refine hK.out _ _ (by exact (World.cell?_setCell_far _ _ _ _ hgne).trans hct) (fun _ => ?_)
        clear hK K
        try (first | (rw [put_some]; dsimp only [List.set]) | rw [put_none])
        refine wpAnyH_done (by kernel_rfl) ?_ _
        refine NoPanic.normal ?_
        have rN := (rg.set k (.int .u8 ((x ^^^ y).toNat : Int))).drew
        rw [List.set_append_left _ _ (by rw [length_byts, HPl.out]; exact hlt), byts_set, HS.out, UInt8.toNat_xor] at rN
        have r0N := (r0.far ⟨g, k, none⟩ (.int .u8 ((x.toNat ^^^ y.toNat : Nat) : Int)) (by show w.heap.size ≠ g; omega)).drew
        have r1N := (r1.far ⟨g, k, none⟩ (.int .u8 ((x.toNat ^^^ y.toNat : Nat) : Int)) (by show w.heap.size + 1 ≠ g; omega)).drew
        have rTN := (rT.far ⟨g, k, none⟩ (.int .u8 ((x.toNat ^^^ y.toNat : Nat) : Int)) (by show w.heap.size + 1 + 1 ≠ g; omega)).drew
        have hgN := grown_trans hg (grown_trans (grown_setCell wr g k (.int .u8 ((x.toNat ^^^ y.toNat : Nat) : Int))) (grown_of_below (Below.refl _ _).drew _))
        generalize (wr.setCell ⟨g, k, none⟩ (.int .u8 ((x.toNat ^^^ y.toNat : Nat) : Int))).drew = wN at *
        clear hcb hfb hct hx hixg rg rT r0 r1 HS HT
        go_wp2_with fail
        go_roundw
        case rel => exact ⟨k + 1, by omega, by go_num, rN, r0N, r1N, ⟨T, hTl, rTN, fun h => HK1.out h⟩, hgN⟩
        case measure => simp [intOf]; omega
    · obtain rfl : k = l.length := by omega
      rw [List.take_length, List.take_of_length_le (by rw [HXl.out]; exact Nat.le_refl _), List.drop_length, List.append_nil] at rg
      have hF : turnL key nonce l = xorWith l X := by rw [HX.out]; rfl
      have hlt' : ¬ (l.length : Int) < (n : Int) := by rw [HNL.out]; omega
      rw [← hF] at rg
      clear hF r0 r1 rT hTl hT hlt hk HXl HX
      go_wp2
      go_end0
      exact ⟨rfl, hg, rg⟩
end Go.Proofs.YtcbilopdeiapjaaDoor

/- LAYER 7: package seal's mark, turned, Stream. -/
namespace Go.Proofs.YtcbilopdeiapjaaDoor
set_option maxRecDepth 100000
open Go Go.RowKit

/-- A string turned into bytes: the new block is one row. -/
theorem conv_string_row (w : World) (l : List UInt8) : ∃ c ys fr w', (convert 9 58 (.string (bstr l))).run Tryd.prog w = .ok (.slice (some ⟨w.heap.size, 0, none⟩) l.length c) w' ∧ Rowf w' w.heap.size 5 fr (byts l ++ ys) ∧ l.length ≤ fr.1 ∧ l.length ≤ c ∧ Below w.heap.size w w' := by
  have h := run_bytes_of_string (P := Tryd.prog) w 9 58 5 (bstr l) Tryd.underlying9 Tryd.underlying58 Tryd.underlying5
  rw [size_bstr, bytesRow_list] at h
  exact ⟨_, _, _, _, h, Go.heap_alloc_new w.drew _, by rw [List.size_toArray, List.length_append, length_byts]; omega, grownCap_ge w l.length 0 5, ((Below.refl _ w).drew).alloc (Nat.le_refl _) _⟩
theorem wpList_conv_row {w : World} {ops : Array Oper} {rest : List Oper} {o : Oper} {a : Act} {Q : Exit → Act → World → Prop} (hgd : o.guard = none) (x : Operand)
    (ho : o.op = .convert 9 58 x) (l : List UInt8) (hx : a.eval x = .string (bstr l))
    (h : ∀ c ys fr w', Rowf w' w.heap.size 5 fr (byts l ++ ys) → l.length ≤ fr.1 → l.length ≤ c → Below w.heap.size w w' → wpList Tryd.prog ops Q rest (a.put o.dst (.slice (some ⟨w.heap.size, 0, none⟩) l.length c)) w') : wpList Tryd.prog ops Q (o :: rest) a w := by
  refine wpList_plain hgd fun _ hK => ?_
  obtain ⟨c, ys, fr, w', hrun, hs, hf, hc, hb⟩ := conv_string_row w l
  unfold Oper.wp execOp
  simp only [ho, hx, hrun, Sem.run_bind, Sem.run_pure, Result.andThen_ok]
  exact hK _ _ (h _ _ _ _ hs hf hc hb)
set_option maxRecDepth 100000 in
set_option maxHeartbeats 1000000 in
theorem dmark_any (key nonce : List UInt8) (hk : key.length = 32) (hn : nonce.length = 32) (C : List UInt8) (hC : C.length ≤ 900000000) (w : World) (hT : Tabs w) :
    Calls Tryd.prog 36 #[.agg (byts key).toArray, .agg (byts nonce).toArray, .string (bstr C)] w fun e w' => e = .returned (.agg (byts (tagOver key nonce C)).toArray) ∧ Below w.heap.size w w' := by
  obtain ⟨K, hK⟩ : ∃ K, K = byts key := ⟨_, rfl⟩
  have hKl : K.length = 32 := by rw [hK, length_byts]; exact hk
  have hszK := Lib.hid (show (Tryd.prog.info? 25).map (·.size) = some K.length by rw [size_tag, hKl])
  obtain ⟨M, hM⟩ : ∃ M, M = byts nonce := ⟨_, rfl⟩
  have HM := Lib.hid hM
  obtain ⟨V, hV⟩ : ∃ V, V = byts (tagOver key nonce C) := ⟨_, rfl⟩
  have hVl : V.length = 32 := by rw [hV, length_byts]; exact length_tagOver _ _ _
  have hone := Lib.hid (show ∀ v ∈ V, v.oneCell' = true by rw [hV]; exact byts_one _)
  have hszl := Lib.hid (show (Tryd.prog.info? 25).map (·.size) = some V.length by rw [size_tag, hVl])
  have hsz2 := Lib.hid (show (Tryd.prog.info? 25).map (·.size) = some V.toArray.size by rw [size_tag, List.size_toArray, hVl])
  have hfit := Lib.hid (show 0 + V.length ≤ (List.replicate 32 (Value.int .u8 0)).length by rw [hVl, List.length_replicate]; decide)
  have HVr := Lib.hid (show splice (List.replicate 32 (Value.int .u8 0)) 0 V = V by
    unfold splice
    rw [List.take_zero, List.nil_append, Nat.zero_add, hVl, List.drop_of_length_le (by rw [List.length_replicate]; exact Nat.le_refl _), List.append_nil])
  have hkey := Lib.hid (show ∀ w1 B d, Tabs w1 → Sl w1 B d (strsV [nonce, C]) → Calls Tryd.prog 24 #[.agg K.toArray, .string (bstr sealU), .slice B 2 d] w1 fun e w' => e = .returned (.agg V.toArray) ∧ Below w1.heap.size w1 w' by
    rw [hK, hV]
    exact fun w1 B d hT h => dkey_any key hk sealU B 2 d [nonce, C] w1 hT h rfl (by show (4 + 1) + ((nonce.length + 1) + ((C.length + 1) + 0)) ≤ _; rw [hn]; omega))
  have HVD := Lib.hid hV
  have HN := Lib.hid hn
  rw [← hK, ← hM]
  clear hV hVl hK hKl hM hk hn hC
  go_enter Tryd.func36, Tryd.ntmps36
  go_wp2_with fail
  generalize hw3 : World.alloc (World.alloc (World.alloc w _) _) _ = w3
  obtain ⟨r0, r1, r2, hb3, hs3⟩ := rows3 (A := K) (B := M) (C := List.replicate 32 (.int .u8 0)) hw3
  have hT3 := hT.later hb3 (Nat.le_refl _)
  have ne0 : w.heap.size ≠ w.heap.size + 1 + 1 := by omega
  have hcv3 := conv_grown (g := w.heap.size + 1 + 1) (w := w3) (A := some ⟨w.heap.size + 1, 0, none⟩) (c := 32) (l := nonce) ⟨Rd.row (ys := []) (by rw [List.append_nil, ← HM.out]; exact r1), by rw [length_byts, HN.out]; exact Nat.le_refl _, fun h => by cases h⟩ 32 HN.out.symm (fun _ a ha => by cases ha; show w.heap.size + 1 ≠ _; omega)
  clear hw3 hs3 r1
  refine wp_region_noPanic ?_
  refine wp_region_held_drew (S := fun w' => World.grownBy w3 w' (some (w.heap.size + 1 + 1))) (by kernel_rfl) (grown_of_below (Below.refl _ _).drew _) (fun hHeld => ?_)
  have hAll := hHeld
  refine rt 0 7 hHeld ?_ (hy := by intro w hS; exact run_load_op 25 (.tmp 3) rfl _ 0 rfl K _ (row_range (r0.grown hS ne0)) Tryd.underlying25 rfl hszK.out)
  refine rt 1 8 hHeld ?_
  refine rt 2 9 hHeld ?_
  refine rt 3 10 hHeld ?_
  refine rc1 4 fun K hK => ?_
  refine step_alloc (some 11) rfl (by rfl) (.slice (some ⟨w3.heap.size, 0, none⟩) 2 2) (.cells #[.string (bstr nonce), .string (bstr C)] 9) (by go_simp) ?_; intro w5 hw5 hb5; have hb35 := ((Below.refl w3.heap.size w3).drew).trans (hb5.mono (Nat.le_refl _)); have hss : Sl w5 (some ⟨w3.heap.size, 0, none⟩) 2 (strsV [nonce, C]) := (by rw [hw5]; exact ⟨Rd.row (ys := []) (by rw [List.append_nil]; exact Row.new w3.drew 9 (strsV [nonce, C])), by rw [length_strsV]; exact Nat.le_refl _, fun h => by cases h⟩); clear hw5
  refine rk hK (grown_trans hHeld (grown_of_below hb5 _)) fun _ => ?_
  clear hK K
  have hAll := grown_trans hAll (grown_of_below hb5 _)
  refine wpAnyH_narrow (S' := fun w' => World.grownBy w5 w' (some (w.heap.size + 1 + 1))) (fun _ h => grown_trans (grown_trans hHeld (grown_of_below hb5 _)) h) _ _ _ _ ?_
  clear hHeld
  have hHeld : World.grownBy w5 w5 (some (w.heap.size + 1 + 1)) := grown_refl _ _
  refine rc1 5 fun K hK => ?_
  go_simp
  refine (hkey.out _ _ _ (hT3.later hb35 (Nat.le_refl _)) hss).mono ?_; rintro e w6 ⟨rfl, hb6⟩; have hb36 := below_step hb35 hb6
  try go_wp2_with fail
  refine hK.out _ _ (grown_trans hHeld (grown_of_below hb6 _)) (fun _ => ?_)
  clear hK K
  have hAll := grown_trans hAll (grown_of_below hb6 _)
  refine wpAnyH_narrow (S' := fun w' => World.grownBy w6 w' (some (w.heap.size + 1 + 1))) (fun _ h => grown_trans (grown_trans hHeld (grown_of_below hb6 _)) h) _ _ _ _ ?_
  clear hHeld
  have hHeld : World.grownBy w6 w6 (some (w.heap.size + 1 + 1)) := grown_refl _ _
  refine rc1 6 fun K hK => ?_
  refine step_store_row none rfl (by rfl) 25 (.tmp 6) (.tmp 12) rfl (w.heap.size + 1 + 1) 0 25 _ V rfl rfl (r2.later hb36 r2.lt) hfit.out hszl.out hone.out ?_; intro w9 r9 hg9
  refine hK.out _ _ (grown_trans hHeld hg9) (fun _ => ?_)
  clear hK K
  rw [put_none]
  have hAll := grown_trans hAll hg9
  refine wpAnyH_narrow (S' := fun w' => World.grownBy w9 w' (some (w.heap.size + 1 + 1))) (fun _ h => grown_trans (grown_trans hHeld hg9) h) _ _ _ _ ?_
  clear hHeld
  have hHeld : World.grownBy w9 w9 (some (w.heap.size + 1 + 1)) := grown_refl _ _
  refine wpAnyH_done (by kernel_rfl) ?_ _
  refine NoPanic.normal ?_
  have r9 : Row w9 (w.heap.size + 1 + 1) 25 V := by rw [HVr.out] at r9; exact r9
  have hb9 := hb3.grown hAll hb3.size (fun k h => by cases h; omega)
  have R9 := Lib.hid (show w9.heap[w.heap.size + 1 + 1]? = some (.cells V.toArray 25 (0, 0)) from r9)
  clear r9 hg9 r0 r2 hcv3 hss hb5 hb6 hb35 hb36 hb3 hAll hHeld
  go_wp2_with (with_reducible refine bodyPost_ret (results_cell_row rfl _ _ (w.heap.size + 1 + 1) 25 V.toArray (0, 0) (.array 32 5) rfl R9.out Tryd.underlying25 rfl hsz2.out) rfl ?_)
  exact ⟨by rw [HVD.out], hb9⟩
set_option maxRecDepth 100000 in
set_option maxHeartbeats 1000000 in
theorem dturned_any (key nonce : List UInt8) (hk : key.length = 32) (hn : nonce.length = 32) (s : List UInt8) (hm : s.length < 9223372036854775808) (w : World) (hT : Tabs w) :
    Calls Tryd.prog 38 #[.agg (byts key).toArray, .agg (byts nonce).toArray, .string (bstr s)] w fun e w' => e = .returned (.string (bstr (turnL key nonce s))) ∧ Below w.heap.size w w' := by
  obtain ⟨K, hK⟩ : ∃ K, K = byts key := ⟨_, rfl⟩
  have hKl : K.length = 32 := by rw [hK, length_byts]; exact hk
  have hszK := Lib.hid (show (Tryd.prog.info? 25).map (·.size) = some K.toArray.size by rw [size_tag, List.size_toArray, hKl])
  obtain ⟨M, hM⟩ : ∃ M, M = byts nonce := ⟨_, rfl⟩
  have hMl : M.length = 32 := by rw [hM, length_byts]; exact hn
  have hszM := Lib.hid (show (Tryd.prog.info? 25).map (·.size) = some M.toArray.size by rw [size_tag, List.size_toArray, hMl])
  obtain ⟨X, hX⟩ : ∃ X, X = turnL key nonce s := ⟨_, rfl⟩
  have HXl := Lib.hid (show s.length = X.length by rw [hX]; exact (length_turnL _ _ _).symm)
  have htu := Lib.hid (show ∀ (ys : List Value) (g c : Nat) (fr : Nat × Nat) (w1 : World), s.length ≤ fr.1 → Below w.heap.size w w1 → w.heap.size ≤ g → Rowf w1 g 5 fr (byts s ++ ys) → Calls Tryd.prog 52 #[.agg K.toArray, .agg M.toArray, .slice (some ⟨g, 0, none⟩) s.length c] w1 fun e w' => e = .returned (.tuple #[]) ∧ w1.grownBy w' (some g) ∧ Rowf w' g 5 fr (byts X ++ ys) by
    rw [hK, hM, hX]; exact fun ys g c fr w1 hf hb hg hr => dturn_any key nonce hk hn s hm ys g s.length c fr (.inr hf) rfl w w1 hT hb hg hr)
  obtain ⟨r0, r1, hb0, hs2⟩ := two_rows (w := w) (A := K) (B := M) (tA := 25) (tB := 25) rfl
  have HS2 := Lib.hid (show ((w.alloc (.cells K.toArray 25)).alloc (.cells M.toArray 25)).heap.size = w.heap.size + 1 + 1 from hs2)
  rw [← hK, ← hM, ← hX]
  clear hK hKl hM hMl hk hn hX hm hT hs2
  go_enter Tryd.func38, Tryd.ntmps38
  go_wp2_with (first
    | (with_reducible refine wpList_load_row rfl 25 (.tmp 3) rfl w.heap.size rfl 25 K.toArray (0, 0) (.array 32 5) R0.out Tryd.underlying25 rfl hszK.out ?_)
    | (with_reducible refine wpList_load_row rfl 25 (.tmp 4) rfl (w.heap.size + 1) rfl 25 M.toArray (0, 0) (.array 32 5) R1.out Tryd.underlying25 rfl hszM.out ?_)
    | (go_at_call 52; refine (htu.out ys1 _ c1 fr1 _ hf1 hbw1 hg1 rg).mono ?_; rintro e w2 ⟨rfl, hg2, rg2⟩; have hsl : Sl w2 (some ⟨w.heap.size + 1 + 1, 0, none⟩) c1 (byts X) := ⟨Rd.rowf rg2, by rw [length_byts, ← HXl.out]; exact hc1, fun h => by cases h⟩; have hcv := conv_bytes hsl s.length HXl.out; have hbw2 := hbw1.grown hg2 hbw1.size (fun k h => by cases h; omega); clear hsl rg rg2 hg2 hf1 hc1 R0 R1 hbw1 hg1)
    | (refine wpList_conv_row rfl (.tmp 8) rfl s rfl ?_; intro c1 ys1 fr1 w1 rg hf1 hc1 hb1; have R0 := Lib.hid (show w1.heap[w.heap.size]? = some (.cells K.toArray 25 (0, 0)) from r0.later hb1 r0.lt); have R1 := Lib.hid (show w1.heap[w.heap.size + 1]? = some (.cells M.toArray 25 (0, 0)) from r1.later hb1 r1.lt); have hbw1 := hb0.trans (hb1.mono hb0.size); rw [HS2.out] at rg; have hg1 : w.heap.size ≤ w.heap.size + 1 + 1 := (by omega); clear hb1 hb0 r0 r1))
  go_ret
  exact ⟨rfl, hbw2⟩
end Go.Proofs.YtcbilopdeiapjaaDoor
