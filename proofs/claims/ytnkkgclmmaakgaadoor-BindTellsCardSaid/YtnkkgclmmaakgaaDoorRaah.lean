/- Texts of this claim, one behind the other. -/
import Derived.Test.YtnkkgclmmaakgaaDoorRaae
import Derived.Test.YtnkkgclmmaakgaaDoorRaag
import Derived.Test.YtnkkgclmmaakgaaDoorRaab
import Derived.Test.YtnkkgclmmaakgaaDoorRaac
import Derived.Deep.DeepCutAuto
import Derived.Lib.AppendStr
import Derived.Laws.MakeOwn
import Derived.Test.YtnkkgclmmaakgaaDoorRaaa
/- LAYER 4: package hmac's New, Write, Sum. -/
namespace Go.Proofs.YtnkkgclmmaakgaaDoor
set_option maxRecDepth 100000
open Go Go.RowKit

/-- Block g is a mac by the key k to which l was written: two digests beside each other. -/
structure Macd (w : World) (g gi go : Nat) (k l : List UInt8) : Prop where
  row : Row w g 86 [.pointer (some ⟨gi, 0, none⟩), .pointer (some ⟨go, 0, none⟩)]
  din : Dgt w gi (xorL 54 (keyL k) ++ l)
  dout : Dgt w go (xorL 92 (keyL k))
  gi_lt : gi < g
  go_lt : go < g
  ne : gi ≠ go
theorem Macd.lt {w : World} {g gi go : Nat} {k l : List UInt8} (h : Macd w g gi go k l) : g < w.heap.size := h.row.lt
/-- The call gave a mac of its own by the key k to which nothing was written. -/
def GaveMac (k : List UInt8) (w : World) (e : Ending) (w' : World) : Prop :=
  ∃ g gi go, e = .returned (.pointer (some ⟨g, 0, none⟩)) ∧ w.heap.size ≤ gi ∧ w.heap.size ≤ go ∧ Macd w' g gi go k [] ∧ Below w.heap.size w w'
set_option maxRecDepth 100000 in
set_option maxHeartbeats 1000000 in
theorem mnew_any (A : Option Addr) (n c : Nat) (k : List UInt8) (w : World) (hT : Tabs w) (hs : Sl w A c (byts k)) (hn : n = k.length) (hm : k.length ≤ 2305843009213693952) :
    Calls Tryd.prog 38 #[.slice A n c] w (GaveMac k w) := by
  have hKl := length_keyL k
  obtain ⟨V, hVq⟩ : ∃ V, V = byts (keyL k) := ⟨_, rfl⟩
  have hVl : V.length = 64 := by rw [hVq, length_byts, hKl]
  have hone := Lib.hid (all_one (show ∀ v ∈ V, v.oneCell' = true by rw [hVq]; exact byts_one _))
  have hsz := Lib.hid (show (Tryd.prog.info? 81).map (·.size) = some V.toArray.size by rw [size_blk, List.size_toArray, hVl])
  have hszV := Lib.hid (show (Tryd.prog.info? 81).map (·.size) = some V.length by rw [size_blk, hVl])
  have h64 := Lib.hid (show 64 = V.toArray.size by rw [List.size_toArray, hVl])
  have hw := Lib.hid (show Calls Tryd.prog 50 #[.slice A n c] w fun e w' => e = .returned (.agg V.toArray) ∧ Below w.heap.size w w' by rw [hVq]; exact whole_any A n c k w hT hs hn hm)
  have hb54 := Lib.hid (show ∀ w, Tabs w → Calls Tryd.prog 51 #[.agg V.toArray, .int .u8 54] w (GaveDig (xorL 54 (keyL k)) w) by rw [hVq]; exact fun w h => begun_any (keyL k) hKl 54 w h)
  have hb92 := Lib.hid (show ∀ w, Tabs w → Calls Tryd.prog 51 #[.agg V.toArray, .int .u8 92] w (GaveDig (xorL 92 (keyL k)) w) by rw [hVq]; exact fun w h => begun_any (keyL k) hKl 92 w h)
  clear hVq hVl hKl hs hn hm
  go_enter Tryd.func38, Tryd.ntmps38
  go_wp2_with (first
    | (go_at_call 50; refine hw.out.mono ?_; rintro e w1 ⟨rfl, hb1⟩)
    | (with_reducible refine wpList_store_row rfl 81 (.tmp 3) (.tmp 5) rfl w1.heap.size V.toArray rfl rfl 81 _ (heap_alloc_new w1 _) hsz.out (Eq.trans (by kernel_rfl) h64.out) hone.out ?_; refine Hid.out ?_))
  refine Lib.hid ?_
  generalize hw4 : World.setRow _ _ _ = w4
  obtain ⟨r4, hb4⟩ := row_new_set (xs := V) hw4
  have hbB := hb1.trans (hb4.mono hb1.size)
  have hT4 := hT.later hbB (Nat.le_refl _)
  clear hw4 hb4 hb1
  go_wp2_with fail
  refine wp_region_noPanic ?_
  refine wp_region_held_drew (S := fun w' => Below w4.heap.size w4 w') (by kernel_rfl) ((Below.refl _ _).drew) (fun hHeld => ?_)
  have hAll := hHeld
  refine rt 0 6 hHeld ?_ (hy := by intro w hS; exact run_load_op 81 (.tmp 3) rfl w1.heap.size 0 rfl V (.array 64 5) (row_range (r4.later hS r4.lt)) Tryd.underlying81 rfl hszV.out)
  refine rt 2 8 hHeld ?_ (hy := by intro w hS; exact run_load_op 81 (.tmp 3) rfl w1.heap.size 0 rfl V (.array 64 5) (row_range (r4.later hS r4.lt)) Tryd.underlying81 rfl hszV.out)
  refine rc1 1 fun K hK => ?_
  go_simp
  refine (hb54.out _ (hT4.later hHeld (Nat.le_refl _))).mono ?_; rintro e w5 ⟨gi, rfl, hgi, hd5, hb5⟩
  try go_wp2_with fail
  refine hK.out _ _ (below_step hHeld hb5) (fun _ => ?_)
  clear hK K
  try (rw [put_some]; dsimp only [List.set])
  have hAll := below_step hAll hb5
  refine wpAnyH_narrow (S' := fun w' => Below w5.heap.size w5 w') (fun _ h => below_step (below_step hHeld hb5) h) _ _ _ _ ?_
  clear hHeld
  have hHeld : Below w5.heap.size w5 w5 := Below.refl _ _
  refine rc1 3 fun K hK => ?_
  go_simp
  refine (hb92.out _ (hT4.later hAll (Nat.le_refl _))).mono ?_; rintro e w6 ⟨go, rfl, hgo, hd6, hb6⟩
  try go_wp2_with fail
  refine hK.out _ _ (below_step hHeld hb6) (fun _ => ?_)
  clear hK K
  try (rw [put_some]; dsimp only [List.set])
  have hAll := below_step hAll hb6
  refine wpAnyH_narrow (S' := fun w' => Below w6.heap.size w6 w') (fun _ h => below_step (below_step hHeld hb6) h) _ _ _ _ ?_
  clear hHeld
  have hHeld : Below w6.heap.size w6 w6 := Below.refl _ _
  refine rt 4 10 hHeld ?_
  refine rc1 5 fun K hK => ?_
  refine step_alloc (some 11) rfl (by rfl) (.pointer (some ⟨w6.heap.size, 0, none⟩)) (.cells #[.pointer (some ⟨gi, 0, none⟩), .pointer (some ⟨go, 0, none⟩)] 86) (by go_simp) ?_; intro w7 hw7 hb7
  refine hK.out _ _ (below_step hHeld hb7) (fun _ => ?_)
  clear hK K
  try (rw [put_some]; dsimp only [List.set])
  have hAll := below_step hAll hb7
  refine wpAnyH_narrow (S' := fun w' => Below w7.heap.size w7 w') (fun _ h => below_step (below_step hHeld hb7) h) _ _ _ _ ?_
  clear hHeld
  have hHeld : Below w7.heap.size w7 w7 := Below.refl _ _
  refine rt 6 2 hHeld ?_
  refine wpAnyH_done (by kernel_rfl) ?_ _
  refine NoPanic.normal ?_
  subst hw7
  have r7 := Row.new w6 86 [.pointer (some ⟨gi, 0, none⟩), .pointer (some ⟨go, 0, none⟩)]
  have hbC := hbB.trans (hAll.mono hbB.size)
  go_wp2
  go_ret
  have q1 := hd5.lt
  have q2 := hd6.lt
  have q3 := hb6.size
  have q4 := hbB.size
  have q5 := hb5.size
  have q6 : w4.drew.heap.size = w4.heap.size := rfl
  exact ⟨w6.heap.size, gi, go, rfl, by omega, by omega, ⟨r7, by rw [List.append_nil]; exact (hd5.later hb6 hd5.lt).later hb7 (by omega), hd6.later hb7 hd6.lt, by omega, by omega, by omega⟩, hbC⟩
theorem mac_cells {w : World} {g gi go : Nat} {k l : List UInt8} (h : Macd w g gi go k l) : w.cell? ⟨g, 0, none⟩ = some (.pointer (some ⟨gi, 0, none⟩)) ∧ w.cell? ⟨g, 1, none⟩ = some (.pointer (some ⟨go, 0, none⟩)) :=
  ⟨(h.row.cell 0).trans rfl, (h.row.cell 1).trans rfl⟩
theorem mwrite_any (g gi go n : Nat) (k l b : List UInt8) (A : Option Addr) (c : Nat) (w : World) (hT : Cube w) (hd : Macd w g gi go k l) (hs : Sl w A c (byts b)) (hA : 0 < b.length → ∀ a, A = some a → a.block ≠ gi) (hn : n = b.length) (hm : 64 + l.length + b.length ≤ 4611686018427387904) :
    Calls Tryd.prog 39 #[.pointer (some ⟨g, 0, none⟩), .slice A n c] w fun e w' => e = .returned (.tuple #[]) ∧ Macd w' g gi go k (l ++ b) ∧ w.grownBy w' (some gi) := by
  have hw := Lib.hid (show Calls Tryd.prog 52 #[.pointer (some ⟨gi, 0, none⟩), .slice A n c] w fun e w' => e = .returned (.tuple #[]) ∧ Dgt w' gi ((xorL 54 (keyL k) ++ l) ++ b) ∧ w.grownBy w' (some gi) from
    write_at gi n _ b A c w hT hd.din hs hA hn (by rw [List.length_append, length_xorL, length_keyL]; exact hm))
  obtain ⟨c0, c1⟩ := mac_cells hd
  clear c1 hs hA hn hm hT
  go_enter Tryd.func39, Tryd.ntmps39
  go_wp2_with (go_at_call 52; refine hw.out.mono ?_; rintro e w3 ⟨rfl, hd3, hg3⟩)
  go_end0
  have q1 := hd.gi_lt
  exact ⟨rfl, ⟨hd.row.grown hg3 (by omega), by rw [← List.append_assoc]; exact hd3, hd.dout.grown hg3 (Ne.symm hd.ne), hd.gi_lt, hd.go_lt, hd.ne⟩, hg3⟩
set_option maxRecDepth 100000 in
set_option maxHeartbeats 1000000 in
theorem msum_any (g gi go : Nat) (k l : List UInt8) (w : World) (hT : Cube w) (hd : Macd w g gi go k l) (hm : 64 + l.length ≤ 2305843009213693952) :
    Calls Tryd.prog 40 #[.pointer (some ⟨g, 0, none⟩)] w fun e w' => e = .returned (.agg (byts (macL k l)).toArray) ∧ Below w.heap.size w w' := by
  obtain ⟨KI, hKI⟩ : ∃ KI, KI = xorL 54 (keyL k) ++ l := ⟨_, rfl⟩
  obtain ⟨KO, hKO⟩ : ∃ KO, KO = xorL 92 (keyL k) := ⟨_, rfl⟩
  have hKIl : KI.length ≤ 2305843009213693952 := by rw [hKI, List.length_append, length_xorL, length_keyL]; exact hm
  have hKOl : KO.length = 64 := by rw [hKO, length_xorL, length_keyL]
  have hdi := hd.din
  have hdo := hd.dout
  rw [← hKI] at hdi
  rw [← hKO] at hdo
  obtain ⟨c0, c1⟩ := mac_cells hd
  have hgl := hd.lt
  have hil := hdi.lt
  have hol := hdo.lt
  obtain ⟨X, hX⟩ : ∃ X, X = byts (shaL KI) := ⟨_, rfl⟩
  have hXl : X.length = 32 := by rw [hX]; exact store_tag
  have honeX := Lib.hid (all_one (show ∀ v ∈ X, v.oneCell' = true by rw [hX]; exact byts_one _))
  have hszX := Lib.hid (show (Tryd.prog.info? 23).map (·.size) = some X.toArray.size by rw [size_tag, List.size_toArray, hXl])
  have h32 := Lib.hid (show 32 = X.toArray.size by rw [List.size_toArray, hXl])
  obtain ⟨V, hV⟩ : ∃ V, V = byts (macL k l) := ⟨_, rfl⟩
  have hVl : V.length = 32 := by rw [hV]; exact store_tag
  have honeV := Lib.hid (all_one (show ∀ v ∈ V, v.oneCell' = true by rw [hV]; exact byts_one _))
  have hszV := Lib.hid (show (Tryd.prog.info? 23).map (·.size) = some V.toArray.size by rw [size_tag, List.size_toArray, hVl])
  have hszo := Lib.hid (show (List.replicate 32 (Value.int .u8 0)).toArray.size = V.toArray.size by rw [List.size_toArray, List.size_toArray, List.length_replicate, hVl])
  have hsum1 := Lib.hid (show ∀ w, Cube w → Dgt w gi KI → Calls Tryd.prog 53 #[.pointer (some ⟨gi, 0, none⟩)] w fun e w' => e = .returned (.agg X.toArray) ∧ Below w.heap.size w w' by rw [hX]; exact fun w hC hd => sum_any gi KI w hC hd hKIl)
  have hsum2 := Lib.hid (show ∀ g w, Cube w → Dgt w g (KO ++ shaL KI) → Calls Tryd.prog 53 #[.pointer (some ⟨g, 0, none⟩)] w fun e w' => e = .returned (.agg V.toArray) ∧ Below w.heap.size w w' by
    intro g w hC hd
    have := sum_any g (KO ++ shaL KI) w hC hd (by rw [List.length_append, hKOl, length_shaL]; decide)
    rw [hV]; unfold macL; rw [← hKI, ← hKO]; exact this)
  have HX := Lib.hid hX
  have HV := Lib.hid hV
  have HKO := Lib.hid hKOl
  clear hX hXl hV hVl hKI hKO hKIl hKOl hm hd
  have tok1 : True := trivial
  have tok2 : True := trivial
  go_enter Tryd.func40, Tryd.ntmps40
  have hb0 := (Below.refl w.heap.size w).alloc (Nat.le_refl _) (.cells (List.replicate 32 (Value.int .u8 0)).toArray 23)
  go_wp2_with (first
    | (go_at_call 53; have _t := tok1; refine (hsum1.out _ (hT.later hb0 (Nat.le_refl _)) (hdi.later hb0 hil)).mono ?_; rintro e w1 ⟨rfl, hb1⟩; have r0 := (Row.new w 23 (List.replicate 32 (.int .u8 0))).later hb1 (Row.new w 23 (List.replicate 32 (.int .u8 0))).lt; have hbA := hb0.trans (hb1.mono hb0.size); clear tok1 hb1)
    | (with_reducible refine wpList_store_row rfl 23 (.tmp 3) (.tmp 9) rfl w1.heap.size X.toArray rfl rfl 23 _ (heap_alloc_new w1 _) hszX.out (Eq.trans (by kernel_rfl) h32.out) honeX.out ?_; refine Hid.out ?_))
  refine Lib.hid ?_
  generalize hw4 : World.setRow _ _ _ = w4
  obtain ⟨r4, hb4⟩ := row_new_set (xs := X) hw4
  rw [HX.out] at r4
  have r0 := r0.later hb4 r0.lt
  have hbB := hbA.trans (hb4.mono hbA.size)
  have c1' : w4.cell? ⟨g, 1, none⟩ = some (.pointer (some ⟨go, 0, none⟩)) := by rw [hbB.cell (p := ⟨g, 1, none⟩) hgl]; exact c1
  have hne : w.heap.size < w4.heap.size := r0.lt
  have hrl := r4.lt
  clear hw4 hb4 hbA hb0 c0 c1
  go_wp2_with (first
    | (go_at_call 54; refine (clone_any go KO _ (hdo.later hbB hol)).mono ?_; rintro e w5 ⟨g5, rfl, hg5, hd5, hb5⟩; have r4 := r4.later hb5 r4.lt; have r0 := r0.later hb5 r0.lt; have hbC := hbB.trans (hb5.mono hbB.size))
    | (go_at_call 52; refine (write_at g5 32 KO (shaL KI) (some ⟨w1.heap.size, 0, none⟩) 32 _ (hT.later hbC (Nat.le_refl _)) hd5 ⟨Rd.row (ys := []) (by rw [List.append_nil]; exact r4), by rw [store_tag]; exact Nat.le_refl _, fun h => by cases h⟩ (fun _ a ha => by cases ha; show w1.heap.size ≠ g5; omega) rfl (by rw [HKO.out, length_shaL]; decide)).mono ?_; rintro e w6 ⟨rfl, hd6, hg6⟩; have hbD := hbC.grown hg6 hbC.size (fun k h => by cases h; omega); have r0 := r0.grown hg6 (by omega))
    | (go_at_call 53; have _t := tok2; refine (hsum2.out g5 _ (hT.later hbD (Nat.le_refl _)) hd6).mono ?_; rintro e w7 ⟨rfl, hb7⟩; have R0 := Lib.hid (show w7.heap[w.heap.size]? = some (.cells (List.replicate 32 (Value.int .u8 0)).toArray 23 (0, 0)) from r0.later hb7 r0.lt); clear tok2)
    | ((with_reducible refine wpList_store_row rfl 23 (.tmp 2) (.tmp 19) rfl w.heap.size V.toArray rfl rfl 23 _ R0.out hszV.out hszo.out honeV.out ?_); have HG := Lib.hid (setRow_heap w7 w.heap.size _ V.toArray 23 (0, 0) R0.out))
    | (with_reducible refine bodyPost_ret (results_cell_row rfl _ _ w.heap.size 23 V.toArray (0, 0) (.array 32 5) rfl HG.out Tryd.underlying23 rfl hszV.out) rfl ?_))
  exact ⟨by rw [HV.out], below_setRow (hbD.trans (hb7.mono hbD.size)) (Nat.le_refl _) _⟩
end Go.Proofs.YtnkkgclmmaakgaaDoor

/- LAYER 4: package hmac's Of. -/
namespace Go.Proofs.YtnkkgclmmaakgaaDoor
set_option maxRecDepth 100000
open Go Go.RowKit

set_option maxRecDepth 100000 in
set_option maxHeartbeats 1000000 in
theorem mof_any (A : Option Addr) (n c : Nat) (K : List UInt8) (B : Option Addr) (m d : Nat) (ps : List Part) (w : World) (hT : Tabs w) (hs : Sl w A c (byts K)) (hn : n = K.length) (hp : Parts w B d ps) (hmn : m = ps.length)
    (hK : K.length ≤ 2305843009213693952) (hm : 64 + (flat ps).length ≤ 2305843009213693952) (hpl : ps.length ≤ 9223372036854775807) :
    Calls Tryd.prog 27 #[.slice A n c, .slice B m d] w fun e w' => e = .returned (.agg (byts (macL K (flat ps))).toArray) ∧ Below w.heap.size w w' := by
  subst hmn
  have hb0 := (Below.refl w.heap.size w).alloc (Nat.le_refl _) (.cells (List.replicate 32 (Value.int .u8 0)).toArray 23)
  have hnew := Lib.hid (mnew_any A n c K _ (hT.later hb0 (Nat.le_refl _)) (hs.later (Nat.le_refl _) hb0) hn hK)
  have HB0 := Lib.hid hb0
  clear hs hn hK hb0
  go_enter Tryd.func27, Tryd.ntmps27
  go_wp2_with (go_at_call 38; refine hnew.out.mono ?_; rintro e w1 ⟨g, gi, go, rfl, hgi, hgo, hd1, hb1⟩; have hbA : Below w.heap.size w w1 := HB0.out.trans (hb1.mono HB0.out.size); have r0 := (Row.new w 23 (List.replicate 32 (.int .u8 0))).later hb1 (Row.new w 23 (List.replicate 32 (.int .u8 0))).lt; rw [World.size_alloc] at hgi hgo; clear hb1 hnew)
  go_loopw [12] (fun i wr => ∃ k : Nat, k ≤ ps.length ∧ i = .int .i64 k ∧ Macd wr g gi go K (flat (ps.take k)) ∧ Row wr w.heap.size 23 (List.replicate 32 (.int .u8 0)) ∧ Below w.heap.size w wr) (fun i _ => ps.length - (intOf i).toNat)
  case atStart => exact ⟨0, by omega, rfl, hd1, r0, hbA⟩
  case round =>
    clear hd1 r0 hbA
    obtain ⟨k, hk, rfl, hd, r0, hb⟩ := hrel
    by_cases hlt : k < ps.length
    · obtain ⟨b, o, hA, _, _⟩ := hp.sl.rd.get (i := 0) (by rw [List.length_map]; omega)
      have hix := index_parts B b o ps.length d k hA hlt
      have hps := hp.later (Nat.le_refl _) hb
      rw [hA] at hps
      have hck := hps.get k hlt
      have hsk := hps.each ps[k] (List.getElem_mem hlt)
      have hsw := hp.each ps[k] (List.getElem_mem hlt)
      have HF := Lib.hid (flat_succ ps k hlt)
      have hfl := flat_le ps (k + 1)
      rw [HF.out, List.length_append] at hfl
      unfold partV at hck
      obtain ⟨⟨Ak, ck, lk⟩, hpk⟩ : ∃ p, p = ps[k] := ⟨_, rfl⟩
      rw [← hpk] at hck hsk hsw HF hfl
      dsimp only at hck hsk hsw HF hfl
      have hml : 64 + (flat (ps.take k)).length + lk.length ≤ 4611686018427387904 := by omega
      have HA := Lib.hid hA
      clear hpk hps hfl hA
      go_wp2_with (go_at_call 39; refine (mwrite_any g gi go lk.length K (flat (ps.take k)) lk Ak ck _ (hT.cu.later hb (Nat.le_refl _)) hd hsk (fun h a ha => by have := hsw.block_lt (by rw [length_byts]; exact h) ha; omega) rfl hml).mono ?_; rintro e w3 ⟨rfl, hd3, hg3⟩)
      have hb3 := hb.grown hg3 hb.size (fun k h => by cases h; omega)
      have r3 := r0.grown hg3 (by omega)
      clear hd hb r0 hg3 hck hsk hsw hix
      go_roundw
      case rel => exact ⟨k + 1, by omega, by go_num, by rw [HF.out]; exact hd3, r3, hb3⟩
      case measure => simp [intOf]; omega
    · rw [flat_all ps k (by omega)] at hd
      have hC := hT.cu.later hb (Nat.le_refl _)
      obtain ⟨V, hVq⟩ : ∃ V, V = byts (macL K (flat ps)) := ⟨_, rfl⟩
      have hsum := Lib.hid (show Calls Tryd.prog 40 #[.pointer (some ⟨g, 0, none⟩)] wr fun e w' => e = .returned (.agg V.toArray) ∧ Below wr.heap.size wr w' by rw [hVq]; exact msum_any g gi go K (flat ps) wr hC hd hm)
      have hVl : V.length = 32 := by rw [hVq]; exact store_tag
      have hone := Lib.hid (all_one (show ∀ v ∈ V, v.oneCell' = true by rw [hVq]; exact byts_one _))
      have hsz := Lib.hid (show (Tryd.prog.info? 23).map (·.size) = some V.toArray.size by rw [size_tag, List.size_toArray, hVl])
      have hszo := Lib.hid (show (List.replicate 32 (Value.int .u8 0)).toArray.size = V.toArray.size by rw [List.size_toArray, List.size_toArray, List.length_replicate, hVl])
      have HV := Lib.hid hVq
      clear hVq hVl hC hd
      go_wp2_with (first
        | (go_at_call 40; refine hsum.out.mono ?_; rintro e w3 ⟨rfl, hb3⟩; have R0 := Lib.hid (show w3.heap[w.heap.size]? = some (.cells (List.replicate 32 (Value.int .u8 0)).toArray 23 (0, 0)) from r0.later hb3 r0.lt))
        | ((with_reducible refine wpList_store_row rfl 23 (.tmp 4) (.tmp 21) rfl w.heap.size V.toArray rfl rfl 23 _ R0.out hsz.out hszo.out hone.out ?_); have HG := Lib.hid (setRow_heap w3 w.heap.size _ V.toArray 23 (0, 0) R0.out))
        | (with_reducible refine bodyPost_ret (results_cell_row rfl _ _ w.heap.size 23 V.toArray (0, 0) (.array 32 5) rfl HG.out Tryd.underlying23 rfl hsz.out) rfl ?_))
      exact ⟨by rw [HV.out], below_setRow (hb.trans (hb3.mono hb.size)) (Nat.le_refl _) _⟩
end Go.Proofs.YtnkkgclmmaakgaaDoor

/- LAYER 6: package derive's Key. -/
namespace Go.Proofs.YtnkkgclmmaakgaaDoor
set_option maxRecDepth 100000
open Go Go.RowKit

theorem parts_pair {w : World} {A B : Option Addr} {c d : Nat} {l k : List UInt8} (h : Sl w A c (byts l)) (g : Sl w B d (byts k)) :
    Parts (w.alloc (.cells #[.slice A l.length c, .slice B k.length d] 53)) (some ⟨w.heap.size, 0, none⟩) 2 [(A, c, l), (B, d, k)] := by
  have r := Row.new w 53 [.slice A l.length c, .slice B k.length d]
  have hb := (Below.refl w.heap.size w).alloc (Nat.le_refl _) (.cells #[.slice A l.length c, .slice B k.length d] 53)
  refine ⟨⟨Rd.row (ys := []) (by rw [List.append_nil]; exact r), by simp, fun h => by cases h⟩, fun p hp => ?_⟩
  simp only [List.mem_cons, List.not_mem_nil, or_false] at hp
  rcases hp with rfl | rfl
  · exact h.later (Nat.le_refl _) hb
  · exact g.later (Nat.le_refl _) hb
set_option maxRecDepth 100000 in
set_option maxHeartbeats 1000000 in
theorem dkey_any (key : List UInt8) (hk : key.length = 32) (use : List UInt8) (A : Option Addr) (n c : Nat) (ss : List (List UInt8)) (w : World) (hT : Tabs w) (hs : Sl w A c (strsV ss)) (hn : n = ss.length) (hm : sumS (use :: ss) ≤ 1000000000) :
    Calls Tryd.prog 20 #[.agg (byts key).toArray, .string (bstr use), .slice A n c] w fun e w' => e = .returned (.agg (byts (keyD key use ss)).toArray) ∧ Below w.heap.size w w' := by
  subst hn
  have hFl := length_frameL (use :: ss)
  have hm1 : sumS [use] ≤ 1000000000 := by have := sumS_le (use :: ss) 1; rw [show (use :: ss).take 1 = [use] from rfl] at this; omega
  have hm2 : sumS ss ≤ 1000000000 := by have h2 : sumS (use :: ss) = use.length + 1 + sumS ss := rfl; omega
  obtain ⟨K, hK⟩ : ∃ K, K = byts key := ⟨_, rfl⟩
  have HK := Lib.hid hK
  have hKl : K.length = 32 := by rw [hK, length_byts]; exact hk
  obtain ⟨V, hV⟩ : ∃ V, V = byts (keyD key use ss) := ⟨_, rfl⟩
  have hVl : V.length = 32 := by rw [hV, length_byts]; exact length_keyD _ _ _
  have hone := Lib.hid (show ∀ v ∈ V, v.oneCell' = true by rw [hV]; exact byts_one _)
  have hszl := Lib.hid (show (Tryd.prog.info? 23).map (·.size) = some V.length by rw [size_tag, hVl])
  have hsz2 := Lib.hid (show (Tryd.prog.info? 23).map (·.size) = some V.toArray.size by rw [size_tag, List.size_toArray, hVl])
  have hfit := Lib.hid (show 0 + V.length ≤ (List.replicate 32 (Value.int .u8 0)).length by rw [hVl, List.length_replicate]; decide)
  have HVr := Lib.hid (show splice (List.replicate 32 (Value.int .u8 0)) 0 V = V by
    unfold splice
    rw [List.take_zero, List.nil_append, Nat.zero_add, hVl, List.drop_of_length_le (by rw [List.length_replicate]; exact Nat.le_refl _), List.append_nil])
  have hkl := Lib.hid hk
  obtain ⟨F1, hF1⟩ : ∃ F, F = frameL [use] := ⟨_, rfl⟩
  obtain ⟨F2, hF2⟩ : ∃ F, F = frameL ss := ⟨_, rfl⟩
  have hF12 := Lib.hid (show ∀ (A4 A5 : Option Addr) (c4 c5 : Nat), flat [(A4, c4, F1), (A5, c5, F2)] = frameL (use :: ss) by
    intros
    rw [hF1, hF2, show use :: ss = [use] ++ ss from rfl, frameL_append]
    simp [flat])
  have hFm := Lib.hid (show ∀ (A4 A5 : Option Addr) (c4 c5 : Nat), 64 + (flat [(A4, c4, F1), (A5, c5, F2)]).length ≤ 2305843009213693952 by
    intros
    rw [hF12.out _ _ _ _]; omega)
  have hf1 := Lib.hid (show ∀ w1 B d, Sl w1 B d (strsV [use]) → Calls Tryd.prog 28 #[.slice B 1 d] w1 (GaveBytes F1 w1) by
    rw [hF1]
    exact fun w1 B d h => dframe_any B 1 d [use] w1 h rfl hm1)
  have hf2 := Lib.hid (show ∀ w1, Sl w1 A c (strsV ss) → Calls Tryd.prog 28 #[.slice A ss.length c] w1 (GaveBytes F2 w1) by
    rw [hF2]
    exact fun w1 h => dframe_any A ss.length c ss w1 h rfl hm2)
  have HV := Lib.hid (show V = byts (macL key (frameL (use :: ss))) by rw [hV]; rfl)
  have HVD := Lib.hid hV
  rw [← hK]
  clear hV hVl hK hF1 hF2 hFl hk
  go_enter Tryd.func20, Tryd.ntmps20
  go_wp2_with fail
  generalize hw2 : World.alloc (World.alloc w _) _ = w2
  obtain ⟨r0, r1, hb2, _hs2⟩ := two_rows (A := K) (B := List.replicate 32 (.int .u8 0)) hw2
  clear hw2 _hs2
  have hsl2 := hs.later (Nat.le_refl _) hb2
  have hT2 := hT.later hb2 (Nat.le_refl _)
  have hslK : Sl w2 (some ⟨w.heap.size, 0, none⟩) 32 (byts key) := ⟨Rd.row (ys := []) (by rw [List.append_nil, ← HK.out]; exact r0), by rw [length_byts, hkl.out]; exact Nat.le_refl _, fun h => by cases h⟩
  clear r0 hs
  refine wp_region_noPanic ?_
  refine wp_region_held_drew (S := fun _ => True) (by kernel_rfl) (trivial) (fun hHeld => ?_)
  refine rt 0 7 hHeld ?_
  refine rt 1 8 hHeld ?_
  refine rt 4 11 hHeld ?_
  refine rc1 2 fun K hK => ?_
  refine step_alloc (some 9) rfl (by rfl) (.slice (some ⟨w2.heap.size, 0, none⟩) 1 1) (.cells #[.string (bstr use)] 9) (by go_simp) ?_; intro w3 hw3 hb3; have hsu : Sl w3 (some ⟨w2.heap.size, 0, none⟩) 1 (strsV [use]) := (by rw [hw3]; exact ⟨Rd.row (ys := []) (by rw [List.append_nil]; exact Row.new w2.drew 9 (strsV [use])), by rw [length_strsV]; exact Nat.le_refl _, fun h => by cases h⟩); have hb23 : Below w2.heap.size w2 w3 := (Below.refl w2.heap.size w2).drew.trans hb3; clear hw3
  refine rk hK (trivial) fun hHeld => ?_
  clear hK K
  refine rc1 3 fun K hK => ?_
  go_simp
  refine (hf1.out _ _ _ hsu).mono ?_; rintro e w4 ⟨v4, rfl, hown4, hb4⟩; obtain ⟨A4, c4, rfl, _, hsl4⟩ := Sl.of_own hown4; have hb24 := below_step hb23 hb4; clear hown4
  try go_wp2_with fail
  refine hK.out _ _ (trivial) (fun hHeld => ?_)
  clear hK K
  refine rc1 5 fun K hK => ?_
  go_simp
  refine (hf2.out _ (hsl2.later (Nat.le_refl _) hb24)).mono ?_; rintro e w5 ⟨v5, rfl, hown5, hb5⟩; obtain ⟨A5, c5, rfl, _, hsl5⟩ := Sl.of_own hown5; have hb25 := below_step hb24 hb5; clear hown5
  try go_wp2_with fail
  refine hK.out _ _ (trivial) (fun hHeld => ?_)
  clear hK K
  refine rc1 6 fun K hK => ?_
  refine step_alloc (some 13) rfl (by rfl) (.slice (some ⟨w5.heap.size, 0, none⟩) 2 2) (.cells #[.slice A4 F1.length c4, .slice A5 F2.length c5] 53) (by go_simp) ?_; intro w6 hw6 hb6; have hpt : Parts w6 (some ⟨w5.heap.size, 0, none⟩) 2 [(A4, c4, F1), (A5, c5, F2)] := (by rw [hw6]; exact parts_pair (hsl4.later (Nat.le_refl _) hb5) hsl5); have hb26 := below_step hb25 hb6; clear hw6
  refine rk hK (trivial) fun hHeld => ?_
  clear hK K
  refine rc1 7 fun K hK => ?_
  go_simp
  refine (mof_any (some ⟨w.heap.size, 0, none⟩) 32 32 key (some ⟨w5.heap.size, 0, none⟩) 2 2 [(A4, c4, F1), (A5, c5, F2)] _ (hT2.later hb26 (Nat.le_refl _)) (hslK.later (Nat.le_refl _) hb26) hkl.out.symm hpt rfl (by rw [hkl.out]; decide) (hFm.out _ _ _ _) (by simp)).mono ?_; rintro e w7 ⟨rfl, hb7⟩; have hb27 := below_step hb26 hb7; rw [hF12.out _ _ _ _, ← HV.out]
  try go_wp2_with fail
  refine hK.out _ _ (trivial) (fun hHeld => ?_)
  clear hK K
  refine rc1 8 fun K hK => ?_
  refine step_store_row none rfl (by rfl) 23 (.tmp 6) (.tmp 14) rfl (w.heap.size + 1) 0 23 _ V rfl rfl (r1.later hb27 r1.lt) hfit.out hszl.out hone.out ?_; intro w9 r9 hg9
  refine hK.out _ _ (trivial) (fun _ => ?_)
  clear hK K
  rw [put_none]
  refine wpAnyH_done (by kernel_rfl) ?_ _
  refine NoPanic.normal ?_
  have r9 : Row w9 (w.heap.size + 1) 23 V := by rw [HVr.out] at r9; exact r9
  have hb9 := (hb2.trans (hb27.mono hb2.size)).grown hg9 (Nat.le_trans hb2.size hb27.size) (fun k h => by cases h; omega)
  have R9 := Lib.hid (show w9.heap[w.heap.size + 1]? = some (.cells V.toArray 23 (0, 0)) from r9)
  clear r9 hg9 r1 hslK hsl2 hsu hsl4 hsl5 hpt hb3 hb4 hb5 hb6 hb7 hb23 hb24 hb25 hb26 hb27 hb2
  go_wp2_with (with_reducible refine bodyPost_ret (results_cell_row rfl _ _ (w.heap.size + 1) 23 V.toArray (0, 0) (.array 32 5) rfl R9.out Tryd.underlying23 rfl hsz2.out) rfl ?_)
  exact ⟨by rw [HVD.out], hb9⟩
end Go.Proofs.YtnkkgclmmaakgaaDoor

/- LAYER 21: package bind: Tag. -/
namespace Go.Proofs.YtnkkgclmmaakgaaDoor
set_option maxRecDepth 100000
open Go Go.RowKit

set_option maxHeartbeats 4000000 in
theorem btag_T (key : List UInt8) (hk : key.length = 32) (en : List UInt8) (hen : en.length = 32) (w : World) (hT : Tabs w) :
    Calls Tryd.prog 11 #[.agg (byts key).toArray, .agg (byts en).toArray] w fun e w' => e = .returned (.agg (byts (bindG key en)).toArray) ∧ Below w.heap.size w w' := by
  have hKl := tag_fit key hk
  have hkz := Lib.hid (show (Tryd.prog.info? 23).map (·.size) = some (byts key).length by rw [size_tag, hKl])
  obtain ⟨V, hV⟩ : ∃ V, V = byts (bindG key en) := ⟨_, rfl⟩
  have hVl : V.length = 32 := by rw [hV]; exact tag_fit _ (length_keyD _ _ _)
  have hone := Lib.hid (show ∀ v ∈ V, v.oneCell' = true by rw [hV]; exact byts_one _)
  have hszl := Lib.hid (show (Tryd.prog.info? 23).map (·.size) = some V.length by rw [size_tag, hVl])
  have hsz2 := Lib.hid (show (Tryd.prog.info? 23).map (·.size) = some V.toArray.size by rw [size_tag, List.size_toArray, hVl])
  have hfit := Lib.hid (show 0 + V.length ≤ (List.replicate 32 (Value.int .u8 0)).length by rw [hVl, List.length_replicate]; decide)
  have HVr := Lib.hid (show splice (List.replicate 32 (Value.int .u8 0)) 0 V = V by
    unfold splice
    rw [List.take_zero, List.nil_append, Nat.zero_add, hVl, List.drop_eq_nil_of_le (by simp), List.append_nil])
  have HV := Lib.hid hV
  have he := Lib.hid hen
  clear hV hVl hKl hen
  go_enter Tryd.func11, Tryd.ntmps11
  go_upto_region 1 with fail
  generalize hw1 : World.alloc (World.alloc (World.alloc _ _) _) _ = w1
  obtain ⟨r1, r2, r3, hb1, -⟩ := rows3 (C := List.replicate 32 (Value.int .u8 0)) hw1
  clear hw1
  refine wp_region_noPanic ?_
  refine wp_region_held_drew (S := fun w' => Row w' w.heap.size 23 (byts key) ∧ Row w' (w.heap.size + 1) 23 (byts en)) (by kernel_rfl) (⟨r1.later ((Below.refl _ _).drew) r1.lt, r2.later ((Below.refl _ _).drew) r2.lt⟩) (fun hHeld => ?_)
  have hB : Below w1.heap.size w1 w1.drew := (Below.refl _ _).drew
  refine rt 0 5 hHeld ?_ (hy := by intro w hS; exact run_load_op 23 (.tmp 2) rfl _ 0 rfl (byts key) _ (row_range hS.1) Tryd.underlying23 rfl hkz.out)
  refine rt 1 6 hHeld ?_
  refine rt 2 7 hHeld ?_ (hy := by intro w hS; have hcv := conv_bytes (sl_arr21 hS.2 he.out) 32 he.out.symm; go_simp; try with_reducible rfl)
  refine rc1 3 fun K hK => ?_
  refine step_strs (some 8) rfl (by rfl) _ [en] (by have hss := slice_strs1 en w1.drew; go_simp; rfl) rfl ?_; intro ww13 s3 hqw13
  refine rk hK ⟨hHeld.1.later hqw13 hHeld.1.lt, hHeld.2.later hqw13 hHeld.2.lt⟩ fun hHeld => ?_
  clear hK K
  have hB := below_step hB hqw13
  have hB3 : Below ww13.heap.size ww13 ww13 := Below.refl _ _
  refine rc1 4 fun K hK => ?_
  go_simp
  refine (dkey_any key hk bindU _ 1 1 [en] _ (hT.later (hb1.trans (hB.mono hb1.size)) (Nat.le_refl _)) s3 rfl (by show (4 + 1) + ((en.length + 1) + 0) ≤ _; rw [he.out]; decide)).mono ?_; rintro e ww14 ⟨rfl, hqw14⟩; rw [show keyD key bindU [en] = bindG key en from rfl, ← HV.out]
  try go_wp2_with fail
  refine hK.out _ _ ⟨hHeld.1.later hqw14 hHeld.1.lt, hHeld.2.later hqw14 hHeld.2.lt⟩ (fun hHeld => ?_)
  clear hK K
  have hB := below_step hB hqw14
  have hB3 := below_step hB3 hqw14
  have hB4 : Below ww14.heap.size ww14 ww14 := Below.refl _ _
  refine rc1 5 fun K hK => ?_
  refine step_store_row none rfl (by rfl) 23 (.tmp 4) (.tmp 9) rfl _ 0 23 _ V rfl rfl (r3.later hB r3.lt) hfit.out hszl.out hone.out ?_; intro wf rf hgf; have hBz := hB
  refine hK.out _ _ ⟨hHeld.1.grown hgf (by omega), hHeld.2.grown hgf (by omega)⟩ (fun hHeld => ?_)
  clear hK K
  rw [put_none]
  refine wpAnyH_done (by kernel_rfl) ?_ _
  refine NoPanic.normal ?_
  have r9 : Row wf (w.heap.size + 1 + 1) 23 V := by rw [HVr.out] at rf; exact rf
  have hb9 := (hb1.trans (hBz.mono hb1.size)).grown hgf (Nat.le_trans hb1.size hBz.size) (fun k h => by cases h; omega)
  have R9 := Lib.hid (show wf.heap[(w.heap.size + 1 + 1 : Nat)]? = some (.cells V.toArray 23 (0, 0)) from r9)
  clear r9 hgf rf hBz hHeld hb1
  go_wp2_with (with_reducible refine bodyPost_ret (results_cell_row rfl _ _ (w.heap.size + 1 + 1) 23 V.toArray (0, 0) (.array 32 5) rfl R9.out Tryd.underlying23 rfl hsz2.out) rfl ?_)
  exact ⟨by rw [HV.out], hb9⟩
end Go.Proofs.YtnkkgclmmaakgaaDoor

/- LAYER 21: package bind: Bind, Fits. -/
namespace Go.Proofs.YtnkkgclmmaakgaaDoor
set_option maxRecDepth 100000
open Go Go.RowKit

set_option maxHeartbeats 8000000 in
theorem bbind_T (root : List UInt8) (hk : root.length = 32) (t : Tok) (ht : t.Ok) (hm : t.cavs.length ≤ 1000000) (A : Option Addr) (c : Nat) (w : World) (hT : Tabs w) (hs : Sl w A (c * 5) (t.cavs.flatMap cavV)) :
    Calls Tryd.prog 8 #[.agg (byts root).toArray, .agg (tokV t A c).toArray] w (GaveTok (bindT root t) (errBind t) w) := by
  obtain ⟨Z, hZ⟩ : ∃ Z, Z = tokV zeroK none 0 := ⟨_, rfl⟩
  have hZl : Z.length = 36 := by rw [hZ]; exact length_tokV zeroK_ok none 0
  have hZe := Lib.hid (hZ.trans ztok)
  have hzZ := Lib.hid (show (Tryd.prog.info? 27).map (·.size) = some Z.toArray.size by rw [List.size_toArray, hZl]; exact size_tok)
  have hZ1 := Lib.hid (show Z.toArray.all (·.oneCell') = true by rw [hZ, List.all_toArray, List.all_eq_true]; exact tokV_one _ _ _)
  obtain ⟨X, hX⟩ : ∃ X, X = tokV t A c := ⟨_, rfl⟩
  have hXl : X.length = 36 := by rw [hX]; exact length_tokV ht A c
  have hzX := Lib.hid (show (Tryd.prog.info? 27).map (·.size) = some X.length by rw [hXl]; exact size_tok)
  have hzX2 := Lib.hid (show (Tryd.prog.info? 27).map (·.size) = some X.toArray.size by rw [List.size_toArray, hXl]; exact size_tok)
  have hkz := Lib.hid (show (Tryd.prog.info? 23).map (·.size) = some (byts root).toArray.size by rw [List.size_toArray, size_tag, tag_fit _ hk])
  have htz := Lib.hid (show (Tryd.prog.info? 23).map (·.size) = some (byts t.tag).length by rw [size_tag, tag_fit _ ht.tag])
  obtain ⟨w1, hw1⟩ : ∃ w1, w1 = ((w.alloc (.cells (byts root).toArray 23)).alloc (.cells X.toArray 27)).alloc (.cells Z.toArray 27) := ⟨_, rfl⟩
  obtain ⟨r1, r2, r3, hb1, -⟩ := rows3 hw1.symm
  have HW := Lib.hid (hw1.trans (by rw [hZe.out]))
  have ts := hs.later (Nat.le_refl _) hb1
  have hc3 : w1.cell? ⟨w.heap.size + 1, 3, none⟩ = some (.bool t.bound) := by rw [r2.cell, hX]; rfl
  have HZ := Lib.hid hZ
  have HX := Lib.hid hX
  have hE : errBind t = if t.bound = true then 6 else 0 := rfl
  have hG : bindT root t = if t.bound = true then zeroK else boundT root t := rfl
  have tok1 : True := trivial
  rw [← hX]
  clear hw1 hZ hX hs
  have Q3 := Lib.hid (show w1.heap[w.heap.size + 1 + 1]? = some (.cells Z.toArray 27 (0, 0)) from r3)
  cases hbd : t.bound with
  | true =>
    rw [hbd] at hc3 hE hG
    have e1 : errBind t = 6 := hE.trans (if_pos rfl)
    have e2 : bindT root t = zeroK := hG.trans (if_pos rfl)
    rw [e1, e2]
    clear r1 r2 r3 ts hXl hZl hE hG e1 e2
    go_enter Tryd.func8, Tryd.ntmps8
    go_wp2_with (first
      | (have _t := tok1; rw [← HW.out]; clear tok1)
      | (have _t := Q3; refine wpList_store_row rfl 27 (.tmp 4) (.tmp 9) rfl (w.heap.size + 1 + 1) Z.toArray rfl (by rw [hZe.out]; rfl) 27 Z.toArray Q3.out hzZ.out rfl hZ1.out ?_; refine Hid.out ?_))
    refine Lib.hid ?_
    generalize hw8 : World.setRow _ _ _ = w8
    obtain ⟨r8, hg8⟩ := row_set (show Row w1 (w.heap.size + 1 + 1) 27 Z from Q3.out) hw8
    have hb8 := hb1.grown hg8 hb1.size (fun k h => by cases h; omega)
    have R8 := Lib.hid (show w8.heap[w.heap.size + 1 + 1]? = some (.cells Z.toArray 27 (0, 0)) from r8)
    clear hw8 r8 Q3
    go_wp2_with fail
    exact ⟨rfl, _, results_row_tmp rfl _ _ (w.heap.size + 1 + 1) 27 Z.toArray (0, 0) _ rfl R8.out Tryd.underlying27 rfl hzZ.out _ rfl, none, 0, by rw [HZ.out]; rfl, sl_zeroK _, (fun a h => by cases h), hb8⟩
  | false =>
    rw [hbd] at hc3 hE hG
    have e1 : errBind t = 0 := hE.trans (if_neg (by decide))
    have e2 : bindT root t = boundT root t := hG.trans (if_neg (by decide))
    rw [e1, e2]
    have RL := Lib.hid r3.lt
    have hcl := Lib.hid (fun w' h => pclone_fresh t ht hm A c w' h)
    rw [← HX.out] at hcl
    have htg := Lib.hid (fun w' h => btag_T root hk t.tag ht.tag w' h)
    have HBD := Lib.hid hbd
    have R2 := Lib.hid (show w1.heap[w.heap.size + 1]? = some (.cells X.toArray 27 (0, 0)) from r2)
    have hdo := boundT_ok root ht
    have hto : ({ t with bound := true } : Tok).Ok := { ht with }
    have HOk := Lib.hid ht
    clear hE hG e1 e2 hbd ht hm hk hXl
    go_enter Tryd.func8, Tryd.ntmps8
    go_upto_region 4 with (first
      | (have _t := tok1; rw [← HW.out]; clear tok1)
      | (with_reducible refine wpList_load_row rfl 27 (.tmp 3) rfl (w.heap.size + 1) rfl 27 X.toArray (0, 0) _ R2.out Tryd.underlying27 rfl hzX2.out ?_)
      | (go_at_call 19; refine (hcl.out _ ts).mono ?_; rintro e w2 ⟨B, d, rfl, s2, hfr, hq⟩; have r1 := r1.later hq r1.lt; have r2 := r2.later hq r2.lt; have r3 := r3.later hq r3.lt; have hb2 := hb1.trans (hq.mono hb1.size); have H12 := Lib.hid hq.size; have hYl := length_tokV HOk.out B d; have hoY := tokV_one t B d; obtain ⟨Y, hY⟩ : ∃ V, V = tokV t B d := ⟨_, rfl⟩; rw [← hY] at hYl hoY ⊢; have HY := Lib.hid hY; have hzY := Lib.hid (show (Tryd.prog.info? 27).map (·.size) = some Y.toArray.size by rw [List.size_toArray, hYl]; exact size_tok); have h36 := Lib.hid (show 36 = Y.toArray.size by rw [List.size_toArray, hYl]); have hY1 := Lib.hid (all_one hoY); have hfr := Lib.hid hfr; clear hq hY hYl hoY)
      | (have _t := h36; refine wpList_store_row rfl 27 (.tmp 6) (.tmp 11) rfl w2.heap.size Y.toArray rfl rfl 27 _ (heap_alloc_new w2 _) hzY.out (Eq.trans (by kernel_rfl) h36.out) hY1.out ?_))
    generalize hw3 : World.setRow _ _ _ = w3
    obtain ⟨r6, hq⟩ := row_new_set (xs := Y) hw3
    have r1 := r1.later hq r1.lt
    have r2 := r2.later hq r2.lt
    have r3 := r3.later hq r3.lt
    have s3 := s2.later (Nat.le_refl _) hq
    have hb3 := hb2.trans (hq.mono hb2.size)
    have hG6 : w.heap.size + 1 + 1 < w2.heap.size := by have := RL.out; have := H12.out; omega
    have hfa := Lib.hid (fun a (ha : B = some a) => (show w1.heap.size ≤ a.block from hfr.out a ha))
    have hne := Lib.hid (fun (hx : 0 < (t.cavs.flatMap cavV).length) a (ha : B = some a) => (show a.block < w2.heap.size from s2.block_lt hx ha))
    rw [HY.out] at r6
    generalize w2.heap.size = g6 at *
    have hc3 : w3.cell? ⟨g6, 3, none⟩ = some (.bool false) := by rw [r6.cell]; exact congrArg (fun b => some (Value.bool b)) HBD.out
    have hff := r6.free 3
    clear hw3 hq hzY h36 hY1 s2
    go_upto_region 5 with fail
    generalize hw4 : World.setCell _ _ _ = w4
    have hg4 : w3.grownBy w4 (some g6) := by rw [← hw4]; exact grown_setCell _ _ _ _
    have r6 : Row w4 g6 27 (tokV { t with bound := true } B d) := by
      have h := r6.set 3 (.bool true)
      rw [hw4] at h; exact h
    have r1 := r1.grown hg4 (by omega)
    have r2 := r2.grown hg4 (by omega)
    have r3 := r3.grown hg4 (by omega)
    have s4 := s3.apart hg4 (fun hx a ha => by have := hne.out hx a ha; omega)
    have hb4 := hb3.grown hg4 hb3.size (fun k h => by cases h; omega)
    have R1 := Lib.hid (show w4.heap[w.heap.size]? = some (.cells (byts root).toArray 23 (0, 0)) from r1)
    have KT := Lib.hid (tok_tag_range (HX.out ▸ r2))
    obtain ⟨V, hV⟩ : ∃ V, V = tokV (boundT root t) B d := ⟨_, rfl⟩
    have hVl : V.length = 36 := by rw [hV]; exact length_tokV hdo B d
    have hzV := Lib.hid (show (Tryd.prog.info? 27).map (·.size) = some V.toArray.size by rw [List.size_toArray, hVl]; exact size_tok)
    have hV1 := Lib.hid (show V.toArray.all (·.oneCell') = true by rw [hV, List.all_toArray, List.all_eq_true]; exact tokV_one _ _ _)
    have hVZ := Lib.hid (show Z.toArray.size = V.toArray.size by rw [List.size_toArray, List.size_toArray, hVl, hZl])
    have hgz := Lib.hid (show (Tryd.prog.info? 23).map (·.size) = some (byts (bindG root t.tag)).length by rw [size_tag, tag_fit _ (length_bindG _ _)])
    have hoG := Lib.hid (byts_one (bindG root t.tag))
    have hput := Lib.hid (show splice (tokV { t with bound := true } B d) 4 (byts (bindG root t.tag)) = V by rw [hV]; exact tok_put_tag { t with bound := true } B d _ hto (length_bindG _ _))
    have hfit := Lib.hid (show 4 + (byts (bindG root t.tag)).length ≤ (tokV { t with bound := true } B d).length by rw [tag_fit _ (length_bindG root t.tag), length_tokV hto B d]; exact Nat.le_refl _)
    have HV := Lib.hid hV
    clear hto hV hVl hZl r1 r2 hdo hw4 hg4
    generalize tokV { t with bound := true } B d = Y2 at *
    generalize bindG root t.tag = G at *
    go_upto_region 6 with (first
      | (with_reducible refine wpList_load_row rfl 23 (.tmp 2) rfl w.heap.size rfl 23 (byts root).toArray (0, 0) _ R1.out Tryd.underlying23 rfl hkz.out ?_)
      | (with_reducible refine wpList_load_mid rfl 23 (.tmp 14) rfl (w.heap.size + 1) 4 rfl (byts t.tag) _ KT.out Tryd.underlying23 rfl htz.out ?_)
      | (go_at_call 11; refine (htg.out _ (hT.later hb4 (Nat.le_refl _))).mono ?_; rintro e w5 ⟨rfl, hq⟩; have r6 := r6.later hq r6.lt; have r3 := r3.later hq r3.lt; have s4 := s4.later (Nat.le_refl _) hq; have hb5 := hb4.trans (hq.mono hb4.size); clear hq)
      | (have _t := hb5; refine wpList_store_mid rfl 23 (.tmp 17) (.tmp 16) rfl g6 4 27 Y2 (byts G) rfl rfl r6 hfit.out hgz.out hoG.out ?_; intro w6 r6x hg6))
    have r7 : Row w6 g6 27 V := by rw [hput.out] at r6x; exact r6x
    have r3 := r3.grown hg6 (by omega)
    have s6 := s4.apart hg6 (fun hx a ha => by have := hne.out hx a ha; omega)
    have hb6 := hb5.grown hg6 hb5.size (fun k h => by cases h; omega)
    have R7 := Lib.hid (show w6.heap[g6]? = some (.cells V.toArray 27 (0, 0)) from r7)
    have Q3 := Lib.hid (show w6.heap[w.heap.size + 1 + 1]? = some (.cells Z.toArray 27 (0, 0)) from r3)
    clear r6x hg6 hput hfit hgz hoG R1 KT htg hkz htz r7
    go_wp2_with (first
      | (with_reducible refine wpList_load_row rfl 27 (.tmp 6) rfl g6 rfl 27 V.toArray (0, 0) _ R7.out Tryd.underlying27 rfl hzV.out ?_)
      | (have _t := Q3; refine wpList_store_row rfl 27 (.tmp 4) (.tmp 18) rfl (w.heap.size + 1 + 1) V.toArray rfl rfl 27 Z.toArray Q3.out hzV.out hVZ.out hV1.out ?_; refine Hid.out ?_))
    refine Lib.hid ?_
    generalize hw8 : World.setRow _ _ _ = w8
    obtain ⟨r8, hg8⟩ := row_set (show Row w6 (w.heap.size + 1 + 1) 27 Z from Q3.out) hw8
    have hb8 := hb6.grown hg8 hb6.size (fun k h => by cases h; omega)
    have R8 := Lib.hid (show w8.heap[w.heap.size + 1 + 1]? = some (.cells V.toArray 27 (0, 0)) from r8)
    clear hw8 r8 Q3
    go_wp2_with fail
    exact ⟨rfl, _, results_row_tmp rfl _ _ (w.heap.size + 1 + 1) 27 V.toArray (0, 0) _ rfl R8.out Tryd.underlying27 rfl hzV.out _ rfl, B, d, by rw [HV.out]; rfl, s6.apart hg8 (fun _ a ha => by have := hfa.out a ha; have := RL.out; omega), (fun a ha => by have := hfa.out a ha; have := RL.out; omega), hb8⟩
theorem sl_part21 {w : World} {g o : Nat} {l : List UInt8} (h : w.rangeAt g o (byts l)) (hg : g < w.heap.size) (hl : l.length = 32) : Sl w (some ⟨g, o, none⟩) 32 (byts l) :=
  ⟨.inr ⟨g, o, rfl, hg, fun i hi => by rw [List.getElem?_eq_getElem hi]; exact h i _ (List.getElem?_eq_getElem hi)⟩, by rw [length_byts, hl]; exact Nat.le_refl _, fun h => by cases h⟩
set_option maxHeartbeats 8000000 in
theorem bfits_T (root : List UInt8) (hk : root.length = 32) (en : List UInt8) (hen : en.length = 32) (t : Tok) (ht : t.Ok) (A : Option Addr) (c : Nat) (w : World) (hT : Tabs w) :
    Calls Tryd.prog 13 #[.agg (byts root).toArray, .agg (byts en).toArray, .agg (tokV t A c).toArray] w fun e w' => e = .returned (.bool (fitsT root en t)) ∧ Below w.heap.size w w' := by
  obtain ⟨X, hX⟩ : ∃ X, X = tokV t A c := ⟨_, rfl⟩
  have HX := Lib.hid hX
  have hkz := Lib.hid (show (Tryd.prog.info? 23).map (·.size) = some (byts root).toArray.size by rw [List.size_toArray, size_tag, tag_fit _ hk])
  have hnz := Lib.hid (show (Tryd.prog.info? 23).map (·.size) = some (byts en).toArray.size by rw [List.size_toArray, size_tag, tag_fit _ hen])
  have htl := Lib.hid ht.tag
  have hel := Lib.hid hen
  have hc3 := Lib.hid (fun (w' : World) (h : Row w' (w.heap.size + 1 + 1) 27 X) => (show w'.cell? ⟨w.heap.size + 1 + 1, 3, none⟩ = some (.bool t.bound) by rw [h.cell, hX]; rfl))
  have hF : fitsT root en t = if t.bound = true then decide (t.tag = bindG root en) else decide (t.tag = en) := rfl
  rw [← hX]
  have htg := Lib.hid (fun w' h => btag_T root hk en hen w' h)
  have hgl := Lib.hid (length_bindG root en)
  clear hX hk ht
  cases hbd : t.bound with
  | true =>
    rw [hbd] at hc3 hF
    replace hF := hF.trans (if_pos rfl)
    clear hbd
    generalize fitsT root en t = fv at *
    generalize bindG root en = E at *
    have hgz := Lib.hid (show (Tryd.prog.info? 23).map (·.size) = some (byts E).toArray.size by rw [List.size_toArray, size_tag, tag_fit _ hgl.out])
    have hEn := Lib.hid (show (byts en).toArray.size = (byts E).toArray.size by rw [List.size_toArray, List.size_toArray, tag_fit _ hen, tag_fit _ hgl.out])
    have hE1 := Lib.hid (all_one (byts_one E))
    clear hen
    go_enter Tryd.func13, Tryd.ntmps13
    obtain ⟨w1, hw1⟩ : ∃ w1, w1 = ((w.alloc (.cells (byts root).toArray 23)).alloc (.cells (byts en).toArray 23)).alloc (.cells X.toArray 27) := ⟨_, rfl⟩
    obtain ⟨r1, r2, r3, hb1, -⟩ := rows3 hw1.symm
    have HW := Lib.hid hw1
    have hc4 := hc3.out w1 r3
    clear hw1
    have tok1 : True := trivial
    have R1 := Lib.hid (show w1.heap[w.heap.size]? = some (.cells (byts root).toArray 23 (0, 0)) from r1)
    have R2 := Lib.hid (show w1.heap[w.heap.size + 1]? = some (.cells (byts en).toArray 23 (0, 0)) from r2)
    go_upto_region 3 with (first
      | (have _t := tok1; rw [← HW.out]; clear tok1)
      | (with_reducible refine wpList_load_row rfl 23 (.tmp 3) rfl w.heap.size rfl 23 (byts root).toArray (0, 0) _ R1.out Tryd.underlying23 rfl hkz.out ?_)
      | (with_reducible refine wpList_load_row rfl 23 (.tmp 4) rfl (w.heap.size + 1) rfl 23 (byts en).toArray (0, 0) _ R2.out Tryd.underlying23 rfl hnz.out ?_)
      | (go_at_call 11; refine (htg.out _ (hT.later hb1 (Nat.le_refl _))).mono ?_; rintro e w2 ⟨rfl, hq⟩; have r2 := r2.later hq r2.lt; have r3 := r3.later hq r3.lt; have hb2 := hb1.trans (hq.mono hb1.size); have Q2 := Lib.hid (show w2.heap[w.heap.size + 1]? = some (.cells (byts en).toArray 23 (0, 0)) from r2); clear hq)
      | (have _t := Q2; with_reducible refine wpList_store_row rfl 23 (.tmp 4) (.tmp 11) rfl (w.heap.size + 1) (byts E).toArray rfl rfl 23 (byts en).toArray Q2.out hgz.out hEn.out hE1.out ?_))
    generalize hw3 : World.setRow _ _ _ = w3
    obtain ⟨r4, hg3⟩ := row_set (show Row w2 (w.heap.size + 1) 23 (byts en) from Q2.out) hw3
    have r3 := r3.grown hg3 (by omega)
    have r2 := r4
    have hbx := hb2.grown hg3 hb2.size (fun k h => by cases h; omega)
    clear hw3 hg3 r4 Q2 R1 R2 hc4 HW r1 hb1 hb2 hkz hnz hgz hEn hE1 htg
    refine wp_region_noPanic ?_
    refine wp_region_held_drew (S := fun w' => Row w' (w.heap.size + 1) 23 (byts E) ∧ Row w' (w.heap.size + 1 + 1) 27 X) (by kernel_rfl) (⟨r2.later ((Below.refl _ _).drew) r2.lt, r3.later ((Below.refl _ _).drew) r3.lt⟩) (fun hHeld => ?_)
    have hB : Below w3.heap.size w3 w3.drew := (Below.refl _ _).drew
    refine rt 0 12 hHeld ?_
    refine rt 1 13 hHeld ?_
    refine rt 2 14 hHeld ?_
    refine rc1 3 fun K hK => ?_
    go_simp
    refine (equal_any _ 32 32 t.tag _ 32 32 E _ (sl_part21 (tok_tag_range (A := A) (c := c) (HX.out ▸ hHeld.2)) hHeld.2.lt htl.out) htl.out.symm (sl_arr21 hHeld.1 hgl.out) hgl.out.symm (by rw [htl.out]; decide) (by rw [hgl.out]; decide)).mono ?_; rintro e w9 ⟨rfl, rfl⟩
    try go_wp2_with fail
    refine hK.out _ _ hHeld (fun hHeld => ?_)
    clear hK K
    refine rt 4 6 hHeld ?_
    refine wpAnyH_done (by kernel_rfl) ?_ _
    refine NoPanic.normal ?_
    have hb9 := hbx.trans (hB.mono hbx.size)
    clear hB hHeld
    go_wp2_with fail
    go_ret
    exact ⟨by rw [hF]; rfl, hb9⟩
  | false =>
    rw [hbd] at hc3 hF
    replace hF := hF.trans (if_neg (by decide))
    clear hbd htg hgl hen hkz hnz
    generalize fitsT root en t = fv at *
    go_enter Tryd.func13, Tryd.ntmps13
    obtain ⟨w1, hw1⟩ : ∃ w1, w1 = ((w.alloc (.cells (byts root).toArray 23)).alloc (.cells (byts en).toArray 23)).alloc (.cells X.toArray 27) := ⟨_, rfl⟩
    obtain ⟨r1, r2, r3, hb1, -⟩ := rows3 hw1.symm
    have HW := Lib.hid hw1
    have hc4 := hc3.out w1 r3
    clear hw1
    have tok1 : True := trivial
    go_upto_region 3 with (have _t := tok1; rw [← HW.out]; clear tok1)
    have hbx := hb1
    clear hc4 HW r1 hb1
    refine wp_region_noPanic ?_
    refine wp_region_held_drew (S := fun w' => Row w' (w.heap.size + 1) 23 (byts en) ∧ Row w' (w.heap.size + 1 + 1) 27 X) (by kernel_rfl) (⟨r2.later ((Below.refl _ _).drew) r2.lt, r3.later ((Below.refl _ _).drew) r3.lt⟩) (fun hHeld => ?_)
    have hB : Below w1.heap.size w1 w1.drew := (Below.refl _ _).drew
    refine rt 0 12 hHeld ?_
    refine rt 1 13 hHeld ?_
    refine rt 2 14 hHeld ?_
    refine rc1 3 fun K hK => ?_
    go_simp
    refine (equal_any _ 32 32 t.tag _ 32 32 en _ (sl_part21 (tok_tag_range (A := A) (c := c) (HX.out ▸ hHeld.2)) hHeld.2.lt htl.out) htl.out.symm (sl_arr21 hHeld.1 hel.out) hel.out.symm (by rw [htl.out]; decide) (by rw [hel.out]; decide)).mono ?_; rintro e w9 ⟨rfl, rfl⟩
    try go_wp2_with fail
    refine hK.out _ _ hHeld (fun hHeld => ?_)
    clear hK K
    refine rt 4 6 hHeld ?_
    refine wpAnyH_done (by kernel_rfl) ?_ _
    refine NoPanic.normal ?_
    have hb9 := hbx.trans (hB.mono hbx.size)
    clear hB hHeld
    go_wp2_with fail
    go_ret
    exact ⟨by rw [hF]; rfl, hb9⟩
end Go.Proofs.YtnkkgclmmaakgaaDoor

/- LAYER 21: the document's Fits. -/
namespace Go.Proofs.YtnkkgclmmaakgaaDoor
set_option maxRecDepth 100000
open Go Go.RowKit

set_option maxHeartbeats 8000000 in
theorem rfits_any (root : List UInt8) (hk : root.length = 32) (en : List UInt8) (hen : en.length = 32) (t : Tok) (ht : t.Ok) (A : Option Addr) (c : Nat) (w : World) :
    Calls Tryd.prog 14 #[.agg (byts root).toArray, .agg (byts en).toArray, .agg (tokV t A c).toArray] w fun e w' => e = .returned (.bool (fitsT root en t)) ∧ Below w.heap.size w w' := by
  obtain ⟨X, hX⟩ : ∃ X, X = tokV t A c := ⟨_, rfl⟩
  have HX := Lib.hid hX
  have hkz := Lib.hid (show (Tryd.prog.info? 23).map (·.size) = some (byts root).length by rw [size_tag, tag_fit _ hk])
  have hnz := Lib.hid (show (Tryd.prog.info? 23).map (·.size) = some (byts en).length by rw [size_tag, tag_fit _ hen])
  have htz := Lib.hid (show (Tryd.prog.info? 23).map (·.size) = some (byts t.tag).length by rw [size_tag, tag_fit _ ht.tag])
  obtain ⟨i8, hi8⟩ : ∃ i, Tryd.prog.info? 5 = some i := ⟨_, rfl⟩
  have hqb := Lib.hid (fun W => run_eq_bytes 23 32 i8 Tryd.underlying23 hi8 t.tag (bindG root en) ht.tag (length_bindG root en) W)
  have hqe := Lib.hid (fun W => run_eq_bytes 23 32 i8 Tryd.underlying23 hi8 t.tag en ht.tag hen W)
  have hc3 := Lib.hid (fun (w' : World) (h : Row w' (w.heap.size + 1 + 1) 27 X) => (show w'.cell? ⟨w.heap.size + 1 + 1, 3, none⟩ = some (.bool t.bound) by rw [h.cell, hX]; rfl))
  have hF : fitsT root en t = if t.bound = true then decide (t.tag = bindG root en) else decide (t.tag = en) := rfl
  rw [← hX]
  have htg := Lib.hid (fun w' => rtag21_any root hk en hen w')
  clear hX hi8 hk hen ht
  cases hbd : t.bound with
  | true =>
    rw [hbd] at hc3 hF
    replace hF := hF.trans (if_pos rfl)
    clear hqe hbd
    generalize fitsT root en t = fv at *
    generalize decide (t.tag = bindG root en) = dv at *
    go_enter Tryd.func14, Tryd.ntmps14
    go_upto_region 1 with fail
    generalize hw1 : World.alloc (World.alloc (World.alloc _ _) _) _ = w1
    obtain ⟨r1, r2, r3, hb1, -⟩ := rows3 hw1
    clear hw1
    refine wp_region_noPanic ?_
    refine wp_region_held_drew (S := fun w' => Row w' w.heap.size 23 (byts root) ∧ Row w' (w.heap.size + 1) 23 (byts en) ∧ Row w' (w.heap.size + 1 + 1) 27 X) (by kernel_rfl) (⟨r1.later ((Below.refl _ _).drew) r1.lt, r2.later ((Below.refl _ _).drew) r2.lt, r3.later ((Below.refl _ _).drew) r3.lt⟩) (fun hHeld => ?_)
    have hB : Below w1.heap.size w1 w1.drew := (Below.refl _ _).drew
    refine rt 0 7 hHeld ?_
    refine rt 1 8 hHeld ?_ (hy := by intro w hS; have h1 := hc3.out w hS.2.2; go_simp; try with_reducible rfl)
    refine rt 2 9 hHeld ?_
    refine rt 3 10 hHeld ?_
    refine rsk 4 11 hHeld ?_
    refine rsk 5 12 hHeld ?_
    refine rsk 6 13 hHeld ?_
    refine rsk 7 14 hHeld ?_
    refine rt 8 15 hHeld ?_
    refine rt 9 16 hHeld ?_
    refine rt 10 17 hHeld ?_
    refine rt 11 18 hHeld ?_ (hy := by intro w hS; have h1 := hc3.out w hS.2.2; go_simp; try with_reducible rfl)
    refine rt 12 19 hHeld ?_
    refine rt 13 20 hHeld ?_
    refine rt 14 21 hHeld ?_ (hy := by intro w hS; exact run_load_op 23 (.tmp 20) rfl _ 4 rfl (byts t.tag) _ (tok_tag_range (A := A) (c := c) (HX.out ▸ hS.2.2)) Tryd.underlying23 rfl htz.out)
    refine rt 15 22 hHeld ?_ (hy := by intro w hS; exact run_load_op 23 (.tmp 3) rfl _ 0 rfl (byts root) _ (row_range hS.1) Tryd.underlying23 rfl hkz.out)
    refine rt 16 23 hHeld ?_ (hy := by intro w hS; exact run_load_op 23 (.tmp 4) rfl _ 0 rfl (byts en) _ (row_range hS.2.1) Tryd.underlying23 rfl hnz.out)
    refine rc1 17 fun K hK => ?_
    go_simp
    refine (htg.out _).mono ?_; rintro e ww117 ⟨rfl, hqw117⟩
    try go_wp2_with fail
    refine hK.out _ _ ⟨hHeld.1.later hqw117 hHeld.1.lt, hHeld.2.1.later hqw117 hHeld.2.1.lt, hHeld.2.2.later hqw117 hHeld.2.2.lt⟩ (fun hHeld => ?_)
    clear hK K
    have hB := below_step hB hqw117
    have hB17 : Below ww117.heap.size ww117 ww117 := Below.refl _ _
    refine rt 18 25 hHeld ?_ (hy := by intro w hS; have h1 := hqb.out w; go_simp; try with_reducible rfl)
    refine rt 19 26 hHeld ?_
    refine rt 20 27 hHeld ?_
    refine rt 21 6 hHeld ?_
    refine wpAnyH_done (by kernel_rfl) ?_ _
    refine NoPanic.normal ?_
    have hb9 := hb1.trans (hB.mono hb1.size)
    clear hB hHeld
    go_wp2_with fail
    go_ret
    exact ⟨by rw [hF]; rfl, hb9⟩
  | false =>
    rw [hbd] at hc3 hF
    replace hF := hF.trans (if_neg (by decide))
    clear hqb hbd htg
    generalize fitsT root en t = fv at *
    generalize decide (t.tag = en) = dv at *
    cases dv with
    | true =>
      go_enter Tryd.func14, Tryd.ntmps14
      go_upto_region 1 with fail
      generalize hw1 : World.alloc (World.alloc (World.alloc _ _) _) _ = w1
      obtain ⟨r1, r2, r3, hb1, -⟩ := rows3 hw1
      clear hw1
      refine wp_region_noPanic ?_
      refine wp_region_held_drew (S := fun w' => Row w' w.heap.size 23 (byts root) ∧ Row w' (w.heap.size + 1) 23 (byts en) ∧ Row w' (w.heap.size + 1 + 1) 27 X) (by kernel_rfl) (⟨r1.later ((Below.refl _ _).drew) r1.lt, r2.later ((Below.refl _ _).drew) r2.lt, r3.later ((Below.refl _ _).drew) r3.lt⟩) (fun hHeld => ?_)
      have hB : Below w1.heap.size w1 w1.drew := (Below.refl _ _).drew
      refine rt 0 7 hHeld ?_
      refine rt 1 8 hHeld ?_ (hy := by intro w hS; have h1 := hc3.out w hS.2.2; go_simp; try with_reducible rfl)
      refine rt 2 9 hHeld ?_
      refine rt 3 10 hHeld ?_
      refine rt 4 11 hHeld ?_
      refine rt 5 12 hHeld ?_ (hy := by intro w hS; exact run_load_op 23 (.tmp 11) rfl _ 4 rfl (byts t.tag) _ (tok_tag_range (A := A) (c := c) (HX.out ▸ hS.2.2)) Tryd.underlying23 rfl htz.out)
      refine rt 6 13 hHeld ?_ (hy := by intro w hS; exact run_load_op 23 (.tmp 4) rfl _ 0 rfl (byts en) _ (row_range hS.2.1) Tryd.underlying23 rfl hnz.out)
      refine rt 7 14 hHeld ?_ (hy := by intro w hS; have h1 := hqe.out w; go_simp; try with_reducible rfl)
      refine rt 8 15 hHeld ?_
      refine rt 9 16 hHeld ?_
      refine rsk 10 17 hHeld ?_
      refine rsk 11 18 hHeld ?_
      refine rsk 12 19 hHeld ?_
      refine rsk 13 20 hHeld ?_
      refine rsk 14 21 hHeld ?_
      refine rsk 15 22 hHeld ?_
      refine rsk 16 23 hHeld ?_
      refine rsk 17 24 hHeld ?_
      refine rsk 18 25 hHeld ?_
      refine rsk 19 26 hHeld ?_
      refine rt 20 27 hHeld ?_
      refine rt 21 6 hHeld ?_
      refine wpAnyH_done (by kernel_rfl) ?_ _
      refine NoPanic.normal ?_
      have hb9 := hb1.trans (hB.mono hb1.size)
      clear hB hHeld
      go_wp2_with fail
      go_ret
      exact ⟨by rw [hF]; rfl, hb9⟩
    | false =>
      go_enter Tryd.func14, Tryd.ntmps14
      go_upto_region 1 with fail
      generalize hw1 : World.alloc (World.alloc (World.alloc _ _) _) _ = w1
      obtain ⟨r1, r2, r3, hb1, -⟩ := rows3 hw1
      clear hw1
      refine wp_region_noPanic ?_
      refine wp_region_held_drew (S := fun w' => Row w' w.heap.size 23 (byts root) ∧ Row w' (w.heap.size + 1) 23 (byts en) ∧ Row w' (w.heap.size + 1 + 1) 27 X) (by kernel_rfl) (⟨r1.later ((Below.refl _ _).drew) r1.lt, r2.later ((Below.refl _ _).drew) r2.lt, r3.later ((Below.refl _ _).drew) r3.lt⟩) (fun hHeld => ?_)
      have hB : Below w1.heap.size w1 w1.drew := (Below.refl _ _).drew
      refine rt 0 7 hHeld ?_
      refine rt 1 8 hHeld ?_ (hy := by intro w hS; have h1 := hc3.out w hS.2.2; go_simp; try with_reducible rfl)
      refine rt 2 9 hHeld ?_
      refine rt 3 10 hHeld ?_
      refine rt 4 11 hHeld ?_
      refine rt 5 12 hHeld ?_ (hy := by intro w hS; exact run_load_op 23 (.tmp 11) rfl _ 4 rfl (byts t.tag) _ (tok_tag_range (A := A) (c := c) (HX.out ▸ hS.2.2)) Tryd.underlying23 rfl htz.out)
      refine rt 6 13 hHeld ?_ (hy := by intro w hS; exact run_load_op 23 (.tmp 4) rfl _ 0 rfl (byts en) _ (row_range hS.2.1) Tryd.underlying23 rfl hnz.out)
      refine rt 7 14 hHeld ?_ (hy := by intro w hS; have h1 := hqe.out w; go_simp; try with_reducible rfl)
      refine rt 8 15 hHeld ?_
      refine rt 9 16 hHeld ?_
      refine rt 10 17 hHeld ?_
      refine rt 11 18 hHeld ?_ (hy := by intro w hS; have h1 := hc3.out w hS.2.2; go_simp; try with_reducible rfl)
      refine rt 12 19 hHeld ?_
      refine rsk 13 20 hHeld ?_
      refine rsk 14 21 hHeld ?_
      refine rsk 15 22 hHeld ?_
      refine rsk 16 23 hHeld ?_
      refine rsk 17 24 hHeld ?_
      refine rsk 18 25 hHeld ?_
      refine rt 19 26 hHeld ?_
      refine rt 20 27 hHeld ?_
      refine rt 21 6 hHeld ?_
      refine wpAnyH_done (by kernel_rfl) ?_ _
      refine NoPanic.normal ?_
      have hb9 := hb1.trans (hB.mono hb1.size)
      clear hB hHeld
      go_wp2_with fail
      go_ret
      exact ⟨by rw [hF]; rfl, hb9⟩
end Go.Proofs.YtnkkgclmmaakgaaDoor

/- LAYER 21: package bind by the names that the laws' walks use. -/
namespace Go.Proofs.YtnkkgclmmaakgaaDoor
set_option maxRecDepth 100000
open Go Go.RowKit

theorem btag21_any (root : List UInt8) (hk : root.length = 32) (en : List UInt8) (hen : en.length = 32) (w : World) (hT : Tabs w) :
    Calls Tryd.prog 11 #[.agg (byts root).toArray, .agg (byts en).toArray] w fun e w' => e = .returned (.agg (byts (bindG root en)).toArray) ∧ Below w.heap.size w w' := btag_T root hk en hen w hT
theorem bbind21_any (root : List UInt8) (hk : root.length = 32) (t : Tok) (ht : t.Ok) (hm : t.cavs.length ≤ 1000000) (A : Option Addr) (c : Nat) (w : World) (hT : Tabs w) (hs : Sl w A (c * 5) (t.cavs.flatMap cavV)) :
    Calls Tryd.prog 8 #[.agg (byts root).toArray, .agg (tokV t A c).toArray] w (GaveTok (bindT root t) (errBind t) w) := bbind_T root hk t ht hm A c w hT hs
theorem bfits21_any (root : List UInt8) (hk : root.length = 32) (en : List UInt8) (hen : en.length = 32) (t : Tok) (ht : t.Ok) (A : Option Addr) (c : Nat) (w : World) (hT : Tabs w) :
    Calls Tryd.prog 13 #[.agg (byts root).toArray, .agg (byts en).toArray, .agg (tokV t A c).toArray] w fun e w' => e = .returned (.bool (fitsT root en t)) ∧ Below w.heap.size w w' := bfits_T root hk en hen t ht A c w hT
end Go.Proofs.YtnkkgclmmaakgaaDoor
