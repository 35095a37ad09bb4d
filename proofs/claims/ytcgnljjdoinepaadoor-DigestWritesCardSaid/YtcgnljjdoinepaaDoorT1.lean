/- LAYER 1's DOCUMENT (chittyref01): the product of two numbers as digits, walked. -/
import Derived.Test.YtcgnljjdoinepaaDoorD1
namespace Go.Proofs.YtcgnljjdoinepaaDoor
open Go.RowKit
theorem infoInt : (Tryd.prog.info? 3).map (fun i => (i.zero, i.size, i.bytes)) = some (some (.int .i64 0), 1, 8) := by kernel_rfl
theorem row_made {w : World} {g n : Nat} (h : w.ownsRow g 3 1 (.slice (some ⟨g, 0, none⟩) n n) n (madeCells (Value.int .i64 0).cells (n * 1)).toList) : Row w g 3 (ints (List.replicate n 0)) := by
  rcases h.2 with ⟨h1, _⟩ | ⟨g', cap', cur, hv, _, hg, _, _, hs, htake⟩
  · cases h1
  · injection hv with h1 h2 h3
    injection h1 with h1
    injection h1 with h1
    subst h1
    subst h3
    unfold Row ints
    rw [hg, List.map_replicate]
    have e : cur.toList = List.replicate n (Value.int .i64 0) := by
      rw [show cur.toList = cur.toList.take (n * 1) from by rw [List.take_of_length_le (by simp [hs])], htake]
      show (madeCells #[Value.int .i64 0] (n * 1)).toList = _
      rw [toList_madeCells_one, Nat.mul_one]
    rw [← e]
def mul1 (out : List Int) (p : Nat) (x y : Int) : List Int :=
  (out.set p (wrap64 (out.getD p 0 + (wrap64 (x * y)).tmod 65536))).set (p + 1) (wrap64 (out.getD (p + 1) 0 + wrap64 ((wrap64 (x * y)).tdiv 65536)))
def rowL (x : Int) (b out : List Int) (i : Nat) : Nat → List Int
  | 0 => out
  | k + 1 => mul1 (rowL x b out i k) (i + k) x (b.getD k 0)
def outL (a b : List Int) : Nat → List Int
  | 0 => List.replicate (a.length + b.length) 0
  | i + 1 => rowL (a.getD i 0) b (outL a b i) i b.length
theorem len_mul1 (out : List Int) (p : Nat) (x y : Int) : (mul1 out p x y).length = out.length := by unfold mul1; simp
theorem len_rowL (x : Int) (b out : List Int) (i k : Nat) : (rowL x b out i k).length = out.length := by
  induction k with
  | zero => rfl
  | succ k ih => rw [rowL, len_mul1, ih]
theorem len_outL (a b : List Int) (i : Nat) : (outL a b i).length = a.length + b.length := by
  induction i with
  | zero => simp [outL]
  | succ i ih => rw [outL, len_rowL, ih]
def car1 (out : List Int) (i : Nat) : List Int :=
  if i + 1 < out.length then (out.set (i + 1) (wrap64 (out.getD (i + 1) 0 + wrap64 ((out.getD i 0).tdiv 65536)))).set i ((out.getD i 0).tmod 65536) else out
def carL (out : List Int) : Nat → List Int
  | 0 => out
  | i + 1 => car1 (carL out i) i
theorem len_carL (out : List Int) (i : Nat) : (carL out i).length = out.length := by
  induction i with
  | zero => rfl
  | succ i ih => rw [carL, car1]; split <;> simp [ih]
def timesL (a b : List Int) : List Int := carL (outL a b a.length) (a.length + b.length)
set_option maxHeartbeats 1000000 in
theorem times_any (A B : Option Addr) (ca cb : Nat) (a b : List Int) (w : World) (ha : Rd w A (ints a)) (hb : Rd w B (ints b)) (hla : a.length ≤ 1000) (hlb : b.length ≤ 1000) :
    Calls Tryd.prog 36 #[.slice A a.length ca, .slice B b.length cb] w (GaveInts (timesL a b) w) := by
  obtain ⟨i0, hi, hz0, hz1, hz2⟩ := info_parts infoInt
  have hm : i0.bytes * (a.length + b.length) ≤ 281474976710656 := by rw [hz2]; omega
  have hm2 : a.length + b.length ≤ maxLen := by unfold maxLen; omega
  go_enter Tryd.func36, Tryd.ntmps36
  go_wp2_with (at_make; refine wpList_make_full _ rfl _ _ 61 rfl w.heap.size 3 i0 _ 1 Tryd.underlying61 hi hz0 hz1 _ _ _ _ (a.length + b.length) rfl rfl (by go_num) (by go_num) hm hm2 (Nat.le_refl _) ?_; intro w1 hown1 hg1; have hrow1 := row_made hown1; have hbel1 : Below w.heap.size w w1 := (Below.refl _ _).grown hg1 (Nat.le_refl _) (fun _ h => by cases h))
  go_loopw [19] (fun v wr => ∃ i : Nat, i ≤ a.length ∧ v = .int .i64 i ∧ Row wr w.heap.size 3 (ints (outL a b i)) ∧ Below w.heap.size w wr) (fun v _ => a.length - (intOf v).toNat)
  case atStart => exact ⟨0, by omega, rfl, hrow1, hbel1⟩
  case round =>
    obtain ⟨i, hia, rfl, hrow, hbel⟩ := hrel
    clear hrow1 hown1 hbel1 hg1
    by_cases hlt : i < a.length
    · obtain ⟨ba, oa, rfl, hba, hca⟩ := ha.get (i := i) (by rw [length_ints]; exact hlt)
      rw [get_ints a i hlt, ← hbel.cell (p := ⟨ba, oa + i, none⟩) hba] at hca
      generalize hx : a.getD i 0 = x at hca
      have HX := Lib.hid hx
      clear hx
      go_wp2
      obtain ⟨wo, rfl⟩ : ∃ wo : World, wo = wr := ⟨_, rfl⟩
      have hlt0 := hlt
      go_loopw [26] (fun v wr => ∃ k : Nat, k ≤ b.length ∧ v = .int .i64 k ∧ Row wr w.heap.size 3 (ints (rowL x b (outL a b i) i k)) ∧ Below w.heap.size w wr) (fun v _ => b.length - (intOf v).toNat)
      case atStart => exact ⟨0, by omega, rfl, hrow, hbel⟩
      case round =>
        clear hrow hbel hca
        obtain ⟨k, hkb, rfl, hrow, hbel⟩ := hrel
        by_cases hlt : k < b.length
        · obtain ⟨bb, ob, rfl, hbb, hcb⟩ := hb.get (i := k) (by rw [length_ints]; exact hlt)
          rw [get_ints b k hlt, ← hbel.cell (p := ⟨bb, ob + k, none⟩) hbb] at hcb
          generalize hy : b.getD k 0 = y at hcb
          have HY := Lib.hid hy
          clear hy
          generalize hO : rowL x b (outL a b i) i k = O at hrow
          have hlen : O.length = a.length + b.length := by rw [← hO, len_rowL, len_outL]
          have c1 : wr.cell? ⟨w.heap.size, i + k, none⟩ = some (.int .i64 (O.getD (i + k) 0)) := by rw [hrow.cell, get_ints O (i + k) (by omega)]
          have c2 : wr.cell? ⟨w.heap.size, i + k + 1, none⟩ = some (.int .i64 (O.getD (i + k + 1) 0)) := by rw [hrow.cell, get_ints O (i + k + 1) (by omega)]
          have f1 : wr.frozen? ⟨w.heap.size, i + k, none⟩ = false := hrow.free _
          have f2 : wr.frozen? ⟨w.heap.size, i + k + 1, none⟩ = false := hrow.free _
          generalize ho1 : O.getD (i + k) 0 = o1 at c1
          generalize ho2 : O.getD (i + k + 1) 0 = o2 at c2
          have HO := Lib.hid hO
          have HO1 := Lib.hid ho1
          have HO2 := Lib.hid ho2
          clear hO ho1 ho2 hlen
          go_wp2
          have hrow' := (hrow.set (i + k) (.int .i64 (wrap64 (o1 + (wrap64 (x * y)).tmod 65536)))).set (i + k + 1) (.int .i64 (wrap64 (o2 + wrap64 ((wrap64 (x * y)).tdiv 65536))))
          rw [set_ints, set_ints, ← HO1.out, ← HO2.out] at hrow'
          have he : mul1 O (i + k) x y = rowL x b (outL a b i) i (k + 1) := by rw [rowL, HO.out, HY.out]
          rw [← HO1.out, ← HO2.out]
          go_roundw
          case rel => exact ⟨k + 1, by omega, by go_num, by rw [← he]; exact hrow', (hbel.setCell (by simp) _).setCell (by simp) _⟩
          case measure => simp [intOf]; omega
        · obtain rfl : k = b.length := by omega
          go_wp2
          go_roundw
          case rel => exact ⟨i + 1, by omega, by go_num, by rw [outL, HX.out]; exact hrow, hbel⟩
          case measure => simp [intOf]; omega
    · obtain rfl : i = a.length := by omega
      clear hlt
      go_wp2
      have hlen := len_outL a b a.length
      go_loopw [60] (fun v wr => ∃ i : Nat, i ≤ a.length + b.length ∧ v = .int .i64 i ∧ Row wr w.heap.size 3 (ints (carL (outL a b a.length) i)) ∧ Below w.heap.size w wr) (fun v _ => a.length + b.length - (intOf v).toNat)
      case atStart => exact ⟨0, by omega, rfl, hrow, hbel⟩
      case round =>
        clear hrow hbel
        obtain ⟨i, hia, rfl, hrow, hbel⟩ := hrel
        by_cases hlt : i < a.length + b.length
        · by_cases hlt2 : i + 1 < a.length + b.length
          · generalize hO : carL (outL a b a.length) i = O at hrow
            have hlen2 : O.length = a.length + b.length := by rw [← hO, len_carL, hlen]
            have c1 : wr.cell? ⟨w.heap.size, i, none⟩ = some (.int .i64 (O.getD i 0)) := by rw [hrow.cell, get_ints O i (by omega)]
            have c2 : wr.cell? ⟨w.heap.size, i + 1, none⟩ = some (.int .i64 (O.getD (i + 1) 0)) := by rw [hrow.cell, get_ints O (i + 1) (by omega)]
            have f1 : wr.frozen? ⟨w.heap.size, i, none⟩ = false := hrow.free _
            have f2 : wr.frozen? ⟨w.heap.size, i + 1, none⟩ = false := hrow.free _
            generalize ho1 : O.getD i 0 = o1 at c1
            generalize ho2 : O.getD (i + 1) 0 = o2 at c2
            have HO := Lib.hid hO
            have HO1 := Lib.hid ho1
            have HO2 := Lib.hid ho2
            have HL := Lib.hid hlen2
            clear hO ho1 ho2 hlen2 hlen
            go_wp2
            go_region
            have hrow' := (hrow.set (i + 1) (.int .i64 (wrap64 (o2 + wrap64 (o1.tdiv 65536))))).set i (.int .i64 (o1.tmod 65536))
            rw [set_ints, set_ints] at hrow'
            have he : carL (outL a b a.length) (i + 1) = (O.set (i + 1) (wrap64 (O.getD (i + 1) 0 + wrap64 ((O.getD i 0).tdiv 65536)))).set i ((O.getD i 0).tmod 65536) := by
              rw [carL, HO.out, car1, if_pos (by rw [HL.out]; omega)]
            have HE := Lib.hid he
            clear he
            go_wp2
            go_roundw
            case rel =>
              refine ⟨i + 1, by omega, by go_num, ?_, ((hbel.setCell (by simp) _).setCell (by simp) _).drew⟩
              rw [HE.out, HO1.out, HO2.out]
              exact hrow'.drew
            case measure => simp [intOf]; omega
          · have he : carL (outL a b a.length) (i + 1) = carL (outL a b a.length) i := by
              rw [carL, car1, if_neg (by rw [len_carL, hlen]; omega)]
            have HE := Lib.hid he
            clear he hlen
            go_wp2
            go_roundw
            case rel => exact ⟨i + 1, by omega, by go_num, by rw [HE.out]; exact hrow, hbel⟩
            case measure => simp [intOf]; omega
        · obtain rfl : i = a.length + b.length := by omega
          have hl : (timesL a b).length = a.length + b.length := by unfold timesL; rw [len_carL, len_outL]
          go_wp2
          go_ret
          refine ⟨w.heap.size, a.length + b.length, [], ?_, Nat.le_refl _, ?_, hbel⟩
          · rw [hl]; rfl
          · rw [List.append_nil]; exact hrow
end Go.Proofs.YtcgnljjdoinepaaDoor
