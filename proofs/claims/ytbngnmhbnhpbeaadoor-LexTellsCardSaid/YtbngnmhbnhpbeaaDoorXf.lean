/- LAYER 16: package lex: Number. -/
import Derived.Test.YtbngnmhbnhpbeaaDoorXe
import Derived.Test.YtbngnmhbnhpbeaaDoorXc
import Derived.Test.YtbngnmhbnhpbeaaDoorXu
import Derived.Test.YtbngnmhbnhpbeaaDoorEn
import Derived.Test.YtbngnmhbnhpbeaaDoorNu
import Derived.Lib.ParseIntBMem
import Derived.Lib.AtoiErrMem
namespace Go.Proofs.YtbngnmhbnhpbeaaDoor
set_option maxRecDepth 100000
open Go Go.RowKit

/-- What the listed variables hold, as far as a text's number comes to them. -/
structure EnvN (w : World) : Prop where
  most : EnvX w
  pow : Lib.TabIs Tryd.prog w "internal/strconv.uint64pow10" .u64 Lib.pow10Tab
  synt : ∃ v, w.cell? ⟨0, 0, none⟩ = some v ∧ (v = .nilIface ∨ ∃ t p, v = .iface t p)
  rang : ∃ v, w.cell? ⟨1, 0, none⟩ = some v ∧ (v = .nilIface ∨ ∃ t p, v = .iface t p)
theorem EnvN.next {w w' : World} (h : EnvN w) (hb : Below w.heap.size w w') : EnvN w' := by
  obtain ⟨hm, hp, ⟨v, hv, h1⟩, ⟨u, hu, h2⟩⟩ := h
  exact ⟨hm.next hb, Joins.tab_stays gPow hp hb (Nat.le_refl _), ⟨v, cell_later16 hv (Nat.le_refl _) hb, h1⟩, ⟨u, cell_later16 hu (Nat.le_refl _) hb, h2⟩⟩
theorem toErr16 (fn s : ByteArray) (b n : Int) (hs : s.size ≤ 281474976710656) (w : World) (hE : EnvN w) (k : Int) (hk : k = 1 ∨ k = 2) :
    Calls Tryd.prog 35 #[.string fn, .string s, .int .i64 b, .int .i64 n, .iface 63 (.int .i64 k)] w (GaveAny w) := by
  rcases hk with rfl | rfl
  · obtain ⟨v, h1, h2⟩ := hE.rang
    refine (Tryd.strconv_toError_range fn s b n v w hs h1 h2).mono ?_
    rintro e w' ⟨N, rfl, -, -, hb⟩
    exact ⟨_, rfl, hb⟩
  · obtain ⟨v, h1, h2⟩ := hE.synt
    refine (Tryd.strconv_toError_syntax fn s b n v w hs h1 h2).mono ?_
    rintro e w' ⟨N, rfl, -, -, hb⟩
    exact ⟨_, rfl, hb⟩
/-- The library's inner ParseUint, for 64 bits. -/
theorem ipu64_any (l : List UInt8) (hl : l.length ≤ 100000) (w : World) :
    ∃ c : Nat, (c = 0 ∨ c = 1 ∨ c = 2) ∧ Calls Tryd.prog 34 #[.string (bstr l), .int .i64 10, .int .i64 64] w fun e w' => e = .returned (.tuple #[.int .u64 (puX l : Nat), errV c]) ∧ Below w.heap.size w w' := by
  have h := Tryd.internal_strconv_ParseUint_10_at64 (bstr l) (by rw [size_bstr]; omega) w
  have hb : ∀ w' : World, (w' = w ∨ w' = Lib.bytesWorld w 5 (bstr l)) → Below w.heap.size w w' := by
    rintro w' (rfl | rfl)
    · exact Below.refl _ _
    · exact Lib.bytesWorld_below _ _ _
  have e0 : (bstr l).data.toList = l := rfl
  rw [e0] at h
  unfold puX
  cases hp : Lib.parseUintB 64 l with
  | ok v =>
    rw [hp] at h
    exact ⟨0, .inl rfl, h.mono fun e w' ⟨he, hw⟩ => ⟨he, hb w' hw⟩⟩
  | range =>
    rw [hp] at h
    exact ⟨1, .inr (.inl rfl), h.mono fun e w' ⟨he, hw⟩ => ⟨he, hb w' hw⟩⟩
  | _ =>
    rw [hp] at h
    exact ⟨2, .inr (.inr rfl), h.mono fun e w' ⟨he, hw⟩ => ⟨he, hb w' hw⟩⟩
theorem errV_1 : errV 1 = .iface 63 (.int .i64 1) := rfl
theorem errV_2 : errV 2 = .iface 63 (.int .i64 2) := rfl
set_option maxHeartbeats 2000000 in
theorem pu64_any (l : List UInt8) (hl : l.length ≤ 100000) (w : World) (hE : EnvN w) :
    Calls Tryd.prog 24 #[.string (bstr l), .int .i64 10, .int .i64 64] w (GavePu (puX l) w) := by
  obtain ⟨c, hc, hi⟩ := ipu64_any l hl w
  have hsz : (bstr l).size ≤ 281474976710656 := by rw [size_bstr]; omega
  have hts := Lib.hid (fun fn w' (h : Below w.heap.size w w') k hk => toErr16 fn (bstr l) 10 64 hsz w' (hE.next h) k hk)
  generalize puX l = n at *
  clear hE hl hsz
  rcases hc with rfl | rfl | rfl
  · rw [show errV 0 = .nilIface from rfl] at hi
    have hi := Lib.hid hi
    go_enter Tryd.func24, Tryd.ntmps24
    go_wp2_with (go_at_call 34; refine hi.out.mono ?_; rintro e w' ⟨rfl, hb1⟩)
    go_ret2
    exact ⟨_, rfl, hb1⟩
  · rw [errV_1] at hi
    have hi := Lib.hid hi
    go_enter Tryd.func24, Tryd.ntmps24
    go_wp2_with (first
      | (go_at_call 34; refine hi.out.mono ?_; rintro e w' ⟨rfl, hb1⟩)
      | (go_at_call 35; refine (hts.out _ _ hb1 1 (.inl rfl)).mono ?_; rintro e w2 ⟨v, rfl, hb2⟩; have hb2 := hb1.trans (hb2.mono hb1.size)))
    go_ret2
    exact ⟨_, rfl, hb2⟩
  · rw [errV_2] at hi
    have hi := Lib.hid hi
    go_enter Tryd.func24, Tryd.ntmps24
    go_wp2_with (first
      | (go_at_call 34; refine hi.out.mono ?_; rintro e w' ⟨rfl, hb1⟩)
      | (go_at_call 35; refine (hts.out _ _ hb1 2 (.inr rfl)).mono ?_; rintro e w2 ⟨v, rfl, hb2⟩; have hb2 := hb1.trans (hb2.mono hb1.size)))
    go_ret2
    exact ⟨_, rfl, hb2⟩
set_option maxHeartbeats 2000000 in
theorem xnumber_any (s : List UInt8) (hs : s.length ≤ 2100) (w : World) (hE : EnvN w) : Calls Tryd.prog 9 #[.string (bstr s)] w fun e w' => e = .returned (numAns (numberL s)) ∧ Below w.heap.size w w' := by
  have hpu := Lib.hid (pu64_any s (by omega) w hE)
  have hlt := puX_lt s
  have HV := Lib.hid (number_pu s)
  have hfm := Lib.hid (fun w' (h : Below w.heap.size w w') => fmt10_q (puX s) hlt w' (hE.next h).pow)
  have he := bstr_beq (numL 10 (puX s)) s
  generalize numberL s = V at *
  generalize puX s = n at *
  generalize numL 10 n = ds at *
  by_cases h : ds = s
  · have HW := Lib.hid (HV.out.trans (if_pos h))
    rw [decide_eq_true h] at he
    clear HV h hE hs
    go_enter Tryd.func9, Tryd.ntmps9
    go_wp2_with (first
      | (go_at_call 24; refine hpu.out.mono ?_; rintro e w1 ⟨v, rfl, hb1⟩)
      | (go_at_call 25; refine (hfm.out _ hb1).mono ?_; rintro e w2 ⟨rfl, hb2⟩; have hb2 := hb1.trans (hb2.mono hb1.size)))
    go_ret2
    exact ⟨by rw [HW.out]; rfl, hb2⟩
  · have HW := Lib.hid (HV.out.trans (if_neg h))
    rw [decide_eq_false h] at he
    clear HV h hE hs
    go_enter Tryd.func9, Tryd.ntmps9
    go_wp2_with (first
      | (go_at_call 24; refine hpu.out.mono ?_; rintro e w1 ⟨v, rfl, hb1⟩)
      | (go_at_call 25; refine (hfm.out _ hb1).mono ?_; rintro e w2 ⟨rfl, hb2⟩; have hb2 := hb1.trans (hb2.mono hb1.size)))
    go_ret2
    exact ⟨by rw [HW.out]; rfl, hb2⟩
end Go.Proofs.YtbngnmhbnhpbeaaDoor
