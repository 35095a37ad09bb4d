/- LAYER 1: words as bytes: package word's calls, and the document's. -/
import Derived.Test.YtefbopgbikmohaaDoorG1
namespace Go.Proofs.YtefbopgbikmohaaDoor
open Go.RowKit

theorem infoByte : (Tryd.prog.info? 5).map (fun i => (i.zero, i.size, i.bytes)) = some (some (.int .u8 0), 1, 1) := by kernel_rfl
/-- A word's four bytes, the highest first. -/
def bytesL (x : BitVec 32) : List UInt8 := [UInt8.ofNat (x.toNat / 16777216), UInt8.ofNat (x.toNat / 65536), UInt8.ofNat (x.toNat / 256), UInt8.ofNat x.toNat]
theorem byte_of (n : Nat) : ((UInt8.ofNat n).toNat : Int) = (n : Int) % 256 := by
  rw [UInt8.toNat_ofNat']; omega
theorem byts_word (x : BitVec 32) : byts (bytesL x) = [.int .u8 (u (x >>> 24) % 256), .int .u8 (u (x >>> 16) % 256), .int .u8 (u (x >>> 8) % 256), .int .u8 (u x % 256)] := by
  unfold byts bytesL
  simp only [List.map_cons, List.map_nil, byte_of]
  rw [← u_shr24, ← u_shr16, ← u_shr8]
  unfold u
  simp only [Int.natCast_ediv]
  rfl
theorem rbytes_any (x : BitVec 32) (w : World) :
    Calls Tryd.prog 30 #[.int .u32 (u x)] w (GaveBytes (bytesL x) w) := by
  have hb := u_bd x
  go_enter Tryd.func30, Tryd.ntmps30
  go_wp2
  go_ret
  refine ⟨_, rfl, ?_, (Below.refl _ _).alloc (Nat.le_refl _) _⟩
  rw [byts_word]
  have e1 : (u (x >>> 16)).tmod 256 % (256 : Int) = u (x >>> 16) % (256 : Int) := by rw [Int.tmod_eq_emod_of_nonneg (u_bd _).1]; omega
  have e2 : (u (x >>> 8)).tmod 256 % (256 : Int) = u (x >>> 8) % (256 : Int) := by rw [Int.tmod_eq_emod_of_nonneg (u_bd _).1]; omega
  rw [e1, e2]
  exact World.ownsRow_lit w #[_, _, _, _] 4 (Nat.le_refl _) (by unfold maxLen; omega) rfl
theorem put_any (A : Option Addr) (c : Nat) (l : List UInt8) (x : BitVec 32) (w : World) (hl : Sl w A c (byts l)) (hn : l.length ≤ 1000000) :
    Calls Tryd.prog 16 #[.slice A l.length c, .int .u32 (u x)] w (GaveBytes (l ++ bytesL x) w) := by
  obtain ⟨i0, hi, hz0, hz1, hz2⟩ := info_parts infoByte
  have hm : i0.bytes * (l.length + 4) ≤ 281474976710656 := by rw [hz2]; omega
  have hm2 : l.length + 4 ≤ maxLen := by unfold maxLen; omega
  have hm3 : 0 + l.length ≤ maxLen := by omega
  have hby := Lib.hid (byts_word x)
  have hb := u_bd x
  go_enter Tryd.func16, Tryd.ntmps16
  go_wp2_with (first
    | (at_make; refine wpList_make_own _ rfl _ _ 27 rfl w.heap.size 5 i0 _ 1 Tryd.underlying27 hi hz0 hz1 _ _ _ (l.length + 4) rfl rfl (by go_num) hm hm2 (Nat.le_refl _) ?_; intro w1 hown1 hg1; have hbel1 : Below w.heap.size w w1 := (Below.refl _ _).grown hg1 (Nat.le_refl _) (fun _ h => by cases h))
    | (at_builtin; refine wpList_append_sl rfl (.tmp 10) (.tmp 11) 27 rfl w.heap.size 5 i0 _ 1 Tryd.underlying27 hi hz0 hz1 hz2 rfl _ 0 [] rfl hown1 A l.length c (byts l) rfl (length_byts l).symm (hl.later (Nat.le_refl _) hbel1) (byts_one l) hm3 (by omega) hbel1.size ?_; intro v2 w2 hown2 hg2; have hbel2 : Below w.heap.size w w2 := hbel1.grown hg2 hbel1.size (fun k hk => (hown1.lt k hk).1))
    | (at_builtin; refine wpList_append_own _ rfl (.tmp 13) (.tmp 25) 27 rfl w.heap.size 5 i0 _ 1 1 Tryd.underlying27 hi hz0 hz1 hz2 rfl (by omega) v2 (0 + l.length) ([] ++ byts l) rfl (hown2.alloc _) ⟨w2.heap.size, 0, none⟩ 4 4 (byts (bytesL x)) rfl (length_byts _) (by rw [hby.out]; exact cells_new _ _ _) (byts_one _) (by rw [Nat.zero_add]; exact hm2) (by omega) (by rw [World.size_alloc]; have := hbel2.size; omega) ?_; intro v3 w3 hown3 hg3 _; have hbel3 : Below w.heap.size w w3 := (hbel2.alloc hbel2.size _).grown hg3 (by rw [World.size_alloc]; have := hbel2.size; omega) (fun k hk => (hown2.lt k hk).1)))
  go_ret
  refine ⟨v3, rfl, ?_, hbel3⟩
  rw [byts_append, List.length_append, show (bytesL x).length = 4 from rfl]
  simpa using hown3
theorem put_at (A : Option Addr) (n c : Nat) (l : List UInt8) (x : BitVec 32) (w : World) (hn : n = l.length) (hl : Sl w A c (byts l)) (hm : l.length ≤ 1000000) :
    Calls Tryd.prog 16 #[.slice A n c, .int .u32 (u x)] w (GaveBytes (l ++ bytesL x) w) := by
  subst hn
  exact put_any A c l x w hl hm
theorem sizeByte : (Tryd.prog.info? 5).map (·.size) = some 1 := by kernel_rfl
/-- The four bytes of a word that are laid out where there may be fewer. -/
theorem four_at (l : List UInt8) (i : Nat) (h : i < 4) : (splice [Value.int .u8 0, .int .u8 0, .int .u8 0, .int .u8 0] 0 (byts (l.take 4)))[i]? = some (.int .u8 ((l.getD i 0).toNat : Int)) := by
  unfold splice
  rw [List.take_zero, List.nil_append, Nat.zero_add, length_byts]
  by_cases hi : i < l.length
  · rw [List.getElem?_append_left (by rw [length_byts, List.length_take]; omega), get_byts _ _ (by rw [List.length_take]; omega)]
    simp [h]
  · rw [List.getElem?_append_right (by rw [length_byts, List.length_take]; omega), length_byts, List.length_take, show min 4 l.length = l.length by omega, List.getElem?_drop, show l.length + (i - l.length) = i by omega]
    rw [show l.getD i 0 = 0 by simp [show l.length ≤ i by omega]]
    match i, h with
    | 0, _ => rfl
    | 1, _ => rfl
    | 2, _ => rfl
    | 3, _ => rfl
/-- The first four bytes as a number. -/
def getV (l : List UInt8) : Int := (((l.getD 0 0).toNat * 256 + (l.getD 1 0).toNat) * 256 + (l.getD 2 0).toNat) * 256 + (l.getD 3 0).toNat
theorem getV_eq (l : List UInt8) : getV l = ((l.getD 0 0).toNat : Int) * 16777216 + ((l.getD 1 0).toNat : Int) * 65536 + ((l.getD 2 0).toNat : Int) * 256 + ((l.getD 3 0).toNat : Int) := by
  unfold getV; omega
theorem wraps32 : ∀ n : Int, 0 ≤ n → n < 2 ^ 32 → IntKind.u32.wrap n = n := by
  intro n h0 h1
  rw [IntKind.wrap_u32]
  have : (2 : Int) ^ 32 = 4294967296 := by decide
  omega
theorem or4 (b0 b1 b2 b3 : Int) (d0 : 0 ≤ b0 ∧ b0 < 256) (d1 : 0 ≤ b1 ∧ b1 < 256) (d2 : 0 ≤ b2 ∧ b2 < 256) (d3 : 0 ≤ b3 ∧ b3 < 256) :
    bits .or .u32 (bits .or .u32 (bits .or .u32 (b0 * 16777216) (b1 * 65536)) (b2 * 256)) b3 = b0 * 16777216 + b1 * 65536 + b2 * 256 + b3 := by
  have p32 : (2 : Int) ^ 32 = 4294967296 := by decide
  have p24 : (2 : Int) ^ 24 = 16777216 := by decide
  have p16 : (2 : Int) ^ 16 = 65536 := by decide
  have p8 : (2 : Int) ^ 8 = 256 := by decide
  rw [bits_join .u32 32 (by decide) wraps32 24 (b0 * 16777216) (b1 * 65536) (by omega) (by omega) (by omega) (by omega) (by omega) (by omega),
    bits_join .u32 32 (by decide) wraps32 16 (b0 * 16777216 + b1 * 65536) (b2 * 256) (by omega) (by omega) (by omega) (by omega) (by omega) (by omega),
    bits_join .u32 32 (by decide) wraps32 8 (b0 * 16777216 + b1 * 65536 + b2 * 256) b3 (by omega) (by omega) (by omega) (by omega) (by omega) (by omega)]
theorem get_any (A : Option Addr) (c : Nat) (l : List UInt8) (w : World) (hl : Sl w A c (byts l)) (hn : l.length ≤ 1000000) :
    Calls Tryd.prog 45 #[.slice A l.length c] w fun e w' => e = .returned (.int .u32 (getV l)) ∧ Below w.heap.size w w' := by
  have hlen : (byts (l.take 4)).length = l.length.min 4 := by rw [length_byts, List.length_take, Nat.min_comm]
  have hpos : 0 < (byts (l.take 4)).length → ∃ ad, A = some ad ∧ ∀ j v, (byts (l.take 4))[j]? = some v → (w.alloc (.cells #[.int .u8 0, .int .u8 0, .int .u8 0, .int .u8 0] 75)).cell? (ad.add j) = some v := by
    intro h
    have hp : 0 < (byts l).length := by rw [length_byts] at h ⊢; rw [List.length_take] at h; omega
    obtain ⟨b, o, rfl, hb, _⟩ := hl.rd.get hp
    refine ⟨_, rfl, fun j v hj => ?_⟩
    have hj' : (byts l)[j]? = some v := by
      have e : byts (l.take 4) = (byts l).take 4 := by unfold byts; rw [List.map_take]
      rw [e, List.getElem?_take] at hj
      split at hj
      · exact hj
      · cases hj
    rw [World.cell?_alloc_lt _ _ _ (by rw [Addr.add_lit]; exact hb)]
    exact hl.rd.at_add j v hj'
  have hfit : 0 + (byts (l.take 4)).length ≤ [Value.int .u8 0, .int .u8 0, .int .u8 0, .int .u8 0].length := by rw [length_byts, List.length_take]; simp only [List.length_cons, List.length_nil]; omega
  obtain ⟨cs, hcs⟩ : ∃ cs, cs = byts (l.take 4) := ⟨_, rfl⟩
  have hcs1 : ∀ v ∈ cs, v.oneCell' = true := by rw [hcs]; exact byts_one _
  have hat : ∀ i, i < 4 → (splice [Value.int .u8 0, .int .u8 0, .int .u8 0, .int .u8 0] 0 cs)[i]? = some (.int .u8 ((l.getD i 0).toNat : Int)) := by rw [hcs]; exact four_at l
  rw [← hcs] at hlen hpos hfit
  clear hcs hl
  have d0 := byte_bd (l.getD 0 0)
  have d1 := byte_bd (l.getD 1 0)
  have d2 := byte_bd (l.getD 2 0)
  have d3 := byte_bd (l.getD 3 0)
  have a0 := hat 0 (by omega)
  have a1 := hat 1 (by omega)
  have a2 := hat 2 (by omega)
  have a3 := hat 3 (by omega)
  have HV := Lib.hid (getV_eq l)
  generalize ((l.getD 0 0).toNat : Int) = b0 at *
  generalize ((l.getD 1 0).toNat : Int) = b1 at *
  generalize ((l.getD 2 0).toNat : Int) = b2 at *
  generalize ((l.getD 3 0).toNat : Int) = b3 at *
  have A0 := Lib.hid a0
  have A1 := Lib.hid a1
  have A2 := Lib.hid a2
  have A3 := Lib.hid a3
  have HPOS := Lib.hid hpos
  clear hat a0 a1 a2 a3 hpos
  go_enter Tryd.func45, Tryd.ntmps45
  go_wp2_with ((with_reducible refine wpList_copy_splice rfl (.tmp 4) (.tmp 5) 27 27 rfl 5 Tryd.underlying27 sizeByte _ _ _ _ _ _ rfl rfl w.heap.size 0 [.int .u8 0, .int .u8 0, .int .u8 0, .int .u8 0] _ (heap_alloc_new w _) cs hlen (fun h => ⟨rfl, HPOS.out h⟩) hfit hcs1 w.heap.size w ((Below.refl _ _).alloc (Nat.le_refl _) _) (Nat.le_refl _) ?_); intro w2 HG2 hB2; have c0 := (Row.cell (HG2.out : Row w2 w.heap.size 75 _) 0).trans A0.out; have c1 := (Row.cell (HG2.out : Row w2 w.heap.size 75 _) 1).trans A1.out; have c2 := (Row.cell (HG2.out : Row w2 w.heap.size 75 _) 2).trans A2.out; have c3 := (Row.cell (HG2.out : Row w2 w.heap.size 75 _) 3).trans A3.out)
  go_ret
  refine ⟨?_, hB2⟩
  rw [HV.out, ← or4 b0 b1 b2 b3 d0 d1 d2 d3]
  rfl
theorem get_at (A : Option Addr) (n c : Nat) (l : List UInt8) (w : World) (hl : Sl w A c (byts l)) (hn : n = l.length) (h : l.length ≤ 1000000) :
    Calls Tryd.prog 45 #[.slice A n c] w fun e w' => e = .returned (.int .u32 (getV l)) ∧ Below w.heap.size w w' := by
  subst hn; exact get_any A c l w hl h
/-- The document's: one byte after the other. -/
def getK (l : List UInt8) : Nat → Int
  | 0 => 0
  | k + 1 => getK l k * 256 + ((l.getD k 0).toNat : Int)
theorem getK_bd (l : List UInt8) (k : Nat) (h : k ≤ 3) : 0 ≤ getK l k ∧ getK l k < 16777216 := by
  have b0 := byte_bd (l.getD 0 0)
  have b1 := byte_bd (l.getD 1 0)
  have b2 := byte_bd (l.getD 2 0)
  match k, h with
  | 0, _ => simp only [getK]; omega
  | 1, _ => simp only [getK]; omega
  | 2, _ => simp only [getK]; omega
  | 3, _ => simp only [getK]; omega
theorem rget_any (A : Option Addr) (c : Nat) (l : List UInt8) (w : World) (hl : Sl w A c (byts l)) :
    Calls Tryd.prog 44 #[.slice A l.length c] w fun e w' => e = .returned (.int .u32 (getV l)) ∧ w = w' := by
  go_enter Tryd.func44, Tryd.ntmps44
  go_wp2
  go_loop [3, 4] (fun x i => ∃ k : Nat, k ≤ 4 ∧ i = .int .i64 k ∧ x = .int .u32 (getK l k)) (fun _ i => 4 - (intOf i).toNat)
  case atStart => exact ⟨0, by omega, rfl, rfl⟩
  case round =>
    obtain ⟨k, hk, rfl, rfl⟩ := hrel
    by_cases hlt : k < 4
    · have hb := getK_bd l k (by omega)
      have hd := byte_bd (l.getD k 0)
      have E := Lib.hid (show getK l (k + 1) = getK l k * 256 + ((l.getD k 0).toNat : Int) from rfl)
      generalize getK l k = x at *
      by_cases hlt2 : k < l.length
      · obtain ⟨b, o, rfl, _, hc⟩ := hl.rd.get (i := k) (by rw [length_byts]; exact hlt2)
        rw [get_byts l k hlt2] at hc
        generalize ((l.getD k 0).toNat : Int) = y at *
        go_wp2
        go_round
        case rel => exact ⟨k + 1, by omega, by go_num, by rw [E.out]⟩
        case measure => simp [intOf]; omega
      · have e0 : ((l.getD k 0).toNat : Int) = 0 := by simp [show l.length ≤ k by omega]
        rw [e0] at E
        clear e0 hd
        go_wp2
        go_round
        case rel => exact ⟨k + 1, by omega, by go_num, by rw [E.out]; simp⟩
        case measure => simp [intOf]; omega
    · obtain rfl : k = 4 := by omega
      go_wp2
      go_ret
      exact ⟨by simp [getK, getV], rfl⟩
end Go.Proofs.YtefbopgbikmohaaDoor
