/- Texts of this claim, one behind the other. -/
import Derived.Test.YtnkkgclmmaakgaaDoorRows
import Derived.Handy
import Derived.Lib.Hide
import Derived.WalkSpells
import Derived.WalkLawsBesides
import Derived.Laws.AppendOwnNone
import Derived.Laws.CopyOwn
import Derived.Deep.AppendLies
import Derived.Deep.RegionHeld3
import Derived.Test.YtnkkgclmmaakgaaDoorCards
import Derived.Test.YtnkkgclmmaakgaaDoorTie
import Derived.WalkKit
import Derived.ProofKit
import Derived.OpenShut
import Derived.ShutString
import Derived.ChangeOld
import Derived.Below
import Derived.Deep.DeepHandedRow
import Derived.Lib.LaidTab
import Derived.SizedLaws
import Derived.OwnWalk
/- WORDS OF 32 BITS AS BIT VECTORS: how the model's integers of kind u32 are added, shifted, joined. No Go function is spoken of here. -/
namespace Go.Proofs.YtnkkgclmmaakgaaDoor
set_option maxRecDepth 100000
open Go

def u (v : BitVec 32) : Int := (v.toNat : Int)
theorem u_bd (v : BitVec 32) : 0 ≤ u v ∧ u v < 4294967296 := by
  unfold u; have := v.isLt; omega
theorem ofInt_u (v : BitVec 32) : BitVec.ofInt 32 (u v) = v := by
  unfold u; simp
theorem wrap_u (v : BitVec 32) : IntKind.u32.wrap (u v) = u v := by
  rw [IntKind.wrap_u32]; have := u_bd v; omega

@[go_sem] theorem u_and (a b : BitVec 32) : bits .and .u32 (u a) (u b) = u (a &&& b) := by
  show IntKind.u32.wrap ((BitVec.ofInt 32 (u a) &&& BitVec.ofInt 32 (u b)).toNat : Int) = _
  rw [ofInt_u, ofInt_u]; exact wrap_u _
@[go_sem] theorem u_or (a b : BitVec 32) : bits .or .u32 (u a) (u b) = u (a ||| b) := by
  show IntKind.u32.wrap ((BitVec.ofInt 32 (u a) ||| BitVec.ofInt 32 (u b)).toNat : Int) = _
  rw [ofInt_u, ofInt_u]; exact wrap_u _
@[go_sem] theorem u_xor (a b : BitVec 32) : bits .xor .u32 (u a) (u b) = u (a ^^^ b) := by
  show IntKind.u32.wrap ((BitVec.ofInt 32 (u a) ^^^ BitVec.ofInt 32 (u b)).toNat : Int) = _
  rw [ofInt_u, ofInt_u]; exact wrap_u _
@[go_sem] theorem u_andNot (a b : BitVec 32) : bits .andNot .u32 (u a) (u b) = u (a &&& ~~~b) := by
  show IntKind.u32.wrap ((BitVec.ofInt 32 (u a) &&& ~~~BitVec.ofInt 32 (u b)).toNat : Int) = _
  rw [ofInt_u, ofInt_u]; exact wrap_u _
@[go_sem] theorem u_not (a : BitVec 32) : bits .xor .u32 IntKind.u32.max (u a) = u (~~~a) := by
  show IntKind.u32.wrap ((BitVec.ofInt 32 4294967295 ^^^ BitVec.ofInt 32 (u a)).toNat : Int) = _
  rw [ofInt_u, show BitVec.ofInt 32 4294967295 = BitVec.allOnes 32 from by decide, BitVec.allOnes_xor]; exact wrap_u _
@[go_sem] theorem u_add (a b : BitVec 32) : IntKind.u32.wrap (u a + u b) = u (a + b) := by
  rw [IntKind.wrap_u32]; unfold u; rw [BitVec.toNat_add]; omega
@[go_sem] theorem u_shl (a : BitVec 32) (k : Nat) : IntKind.u32.wrap (u a * 2 ^ k) = u (a <<< k) := by
  rw [IntKind.wrap_u32]; unfold u
  rw [BitVec.toNat_shiftLeft, Nat.shiftLeft_eq]
  simp
@[go_sem] theorem u_shr (a : BitVec 32) (k : Nat) : u a / 2 ^ k = u (a >>> k) := by
  unfold u
  rw [BitVec.toNat_ushiftRight, Nat.shiftRight_eq_div_pow]
  simp

@[go_sem] theorem u_shr3 (x : BitVec 32) : u x / (8 : Int) = u (x >>> 3) := u_shr x 3
@[go_sem] theorem u_shr8 (x : BitVec 32) : u x / (256 : Int) = u (x >>> 8) := u_shr x 8
@[go_sem] theorem u_shr10 (x : BitVec 32) : u x / (1024 : Int) = u (x >>> 10) := u_shr x 10
@[go_sem] theorem u_shr16 (x : BitVec 32) : u x / (65536 : Int) = u (x >>> 16) := u_shr x 16
@[go_sem] theorem u_shr24 (x : BitVec 32) : u x / (16777216 : Int) = u (x >>> 24) := u_shr x 24
/-- Round about, n places lower. -/
def turn (x : BitVec 32) (n : Int) : BitVec 32 := x.rotateRight (n % 32).toNat
def rotl (x : BitVec 32) (n : Int) : BitVec 32 := x.rotateLeft (n % 32).toNat
theorem rotl_eq (x : BitVec 32) (n : Int) :
    x <<< (n % 32).toNat ||| x >>> (32 - n % 32).toNat = rotl x n := by
  unfold rotl
  rw [BitVec.rotateLeft_def]
  have h : (n % 32).toNat % 32 = (n % 32).toNat := Nat.mod_eq_of_lt (by omega)
  rw [h, show (32 - n % 32).toNat = 32 - (n % 32).toNat by omega]
theorem getLsbD_turn (x : BitVec 32) (n : Int) (i : Nat) (hi : i < 32) : (turn x n).getLsbD i = x.getLsbD ((i + (n % 32)) % 32).toNat := by
  unfold turn
  rw [BitVec.getLsbD_rotateRight]
  have h : (n % 32).toNat % 32 = (n % 32).toNat := Nat.mod_eq_of_lt (by omega)
  rw [h]
  by_cases h2 : i < 32 - (n % 32).toNat
  · simp only [h2, decide_true, cond_true]
    congr 1; omega
  · simp only [h2, decide_false, cond_false, hi, decide_true, Bool.true_and]
    congr 1; omega
theorem rotl_turn (x : BitVec 32) (m n : Int) (h : (m + n) % 32 = 0) : rotl x m = turn x n := by
  apply BitVec.eq_of_getLsbD_eq
  intro i hi
  rw [getLsbD_turn x n i hi]
  unfold rotl
  rw [BitVec.getLsbD_rotateLeft]
  have h' : (m % 32).toNat % 32 = (m % 32).toNat := Nat.mod_eq_of_lt (by omega)
  rw [h']
  by_cases h2 : i < (m % 32).toNat
  · simp only [h2, decide_true, cond_true]
    congr 1; omega
  · simp only [h2, decide_false, cond_false, hi, decide_true, Bool.true_and]
    congr 1; omega
def uchoose (x y z : BitVec 32) : BitVec 32 := x &&& y ||| ~~~x &&& z
def umost (x y z : BitVec 32) : BitVec 32 := x &&& y ||| x &&& z ||| y &&& z
end Go.Proofs.YtnkkgclmmaakgaaDoor

/- THE NUMBERS that package word's two tables hold. -/
namespace Go.Proofs.YtnkkgclmmaakgaaDoor
set_option maxRecDepth 100000
def cubeT : List Int := [1116352408, 1899447441, 3049323471, 3921009573, 961987163, 1508970993, 2453635748, 2870763221, 3624381080, 310598401, 607225278, 1426881987, 1925078388, 2162078206, 2614888103, 3248222580, 3835390401, 4022224774, 264347078, 604807628, 770255983, 1249150122, 1555081692, 1996064986, 2554220882, 2821834349, 2952996808, 3210313671, 3336571891, 3584528711, 113926993, 338241895, 666307205, 773529912, 1294757372, 1396182291, 1695183700, 1986661051, 2177026350, 2456956037, 2730485921, 2820302411, 3259730800, 3345764771, 3516065817, 3600352804, 4094571909, 275423344, 430227734, 506948616, 659060556, 883997877, 958139571, 1322822218, 1537002063, 1747873779, 1955562222, 2024104815, 2227730452, 2361852424, 2428436474, 2756734187, 3204031479, 3329325298]
def squareT : List Int := [1779033703, 3144134277, 1013904242, 2773480762, 1359893119, 2600822924, 528734635, 1541459225]
end Go.Proofs.YtnkkgclmmaakgaaDoor

/- LAYER 1's SMALL FUNCTIONS: package word's turns and sums, walked. -/
namespace Go.Proofs.YtnkkgclmmaakgaaDoor
set_option maxRecDepth 100000
open Go.RowKit

@[go_sem] theorem and31 (n : Int) : bits .and .u64 (IntKind.u64.wrap n) 31 = n % 32 := by
  show IntKind.u64.wrap ((BitVec.ofInt 64 (IntKind.u64.wrap n) &&& BitVec.ofInt 64 31).toNat : Int) = _
  have h1 : (BitVec.ofInt 64 (IntKind.u64.wrap n)).toNat = (n % 18446744073709551616).toNat := by
    rw [IntKind.wrap_u64, BitVec.toNat_ofInt]; simp
  have h2 : (BitVec.ofInt 64 31).toNat = 2 ^ 5 - 1 := by decide
  rw [BitVec.toNat_and, h1, h2, Nat.and_two_pow_sub_one_eq_mod, IntKind.wrap_u64]
  omega

theorem rot_any (x : BitVec 32) (n : Int) (w : World) :
    Calls Tryd.prog 78 #[.int .u32 (u x), .int .i64 n] w fun e w' => e = .returned (.int .u32 (u (rotl x n))) ∧ w = w' := by
  have hb := u_bd x
  go_enter Tryd.func78, Tryd.ntmps78
  go_wp2
  go_ret
  rw [← rotl_eq]
  exact ⟨rfl, rfl⟩
theorem turn_any (x : BitVec 32) (n : Int) (w : World) :
    Calls Tryd.prog 77 #[.int .u32 (u x), .int .i64 n] w fun e w' => e = .returned (.int .u32 (u (turn x n))) ∧ w = w' := by
  go_enter Tryd.func77, Tryd.ntmps77
  go_wp2_with (go_at_call 78; refine (rot_any _ _ _).mono ?_; rintro e w' ⟨rfl, rfl⟩)
  go_ret
  rw [← rotl_turn x (wrap64 (-n)) n (by unfold wrap64; omega)]
  exact ⟨rfl, rfl⟩
theorem choose_any (x y z : BitVec 32) (w : World) :
    Calls Tryd.prog 71 #[.int .u32 (u x), .int .u32 (u y), .int .u32 (u z)] w fun e w' => e = .returned (.int .u32 (u (uchoose x y z))) ∧ w = w' := by
  go_enter Tryd.func71, Tryd.ntmps71
  go_wp2
  go_ret
  exact ⟨rfl, rfl⟩
theorem most_any (x y z : BitVec 32) (w : World) :
    Calls Tryd.prog 73 #[.int .u32 (u x), .int .u32 (u y), .int .u32 (u z)] w fun e w' => e = .returned (.int .u32 (u (umost x y z))) ∧ w = w' := by
  go_enter Tryd.func73, Tryd.ntmps73
  go_wp2
  go_ret
  exact ⟨rfl, rfl⟩
def great (i : Int) (x : BitVec 32) : BitVec 32 :=
  if i = 0 then turn x 2 ^^^ turn x 13 ^^^ turn x 22 else if i = 1 then turn x 6 ^^^ turn x 11 ^^^ turn x 25 else 0#32
def small (i : Int) (x : BitVec 32) : BitVec 32 :=
  if i = 0 then turn x 7 ^^^ turn x 18 ^^^ x >>> 3 else if i = 1 then turn x 17 ^^^ turn x 19 ^^^ x >>> 10 else 0#32
theorem u_zero : u 0#32 = 0 := rfl
theorem great_any (i : Int) (x : BitVec 32) (w : World) :
    Calls Tryd.prog 70 #[.int .i64 i, .int .u32 (u x)] w fun e w' => e = .returned (.int .u32 (u (great i x))) ∧ w = w' := by
  by_cases h0 : i = 0
  · subst h0
    go_enter Tryd.func70, Tryd.ntmps70
    go_wp2_with (go_at_call 77; refine (turn_any _ _ _).mono ?_; rintro e w' ⟨rfl, rfl⟩)
    go_ret
    exact ⟨rfl, rfl⟩
  · by_cases h1 : i = 1
    · subst h1
      go_enter Tryd.func70, Tryd.ntmps70
      go_wp2_with (go_at_call 77; refine (turn_any _ _ _).mono ?_; rintro e w' ⟨rfl, rfl⟩)
      go_ret
      exact ⟨rfl, rfl⟩
    · have hg : great i x = 0#32 := by unfold great; rw [if_neg h0, if_neg h1]
      have e0 : (i == 0) = false := by simpa using h0
      have e1 : (i == 1) = false := by simpa using h1
      have HG := Lib.hid hg
      clear hg
      go_enter Tryd.func70, Tryd.ntmps70
      go_wp2
      go_ret
      rw [HG.out, u_zero]
      exact ⟨rfl, rfl⟩
theorem small_any (i : Int) (x : BitVec 32) (w : World) :
    Calls Tryd.prog 76 #[.int .i64 i, .int .u32 (u x)] w fun e w' => e = .returned (.int .u32 (u (small i x))) ∧ w = w' := by
  by_cases h0 : i = 0
  · subst h0
    go_enter Tryd.func76, Tryd.ntmps76
    go_wp2_with (go_at_call 77; refine (turn_any _ _ _).mono ?_; rintro e w' ⟨rfl, rfl⟩)
    go_ret
    exact ⟨rfl, rfl⟩
  · by_cases h1 : i = 1
    · subst h1
      go_enter Tryd.func76, Tryd.ntmps76
      go_wp2_with (go_at_call 77; refine (turn_any _ _ _).mono ?_; rintro e w' ⟨rfl, rfl⟩)
      go_ret
      exact ⟨rfl, rfl⟩
    · have hg : small i x = 0#32 := by unfold small; rw [if_neg h0, if_neg h1]
      have e0 : (i == 0) = false := by simpa using h0
      have e1 : (i == 1) = false := by simpa using h1
      have HG := Lib.hid hg
      clear hg
      go_enter Tryd.func76, Tryd.ntmps76
      go_wp2
      go_ret
      rw [HG.out, u_zero]
      exact ⟨rfl, rfl⟩
end Go.Proofs.YtnkkgclmmaakgaaDoor

/- WORDS ON MEMORY: a block that is one row; a slice that reads as a list of numbers. No Go function is spoken of here. -/
namespace Go.Proofs.YtnkkgclmmaakgaaDoor
set_option maxRecDepth 100000
open Go Go.RowKit

/-- Block g is a row of elements of type t that holds just xs, and may be written. -/
def Row (w : World) (g : Nat) (t : TypeId) (xs : List Value) : Prop := w.heap[g]? = some (.cells xs.toArray t (0, 0))
theorem Row.lt {w : World} {g t : Nat} {xs : List Value} (h : Row w g t xs) : g < w.heap.size := by
  unfold Row at h
  exact (Array.getElem?_eq_some_iff.1 h).1
theorem Row.cell {w : World} {g t : Nat} {xs : List Value} (h : Row w g t xs) (i : Nat) : w.cell? ⟨g, i, none⟩ = xs[i]? := by
  rw [cell_of_row w g i _ t (0, 0) h]; simp
theorem Row.free {w : World} {g t : Nat} {xs : List Value} (h : Row w g t xs) (i : Nat) : w.frozen? ⟨g, i, none⟩ = false :=
  frozen_of_row w g i _ t h
theorem Row.set {w : World} {g t : Nat} {xs : List Value} (h : Row w g t xs) (i : Nat) (v : Value) : Row (w.setCell ⟨g, i, none⟩ v) g t (xs.set i v) := by
  unfold Row at h ⊢
  rw [heap_setCell_same w g i _ t v h]
  simp
theorem Row.far {w : World} {g t : Nat} {xs : List Value} (h : Row w g t xs) (a : Addr) (v : Value) (hne : g ≠ a.block) : Row (w.setCell a v) g t xs := by
  unfold Row at h ⊢
  rw [heap_setCell_other w a g v hne]; exact h
theorem Row.drew {w : World} {g t : Nat} {xs : List Value} (h : Row w g t xs) : Row w.drew g t xs := h
theorem Row.new (w : World) (t : TypeId) (xs : List Value) : Row (w.alloc (.cells xs.toArray t)) w.heap.size t xs := heap_alloc_new w _
theorem Row.later {w w' : World} {g t : Nat} {xs : List Value} {B : Nat} (h : Row w g t xs) (hb : Below B w w') (hg : g < B) : Row w' g t xs := by
  unfold Row at h ⊢
  rw [hb.block g hg]; exact h
/-- A row that a slice owns whole. -/
theorem Row.of_own {w : World} {base t g n cap : Nat} {xs : List Value} (h : w.ownsRow base t 1 (.slice (some ⟨g, 0, none⟩) n cap) n xs) : ∃ ys, Row w g t (xs ++ ys) := by
  rcases h.2 with ⟨h1, _⟩ | ⟨g', cap', cur, hv, _, hg, _, _, _, htake⟩
  · cases h1
  · injection hv with h1 h2 h3
    injection h1 with h1
    injection h1 with h1
    subst h1
    refine ⟨cur.toList.drop n, ?_⟩
    unfold Row
    rw [hg, ← htake, Nat.mul_one, List.take_append_drop]

/-- The slice's value reads as the list: the address A, where there is anything to be read. -/
def Rd (w : World) (A : Option Addr) (xs : List Value) : Prop :=
  xs = [] ∨ ∃ b o, A = some ⟨b, o, none⟩ ∧ b < w.heap.size ∧ ∀ i, i < xs.length → w.cell? ⟨b, o + i, none⟩ = xs[i]?
theorem Rd.later {w w' : World} {A : Option Addr} {xs : List Value} {B : Nat} (h : Rd w A xs) (hB : w.heap.size ≤ B) (hb : Below B w w') : Rd w' A xs := by
  rcases h with h | ⟨b, o, rfl, hlt, hc⟩
  · exact .inl h
  · refine .inr ⟨b, o, rfl, by have := hb.size; omega, fun i hi => ?_⟩
    rw [hb.cell (p := ⟨b, o + i, none⟩) (by show b < B; omega)]; exact hc i hi
theorem Rd.row {w : World} {g t : Nat} {xs ys : List Value} (h : Row w g t (xs ++ ys)) : Rd w (some ⟨g, 0, none⟩) xs :=
  .inr ⟨g, 0, rfl, h.lt, fun i hi => by rw [Nat.zero_add, h.cell, List.getElem?_append_left hi]⟩
theorem Rd.get {w : World} {A : Option Addr} {xs : List Value} (h : Rd w A xs) {i : Nat} (hi : i < xs.length) : ∃ b o, A = some ⟨b, o, none⟩ ∧ b < w.heap.size ∧ w.cell? ⟨b, o + i, none⟩ = xs[i]? := by
  rcases h with h | ⟨b, o, rfl, hlt, hc⟩
  · subst h; simp at hi
  · exact ⟨b, o, rfl, hlt, hc i hi⟩

/-- The slice value '.slice A (length of xs) c' holds xs: nil let in. -/
structure Sl (w : World) (A : Option Addr) (c : Nat) (xs : List Value) : Prop where
  rd : Rd w A xs
  room : xs.length ≤ c
  bare : A = none → c = 0
theorem Sl.later {w w' : World} {A : Option Addr} {c : Nat} {xs : List Value} {B : Nat} (h : Sl w A c xs) (hB : w.heap.size ≤ B) (hb : Below B w w') : Sl w' A c xs :=
  ⟨h.rd.later hB hb, h.room, h.bare⟩
/-- The slice from place k on, where a place is left. -/
theorem Sl.cut {w : World} {b o c k : Nat} {xs : List Value} (h : Sl w (some ⟨b, o, none⟩) c xs) (hk : k ≤ xs.length) : Sl w (some ⟨b, o + k, none⟩) (c - k) (xs.drop k) := by
  refine ⟨?_, by have := h.room; rw [List.length_drop]; omega, fun h => by cases h⟩
  rcases h.rd with hn | ⟨b', o', hA, hlt, hc⟩
  · subst hn; exact .inl (by simp)
  · injection hA with hA
    injection hA with h1 h2
    subst h1 h2
    refine .inr ⟨b, o + k, rfl, hlt, fun i hi => ?_⟩
    rw [List.length_drop] at hi
    rw [Nat.add_assoc, hc (k + i) (by omega), List.getElem?_drop]
/-- What a slice of the call's own holds. -/
theorem Sl.of_own {w : World} {base t n : Nat} {v : Value} {xs : List Value} (h : w.ownsRow base t 1 v n xs) : ∃ A c, v = .slice A n c ∧ xs.length = n ∧ Sl w A c xs := by
  have hn : xs.length = n := by have := h.1; omega
  rcases h.2 with ⟨rfl, rfl⟩ | ⟨g, cap, cur, rfl, _, hg, hle, _, hs, htake⟩
  · exact ⟨none, 0, rfl, hn, ⟨.inl (List.eq_nil_of_length_eq_zero hn), by omega, fun _ => rfl⟩⟩
  · refine ⟨some ⟨g, 0, none⟩, cap, rfl, hn, ⟨.inr ⟨g, 0, rfl, (Array.getElem?_eq_some_iff.1 hg).1, fun i hi => ?_⟩, by omega, fun h => by cases h⟩⟩
    rw [Nat.zero_add, cell_of_row w g i cur t (0, 0) hg, ← htake, List.getElem?_take, if_pos (by omega)]
    simp
theorem Rd.at_add {w : World} {ad : Addr} {xs : List Value} (h : Rd w (some ad) xs) : ∀ j v, xs[j]? = some v → w.cell? (ad.add j) = some v := by
  intro j v hv
  have hj : j < xs.length := (List.getElem?_eq_some_iff.1 hv).1
  obtain ⟨b, o, hA, _, hc⟩ := h.get hj
  injection hA with hA
  subst hA
  rw [Addr.add_lit, hc]; exact hv

theorem cells_new (w : World) (t : TypeId) (xs : List Value) : ∀ j u, xs[j]? = some u → (w.alloc (.cells xs.toArray t)).cell? ((⟨w.heap.size, 0, none⟩ : Addr).add j) = some u := by
  intro j u hu
  rw [Addr.add_lit, Nat.zero_add, (Row.new w t xs).cell]; exact hu
theorem own_later {w w' : World} {base t n B : Nat} {v : Value} {xs : List Value} (h : w.ownsRow base t 1 v n xs) (hb : Below B w w') (hB : w.heap.size ≤ B) : w'.ownsRow base t 1 v n xs := by
  refine ⟨h.1, ?_⟩
  rcases h.2 with hn | ⟨g, cap, cur, rfl, hbg, hg, rest⟩
  · exact .inl hn
  · exact .inr ⟨g, cap, cur, rfl, hbg, (hb.block g (Nat.lt_of_lt_of_le (Array.getElem?_eq_some_iff.1 hg).1 hB)).trans hg, rest⟩
theorem run_append_sl {P : Program} (w : World) (base : Nat) (t ty e : TypeId) (i : TypeInfo) (z : Value) (bytes : Nat) (ht : P.underlying t = some (.slice e)) (hi : P.info? e = some i) (hz : i.zero = some z)
    (hsize : i.size = 1) (hby : i.bytes = bytes) (hzs : z.cells.size = 1) (v : Value) (n : Nat) (xs : List Value) (hown : w.ownsRow base e 1 v n xs)
    (A : Option Addr) (m c : Nat) (news : List Value) (hm : m = news.length) (hsl : Sl w A c news) (h1 : ∀ u ∈ news, u.oneCell' = true)
    (h63 : n + m ≤ maxLen) (hbytes : (n + m) * bytes ≤ 140737488355328) (hbase : base ≤ w.heap.size) :
    ∃ v' w', (Builtin.append_ #[t, t] ty #[v, .slice A m c]).run P w = .ok v' w' ∧ w'.ownsRow base e 1 v' (n + m) (xs ++ news) ∧ w.grownBy w' v.ownBlock := by
  subst hm
  cases A with
  | none =>
    have hc := hsl.bare rfl
    have hl := hsl.room
    obtain rfl : news = [] := List.eq_nil_of_length_eq_zero (by omega)
    subst hc
    exact ⟨v, w, run_append_owned_none (P := P) (w := w) base t ty e i 1 ht hi v n xs hown, by simpa using hown, World.grownBy.refl w _⟩
  | some ad =>
    obtain ⟨v', w', h1', h2, h3, _⟩ := run_append_own (P := P) w base t ty e i z 1 bytes ht hi hz hsize hby hzs (by omega) v n xs hown ad news.length c news (by omega) hsl.rd.at_add h1 h63 hbytes hbase
    exact ⟨v', w', h1', h2, h3⟩
theorem below_step {a b c : World} (h : Below a.heap.size a b) (k : Below b.heap.size b c) : Below a.heap.size a c := h.trans (k.mono h.size)
/-- 'append' onto a slice of the call's own, whatever is appended. -/
theorem wpList_append_sl {P : Program} {w : World} {ops : Array Oper} {rest : List Oper} {o : Oper} {a : Act} {Q : Exit → Act → World → Prop} (hgd : o.guard = none) (s x : Operand) (t : TypeId)
    (ho : o.op = .call { callee := .builtin .append, args := #[s, x], argTypes := #[t, t] })
    (base : Nat) (e : TypeId) (i : TypeInfo) (z : Value) (bytes : Nat) (ht : P.underlying t = some (.slice e)) (hi : P.info? e = some i) (hz : i.zero = some z)
    (hsize : i.size = 1) (hby : i.bytes = bytes) (hzs : z.cells.size = 1)
    (v : Value) (n : Nat) (xs : List Value) (hs : a.eval s = v) (hown : w.ownsRow base e 1 v n xs)
    (A : Option Addr) (m c : Nat) (news : List Value) (hx : a.eval x = .slice A m c) (hm : m = news.length) (hsl : Sl w A c news) (h1 : ∀ u ∈ news, u.oneCell' = true)
    (h63 : n + m ≤ maxLen) (hbytes : (n + m) * bytes ≤ 140737488355328) (hbase : base ≤ w.heap.size)
    (h : ∀ v' w', w'.ownsRow base e 1 v' (n + m) (xs ++ news) → w.grownBy w' v.ownBlock → wpList P ops Q rest (a.put o.dst v') w') : wpList P ops Q (o :: rest) a w := by
  subst hm
  cases A with
  | none =>
    have hc := hsl.bare rfl
    have hl := hsl.room
    obtain rfl : news = [] := List.eq_nil_of_length_eq_zero (by omega)
    subst hc
    refine wpList_append_own_none hgd s x t ho base e i 1 ht hi v n xs hs hown hx (h v w ?_ (World.grownBy.refl w _))
    simpa using hown
  | some ad => exact wpList_append_own w hgd s x t ho base e i z 1 bytes ht hi hz hsize hby hzs (by omega) v n xs hs hown ad news.length c news hx (by omega) hsl.rd.at_add h1 h63 hbytes hbase fun v' w' h2 h3 _ => h v' w' h2 h3

def byts (xs : List UInt8) : List Value := xs.map fun b => Value.int .u8 (b.toNat : Int)
theorem length_byts (xs : List UInt8) : (byts xs).length = xs.length := by unfold byts; simp
theorem get_byts (xs : List UInt8) (i : Nat) (h : i < xs.length) : (byts xs)[i]? = some (.int .u8 ((xs.getD i 0).toNat : Int)) := by
  unfold byts; simp [h]
theorem byts_append (xs ys : List UInt8) : byts (xs ++ ys) = byts xs ++ byts ys := by unfold byts; simp
theorem byts_one (xs : List UInt8) : ∀ v ∈ byts xs, v.oneCell' = true := by
  intro v hv
  obtain ⟨_, _, rfl⟩ := List.mem_map.1 hv
  rfl
theorem byte_bd (b : UInt8) : 0 ≤ (b.toNat : Int) ∧ (b.toNat : Int) < 256 := by have := b.toNat_lt; omega
/-- The call gave a slice of its own that holds just these bytes; what was there before is as it was. -/
def GaveBytes (xs : List UInt8) (w : World) (e : Ending) (w' : World) : Prop :=
  ∃ v, e = .returned v ∧ w'.ownsRow w.heap.size 5 1 v xs.length (byts xs) ∧ Below w.heap.size w w'

/-! ### A region that draws its order, step by step -/
theorem put_some (l : List Value) (d : List Deferred) (i : Nat) (v : Value) : ({ tmps := l.toArray, defers := d } : Act).put (some i) v = { tmps := (l.set i v).toArray, defers := d } := by
  simp [Act.put]
/-- What is kept in a region may be narrowed on the way: behind a call that made memory, to what keeps that. -/
theorem wpAnyH_narrow {P : Program} {md : Region.Mode} {ops : Array Oper} {Q : Exit → Act → World → Prop} {S S' : World → Prop} (hS : ∀ w, S' w → S w) :
    ∀ (fuel : Nat) (listed : Array Bool) (a : Act) (w : World), wpAnyH P md ops Q S' fuel listed a w → wpAnyH P md ops Q S fuel listed a w
  | 0, _, _, _, h => h
  | fuel + 1, _, _, _, h => ⟨h.1, fun i hi => wpOp_mono (fun a' w' h' => ⟨hS _ h'.1, wpAnyH_narrow hS fuel _ a' w' h'.2⟩) (h.2 i hi)⟩
section
variable {P : Program} {md : Region.Mode} {ops : Array Oper} {Q : Exit → Act → World → Prop} {S : World → Prop} {fuel : Nat} {listed : Array Bool} {a : Act} {w : World}
theorem rtake (i : Nat) (o : Oper) (d : Option Tmp) (v : Value) (hi : ops[i]? = some o) (hd : o.dst = d) (hs : Region.noSelect ops = true) (hf : Region.free md ops listed i = true) (hr : (Region.ready md ops listed).contains i = true)
    (hQ : ∀ c a w, Q (.panic c) (a.put d v) w → Q (.panic c) a w) (hw : Region.wanted o (yielded ops a.tmps) = true) (hS : S w) (hy : ∀ w, S w → (execOp a.eval o).run P w = .ok (.value v) w)
    (h : wpAnyH P md ops Q S fuel (listed.setIfInBounds i true) (a.put d v) w) : wpAnyH P md ops Q S (fuel + 1) listed a w := by
  subst hd
  exact wpAnyH_take hi hs hf hr hQ (Or.inl ⟨hw, hy⟩) hS h
variable {l l' : List Value} {ds : List Deferred}
/-- rtake, what a kernel can tell told by itself; the slots written out. -/
theorem rt (i d : Nat) (hS : S w) {o : Oper} {v : Value} (h : wpAnyH P md ops Q S fuel (listed.setIfInBounds i true) { tmps := l'.toArray, defers := ds } w)
    (hi : ops[i]? = some o := by rfl) (hd : o.dst = some d := by rfl) (hs : Region.noSelect ops = true := by kernel_rfl) (hf : Region.free md ops listed i = true := by kernel_rfl) (hr : (Region.ready md ops listed).contains i = true := by kernel_rfl)
    (hQ : ∀ c a w, Q (.panic c) (a.put (some d) v) w → Q (.panic c) a w := by exact fun _ _ _ h => h) (hw : Region.wanted o (yielded ops l.toArray) = true := by rfl)
    (hy : ∀ w, S w → (execOp (Act.eval { tmps := l.toArray, defers := ds }) o).run P w = .ok (.value v) w := by intro w hS; go_simp; try with_reducible rfl)
    (hl : l.set d v = l' := by first | (dsimp only [List.set]; exact rfl) | dsimp only [List.set]) : wpAnyH P md ops Q S (fuel + 1) listed { tmps := l.toArray, defers := ds } w :=
  rtake i o (some d) v hi hd hs hf hr hQ hw hS hy (by rw [put_some, hl]; exact h)
/-! An operation that comes up next, alone or as one of two; and the way back into the region behind it, the slots written out. -/
theorem rc1 (i : Nat) {o : Oper} (h : ∀ K' : Act → World → Prop, Shut (∀ a w, S w → (S w → wpAnyH P md ops Q S fuel (listed.setIfInBounds i true) a w) → K' a w) → if Region.wanted o (yielded ops a.tmps) = true then Oper.wp P o a w K' Q else K' (a.put o.dst undef) w)
    (hr : Region.ready md ops listed = [i] := by kernel_rfl) (ho : ops[i]? = some o := by rfl) : wpAnyH P md ops Q S (fuel + 1) listed a w := wpAnyH_ready hr (by simp) (AllReadyH.cons ho h AllReadyH.nil)
theorem rc2 (i j : Nat) {o u : Oper} (h : ∀ K' : Act → World → Prop, Shut (∀ a w, S w → (S w → wpAnyH P md ops Q S fuel (listed.setIfInBounds i true) a w) → K' a w) → if Region.wanted o (yielded ops a.tmps) = true then Oper.wp P o a w K' Q else K' (a.put o.dst undef) w)
    (g : ∀ K' : Act → World → Prop, Shut (∀ a w, S w → (S w → wpAnyH P md ops Q S fuel (listed.setIfInBounds j true) a w) → K' a w) → if Region.wanted u (yielded ops a.tmps) = true then Oper.wp P u a w K' Q else K' (a.put u.dst undef) w)
    (hr : Region.ready md ops listed = [i, j] := by kernel_rfl) (ho : ops[i]? = some o := by rfl) (hu : ops[j]? = some u := by rfl) : wpAnyH P md ops Q S (fuel + 1) listed a w := wpAnyH_ready hr (by simp) (AllReadyH.cons ho h (AllReadyH.cons hu g AllReadyH.nil))
theorem rk {K : Act → World → Prop} {d : Nat} {v : Value} (hK : Shut (∀ a w, S w → (S w → wpAnyH P md ops Q S fuel listed a w) → K a w)) (hS : S w) (h : S w → wpAnyH P md ops Q S fuel listed { tmps := l'.toArray, defers := ds } w)
    (hl : l.set d v = l' := by first | (dsimp only [List.set]; exact rfl) | dsimp only [List.set]) : K (({ tmps := l.toArray, defers := ds } : Act).put (some d) v) w := hK.out _ _ hS fun h' => by rw [put_some, hl]; exact h h'
end
end Go.Proofs.YtnkkgclmmaakgaaDoor

/- LAYER 1: package word's tables, read. -/
namespace Go.Proofs.YtnkkgclmmaakgaaDoor
set_option maxRecDepth 100000
open Go.RowKit

/-- The table of the cube roots lies in memory as the program's text has it. -/
structure Cube (w : World) : Prop where
  at_ : ∀ i, i < 64 → w.cell? ⟨1, i, none⟩ = some (.int .u32 (cubeT.getD i 0))
theorem Cube.size {w : World} (h : Cube w) : 1 < w.heap.size :=
  World.block_lt_of_cell? w ⟨1, 0, none⟩ (h.at_ 0 (by decide))
theorem Cube.later {w w' : World} {B : Nat} (h : Cube w) (hb : Below B w w') (hB : w.heap.size ≤ B) : Cube w' :=
  ⟨fun i hi => by rw [hb.cell (p := ⟨1, i, none⟩) (Nat.lt_of_lt_of_le h.size hB)]; exact h.at_ i hi⟩
/-- The table of the square roots lies in memory as the program's text has it. -/
structure Square (w : World) : Prop where
  at_ : ∀ i, i < 8 → w.cell? ⟨0, i, none⟩ = some (.int .u32 (squareT.getD i 0))
theorem Square.size {w : World} (h : Square w) : 0 < w.heap.size :=
  World.block_lt_of_cell? w ⟨0, 0, none⟩ (h.at_ 0 (by decide))
theorem Square.later {w w' : World} {B : Nat} (h : Square w) (hb : Below B w w') (hB : w.heap.size ≤ B) : Square w' :=
  ⟨fun i hi => by rw [hb.cell (p := ⟨0, i, none⟩) (Nat.lt_of_lt_of_le h.size hB)]; exact h.at_ i hi⟩
/-- The two tables of package word lie in memory as the program's text has them. -/
structure Tabs (w : World) : Prop where
  cu : Cube w
  sq : Square w
theorem Tabs.later {w w' : World} {B : Nat} (h : Tabs w) (hb : Below B w w') (hB : w.heap.size ≤ B) : Tabs w' := ⟨h.cu.later hb hB, h.sq.later hb hB⟩
def primeV (i : Int) : Int := if 0 ≤ i ∧ i < 64 then cubeT.getD i.toNat 0 else 0
theorem prime_any (i : Int) (w : World) (hT : Cube w) (hi : -9223372036854775808 ≤ i ∧ i ≤ 9223372036854775807) :
    Calls Tryd.prog 72 #[.int .i64 i] w fun e w' => e = .returned (.int .u32 (primeV i)) ∧ w = w' := by
  by_cases h : 0 ≤ i ∧ i < 64
  · obtain ⟨h0, h1⟩ := h
    obtain ⟨n, rfl⟩ := Int.eq_ofNat_of_zero_le h0
    have e : primeV (n : Int) = cubeT.getD n 0 := by unfold primeV; rw [if_pos ⟨h0, h1⟩, Int.toNat_natCast]
    rw [e]
    have c := hT.at_ n (by omega)
    generalize cubeT.getD n 0 = C at *
    clear e hT
    go_enter Tryd.func72, Tryd.ntmps72
    go_wp2
    go_ret
    exact ⟨rfl, rfl⟩
  · have e : primeV i = 0 := by unfold primeV; rw [if_neg h]
    rw [e]
    clear e
    by_cases h1 : i < 0
    · go_enter Tryd.func72, Tryd.ntmps72
      go_wp2
      go_ret
      exact ⟨rfl, rfl⟩
    · have h2 : 64 ≤ i := by omega
      go_enter Tryd.func72, Tryd.ntmps72
      go_wp2
      go_ret
      exact ⟨rfl, rfl⟩
def startV : Value := .agg (squareT.map (Value.int .u32)).toArray
theorem start_any (w : World) (hT : Square w) :
    Calls Tryd.prog 68 #[] w fun e w' => e = .returned startV ∧ Below w.heap.size w w' := by
  have c0 : w.cell? ⟨0, 0, none⟩ = some (.int .u32 1779033703) := hT.at_ 0 (by decide)
  have c1 : w.cell? ⟨0, 1, none⟩ = some (.int .u32 3144134277) := hT.at_ 1 (by decide)
  have c2 : w.cell? ⟨0, 2, none⟩ = some (.int .u32 1013904242) := hT.at_ 2 (by decide)
  have c3 : w.cell? ⟨0, 3, none⟩ = some (.int .u32 2773480762) := hT.at_ 3 (by decide)
  have c4 : w.cell? ⟨0, 4, none⟩ = some (.int .u32 1359893119) := hT.at_ 4 (by decide)
  have c5 : w.cell? ⟨0, 5, none⟩ = some (.int .u32 2600822924) := hT.at_ 5 (by decide)
  have c6 : w.cell? ⟨0, 6, none⟩ = some (.int .u32 528734635) := hT.at_ 6 (by decide)
  have c7 : w.cell? ⟨0, 7, none⟩ = some (.int .u32 1541459225) := hT.at_ 7 (by decide)
  have hs := hT.size
  clear hT
  go_enter Tryd.func68, Tryd.ntmps68
  go_wp2
  go_returns
  refine ⟨rfl, ?_⟩
  go_grown
end Go.Proofs.YtnkkgclmmaakgaaDoor

/- WHAT ALL CARDS OF THIS SEAT SHARE: the listed tables, read off the row's condition; a world for the witness. -/
namespace Go.Proofs.YtnkkgclmmaakgaaDoor
set_option maxRecDepth 100000
open Go.ChangeShapes Go.WideShapes Go.ChangeAt Go.RowKit

theorem own : ownKnob Tryd.prog.godebug = none := by kernel_rfl
theorem laidOut : laidOutB Tryd.prog = true := by kernel_rfl
theorem gCube : Tryd.prog.globalNamed "chitty/word.cubeRoots" = some 1 := by kernel_rfl
theorem gCubeT : (Tryd.prog.globals[1]?).map (·.type) = some 104 := by kernel_rfl
theorem gSquare : Tryd.prog.globalNamed "chitty/word.squareRoots" = some 0 := by kernel_rfl
theorem gSquareT : (Tryd.prog.globals[0]?).map (·.type) = some 97 := by kernel_rfl
theorem cells64 : Tryd.prog.cellsOf 104 = 64 := by kernel_rfl
theorem cells8 : Tryd.prog.cellsOf 97 = 8 := by kernel_rfl
theorem cells1 : Tryd.prog.cellsOf 89 = 1 := by kernel_rfl

/-- The first of the listed variables is a table of integers; the others follow. -/
theorem tab_of_vars {P : Program} {W : World} {name : String} {k : IntKind} {zs : List Int} {rest : List (String × DataW Unit)} {ps : List MemPlace} {g : Nat} {t e : TypeId} {n : Nat}
    (hg : P.globalNamed name = some g) (hty : (P.globals[g]?).map (·.type) = some t) (ht : P.underlying t = some (.array n e)) (he : P.underlying e = some (.int k)) (hce : P.cellsOf e = 1) (hct : P.cellsOf t = n)
    (h : DataW.LaidVars P W ((name, Lib.tabData k zs) :: rest) ps) : Lib.TabIs P W name k zs ∧ ∃ qs, DataW.LaidVars P W rest qs := by
  obtain ⟨g', t', cs, fuel, p, q, hg', ht', hvar, hd, hr, _⟩ := h
  obtain rfl := Option.some.inj (hg.symm.trans hg')
  obtain rfl := Option.some.inj (hty.symm.trans ht')
  refine ⟨?_, q, hr⟩
  unfold Lib.TabIs
  rw [hvar, ← Lib.cells_of_tab ht he hce hct hd]
/-- What the row's list gives, where both tables are listed. -/
theorem tabs_of {W : World} (h : laidMet Tryd.prog [("chitty/word.cubeRoots", Rows.laid_chitty_word_cubeRoots), ("chitty/word.squareRoots", Rows.laid_chitty_word_squareRoots)] W) : Tabs W := by
  obtain ⟨ps, hv, _⟩ := h
  obtain ⟨t1, qs, h2⟩ := tab_of_vars (zs := cubeT) gCube gCubeT Tryd.underlying104 Tryd.underlying89 cells1 cells64 hv
  obtain ⟨t2, _, _⟩ := tab_of_vars (zs := squareT) gSquare gSquareT Tryd.underlying97 Tryd.underlying89 cells1 cells8 h2
  exact ⟨⟨fun i hi => t1.cell gCube i hi⟩, ⟨fun i hi => t2.cell gSquare i hi⟩⟩
theorem ints_of_list {k : IntKind} (l : List Value) (h : ∀ i, i < l.length → ∃ z, l[i]? = some (.int k z) ∧ (Lit.int k z).wf = true) :
    ∃ zs : List Int, zs.length = l.length ∧ l = zs.map (Value.int k) ∧ ∀ i, i < l.length → (Lit.int k (zs.getD i 0)).wf = true := by
  induction l with
  | nil => exact ⟨[], rfl, rfl, fun i hi => by simp at hi⟩
  | cons c l ih =>
    obtain ⟨z, hz, hw⟩ := h 0 (by simp)
    obtain ⟨zs, h1, h2, h3⟩ := ih (fun i hi => by simpa using h (i + 1) (by simpa using hi))
    simp at hz
    subst hz
    refine ⟨z :: zs, by simp [h1], by simp [h2], fun i hi => ?_⟩
    cases i with
    | zero => simpa using hw
    | succ i => simpa using h3 i (by simpa using hi)
theorem bytes_of_ints (zs : List Int) (h : ∀ j, j < zs.length → 0 ≤ zs.getD j 0 ∧ zs.getD j 0 ≤ 255) : ∃ l : List UInt8, l.length = zs.length ∧ zs.map (Value.int .u8) = byts l := by
  induction zs with
  | nil => exact ⟨[], rfl, rfl⟩
  | cons z zs ih =>
    have h0 := h 0 (by simp)
    obtain ⟨l, h1, h2⟩ := ih (fun j hj => by simpa using h (j + 1) (by simpa using hj))
    simp only [List.getD_cons_zero] at h0
    refine ⟨UInt8.ofNat z.toNat :: l, by simp [h1], ?_⟩
    show Value.int .u8 z :: zs.map (Value.int .u8) = Value.int .u8 ((UInt8.ofNat z.toNat).toNat : Int) :: byts l
    rw [h2, UInt8.toNat_ofNat']
    congr 2
    omega
def setTab (zs : List Int) : Obj → Obj
  | .cells _ t frozen => .cells (zs.map (Value.int .u32)).toArray t frozen
  | o => o
/-- The settled world, the tables as their initialisers lay them. -/
noncomputable def laidWorld (os : Os) : World :=
  { World.holding Tryd.prog os ⟨#[], #[], []⟩ with heap := ((World.holding Tryd.prog os ⟨#[], #[], []⟩).heap.modify 1 (setTab cubeT)).modify 0 (setTab squareT) }
end Go.Proofs.YtnkkgclmmaakgaaDoor

/- MEMORY, MORE: 'append(x, make([]T, n)...)' onto a slice of the call's own; bytes 0. No Go function is spoken of here. -/
namespace Go.Proofs.YtnkkgclmmaakgaaDoor
set_option maxRecDepth 100000
open Go Go.RowKit

theorem own_mono {w : World} {base base' : Nat} {e : TypeId} {size : Nat} {v : Value} {n : Nat} {xs : List Value} (h : w.ownsRow base e size v n xs) (hb : base' ≤ base) : w.ownsRow base' e size v n xs :=
  ⟨h.1, h.2.imp id fun ⟨g, cap, cur, h1, h2, h3⟩ => ⟨g, cap, cur, h1, Nat.le_trans hb h2, h3⟩⟩
theorem zeros_list (k : IntKind) (m : Nat) : (Builtin.zeroCells (Value.int k 0).cells m).toList = List.replicate m (Value.int k 0) := by
  apply List.ext_getElem
  · simp [Builtin.zeroCells, Value.cells]
  · intro i h1 h2
    simp [Builtin.zeroCells, Value.cells, Nat.mod_one]
theorem made_list (k : IntKind) (m : Nat) : (madeCells (Value.int k 0).cells (m * 1)).toList = List.replicate m (Value.int k 0) := by
  apply List.ext_getElem
  · simp [madeCells, Value.cells]
  · intro i h1 h2
    simp [madeCells, Value.cells, Nat.mod_one]
theorem zeros_one (k : IntKind) (m : Nat) : ∀ u ∈ List.replicate m (Value.int k 0), u.oneCell' = true := by
  intro u hu
  obtain ⟨_, rfl⟩ := List.mem_replicate.1 hu
  rfl
theorem zeros_eq (k : IntKind) (m : Nat) : Builtin.zeroCells (Value.int k 0).cells m = (List.replicate m (Value.int k 0)).toArray := by
  apply Array.ext'
  rw [zeros_list]
theorem run_append_zeros_room {P : Program} (w : World) (t tn ty e : TypeId) (i : TypeInfo) (q k kn : IntKind) (ht : P.underlying t = some (.slice e)) (htn : P.underlying tn = some (.int kn)) (hi : P.info? e = some i) (hz : i.zero = some (.int q 0)) (hsize : i.size = 1)
    (g n cap m : Nat) (cur : Array Value) (hg : w.heap[g]? = some (.cells cur e (0, 0))) (hroom : n + m ≤ cap) (hfit : n + m ≤ cur.size) (hm : (m : Int) ≤ 9223372036854775807) (h48 : m * i.bytes ≤ 281474976710656) :
    (Builtin.append_ #[t, tn] ty #[.slice (some ⟨g, 0, none⟩) n cap, .int k m]).run P w =
      .ok (.slice (some ⟨g, 0, none⟩) (n + m) cap) (w.setRow g (cur.toList.take n ++ List.replicate m (Value.int q 0) ++ cur.toList.drop (n + m)).toArray) := by
  have hw : IntKind.i64.wrap (m : Int) = m := by rw [IntKind.wrap_i64]; omega
  have hneg : ¬ ((m : Int) < 0) := by omega
  have h48i : ¬ (281474976710656 < (m : Int) * (i.bytes : Int)) := by
    rw [← Int.natCast_mul]
    omega
  have hst := run_storeCells_at P g n e (List.replicate m (Value.int q 0)) 0 cur w hg (by simpa using hfit) (zeros_one q m)
  simp only [Nat.add_zero, List.length_replicate] at hst
  by_cases h0 : m = 0
  · subst h0
    have hroom' : n ≤ cap := hroom
    have hw0 : IntKind.i64.wrap 0 = 0 := by rw [IntKind.wrap_i64]; rfl
    have hst' : (storeCells ⟨g, n, none⟩ []).run P w = Result.ok () (w.setRow g (cur.toList.take n ++ cur.toList.drop n).toArray) := by simpa using hst
    simp [Builtin.append_, run_underlying ht, run_underlying htn, sizeOf, typeInfo, zeroValue, hi, hz, hsize, asInt, asIntOf, hw0, hroom', Addr.add_lit, hst']
  · simp [Builtin.append_, run_underlying ht, run_underlying htn, sizeOf, typeInfo, zeroValue, hi, hz, hsize, asInt, asIntOf, hw, hneg, h48i, h0, hroom, Addr.add_lit, zeros_list, hst]
theorem run_append_zeros_grow {P : Program} (w : World) (t tn ty e : TypeId) (i : TypeInfo) (q k kn : IntKind) (ht : P.underlying t = some (.slice e)) (htn : P.underlying tn = some (.int kn)) (hi : P.info? e = some i) (hz : i.zero = some (.int q 0)) (hsize : i.size = 1)
    (b : Addr) (n cap m : Nat) (olds : List Value) (hlo : olds.length = n * i.size) (holds : ∀ j v, olds[j]? = some v → w.cell? (b.add j) = some v)
    (hg : cap < n + m) (h0 : m ≠ 0) (hm : ((n + m : Nat) : Int) ≤ 9223372036854775807) (h48 : m * i.bytes ≤ 281474976710656) (hfit : Builtin.nextslicecap (n + m) cap * i.bytes ≤ 281474976710656) :
    (Builtin.append_ #[t, tn] ty #[.slice (some b) n cap, .int k m]).run P w =
      .ok (.slice (some ⟨w.heap.size, 0, none⟩) (n + m) (grownCap w (n + m) cap e))
        (w.drew.alloc (.cells (olds.toArray ++ (List.replicate m (Value.int q 0)).toArray ++ Builtin.zeroCells (Value.int q 0).cells (grownCap w (n + m) cap e - (n + m))) e)) := by
  have hw : IntKind.i64.wrap (m : Int) = m := by rw [IntKind.wrap_i64]; omega
  have hneg : ¬ ((m : Int) < 0) := by omega
  have h48i : ¬ (281474976710656 < (m : Int) * (i.bytes : Int)) := by
    rw [← Int.natCast_mul]
    omega
  have hn : ¬ (n + m ≤ cap) := by omega
  have h63' : ¬ (9223372036854775807 < ((n : Int) + (m : Int))) := by omega
  have h48' : ¬ (281474976710656 < Builtin.nextslicecap (n + m) cap * i.bytes) := by omega
  have hfo := run_firstCells_some (P := P) w.drew i.size n b n cap olds hlo (by simpa using holds)
  rw [hsize] at hfo
  simp [Builtin.append_, run_underlying ht, run_underlying htn, sizeOf, typeInfo, zeroValue, hi, hz, hsize, asInt, asIntOf, hw, hneg, h48i, h0, hn, h63', h48', Question.forced, hfo, newRow, grownCap, zeros_eq]
/-- 'append(x, make([]T, m)...)', x a slice of the call's own that has an array. -/
theorem run_append_own_zeros {P : Program} (w : World) (base : Nat) (t tn ty e : TypeId) (i : TypeInfo) (q k kn : IntKind) (bytes : Nat) (ht : P.underlying t = some (.slice e)) (htn : P.underlying tn = some (.int kn)) (hi : P.info? e = some i) (hz : i.zero = some (.int q 0)) (hsize : i.size = 1) (hby : i.bytes = bytes)
    (g n cap m : Nat) (xs : List Value) (hown : w.ownsRow base e 1 (.slice (some ⟨g, 0, none⟩) n cap) n xs)
    (h63 : n + m ≤ maxLen) (hbytes : (n + m) * bytes ≤ 140737488355328) (hbase : base ≤ w.heap.size) :
    ∃ v' w', (Builtin.append_ #[t, tn] ty #[.slice (some ⟨g, 0, none⟩) n cap, .int k m]).run P w = .ok v' w' ∧ w'.ownsRow base e 1 v' (n + m) (xs ++ List.replicate m (Value.int q 0)) ∧ w.grownBy w' (some g) := by
  subst hby
  have hsmall : n + m ≤ 9223372036854775807 := by simp only [maxLen] at h63; omega
  have hlx : xs.length = n := by have := hown.1; omega
  have hlen : (xs ++ List.replicate m (Value.int q 0)).length = (n + m) * 1 := by rw [List.length_append, List.length_replicate, hlx]; omega
  have hb48 : m * i.bytes ≤ 281474976710656 := by
    have : m * i.bytes ≤ (n + m) * i.bytes := Nat.mul_le_mul_right _ (Nat.le_add_left m n)
    omega
  rcases hown.2 with ⟨h, _⟩ | ⟨g', cap', cur, hv, hbg, hg, hnc, hcm, hcs, htake⟩
  · cases h
  injection hv with h1 h2 h3
  injection h1 with h1
  injection h1 with h1
  subst h1 h3
  rw [Nat.mul_one] at hcs htake
  by_cases hroom : n + m ≤ cap
  · have hr := run_append_zeros_room (P := P) w t tn ty e i q k kn ht htn hi hz hsize g n cap m cur hg hroom (by omega) (by omega) hb48
    refine ⟨_, _, hr, ⟨hlen, .inr ⟨g, cap, _, rfl, hbg, setRow_heap w g cur _ e _ hg, hroom, hcm, ?_, ?_⟩⟩, ⟨rfl, rfl, rfl, by simp, fun k _ hk => setRow_other w g k _ (fun e => hk (by rw [e]))⟩⟩
    · simp only [List.size_toArray, List.length_append, List.length_take, List.length_drop, Array.length_toList, List.length_replicate]
      omega
    · rw [htake, ← hlen]
      exact List.take_left
  · have h0 : m ≠ 0 := by omega
    have holds : ∀ j u, xs[j]? = some u → w.cell? ((⟨g, 0, none⟩ : Addr).add j) = some u := hown.cells (g := g) rfl
    have hr := run_append_zeros_grow (P := P) w t tn ty e i q k kn ht htn hi hz hsize ⟨g, 0, none⟩ n cap m xs (by rw [hsize]; omega) holds (by omega) h0 (by omega) hb48 (growslice_fits (by omega) hbytes)
    have hge := grownCap_ge w (n + m) cap e
    have hcm : grownCap w (n + m) cap e ≤ maxLen := grownCap_le_maxLen w (n + m) cap e h63
    refine ⟨_, _, hr, ⟨hlen, .inr ⟨w.heap.size, _, _, rfl, hbase, heap_alloc_new w.drew _, hge, hcm, ?_, ?_⟩⟩, ⟨rfl, rfl, rfl, by simp, fun b hb _ => heap_alloc_old w.drew _ hb⟩⟩
    · have hzc : (Value.int q 0).cells.size = 1 := rfl
      simp only [Array.size_append, List.size_toArray, size_zeroCells, List.length_replicate, hlx, hzc]
      omega
    · simp only [Array.toList_append]
      rw [← hlen]
      exact List.take_left
theorem wpList_append_own_zeros {P : Program} {w : World} {ops : Array Oper} {rest : List Oper} {o : Oper} {a : Act} {Q : Exit → Act → World → Prop} (hgd : o.guard = none) (s x : Operand) (t tn : TypeId)
    (ho : o.op = .call { callee := .builtin .append, args := #[s, x], argTypes := #[t, tn] })
    (base : Nat) (e : TypeId) (i : TypeInfo) (q k kn : IntKind) (bytes : Nat) (ht : P.underlying t = some (.slice e)) (htn : P.underlying tn = some (.int kn)) (hi : P.info? e = some i) (hz : i.zero = some (.int q 0)) (hsize : i.size = 1) (hby : i.bytes = bytes)
    (g n cap m : Nat) (M : Int) (xs : List Value) (hs : a.eval s = .slice (some ⟨g, 0, none⟩) n cap) (hown : w.ownsRow base e 1 (.slice (some ⟨g, 0, none⟩) n cap) n xs) (hx : a.eval x = .int k M) (hM : M = (m : Int))
    (h63 : n + m ≤ maxLen) (hbytes : (n + m) * bytes ≤ 140737488355328) (hbase : base ≤ w.heap.size)
    (h : ∀ v' w', w'.ownsRow base e 1 v' (n + m) (xs ++ List.replicate m (.int q 0)) → w.grownBy w' (some g) → wpList P ops Q rest (a.put o.dst v') w') : wpList P ops Q (o :: rest) a w := by
  subst hM
  refine wpList_plain hgd fun K hK => ?_
  obtain ⟨v', w', hrun, h2, h3⟩ := run_append_own_zeros (P := P) w base t tn o.type e i q k kn bytes ht htn hi hz hsize hby g n cap m xs hown h63 hbytes hbase
  unfold Oper.wp execOp
  simp only [ho, resolve, invoke, builtin, Sem.run_bind, Sem.run_pure, Result.andThen_ok, List.map_toArray, List.map_cons, List.map_nil, hs, hx, hrun]
  exact hK _ _ (h v' w' h2 h3)
/-- 'append' onto a slice of the call's own that has an array: what lay in that array stays as it was. -/
theorem run_append_kept {P : Program} (w : World) (base : Nat) (t ty e : TypeId) (i : TypeInfo) (z : Value) (bytes : Nat) (ht : P.underlying t = some (.slice e)) (hi : P.info? e = some i) (hz : i.zero = some z)
    (hsize : i.size = 1) (hby : i.bytes = bytes) (hzs : z.cells.size = 1) (g n cap : Nat) (xs : List Value) (hown : w.ownsRow base e 1 (.slice (some ⟨g, 0, none⟩) n cap) n xs)
    (a : Addr) (m c : Nat) (news : List Value) (hl : news.length = m * 1) (hnews : ∀ j u, news[j]? = some u → w.cell? (a.add j) = some u) (h1 : ∀ u ∈ news, u.oneCell' = true)
    (h63 : n + m ≤ maxLen) (hbytes : (n + m) * bytes ≤ 140737488355328) (hbase : base ≤ w.heap.size) :
    ∃ v' w', (Builtin.append_ #[t, t] ty #[.slice (some ⟨g, 0, none⟩) n cap, .slice (some a) m c]).run P w = .ok v' w' ∧ w'.ownsRow base e 1 v' (n + m) (xs ++ news) ∧ w.grownBy w' (some g) ∧
      ∀ j, j < n → w'.cell? ⟨g, j, none⟩ = w.cell? ⟨g, j, none⟩ := by
  obtain ⟨v', w', hr, h2, h3, _⟩ := run_append_own (P := P) w base t ty e i z 1 bytes ht hi hz hsize hby hzs (by omega) _ n xs hown a m c news hl hnews h1 h63 hbytes hbase
  refine ⟨v', w', hr, h2, h3, fun j hj => ?_⟩
  have hlx : xs.length = n := by have := hown.1; omega
  rcases hown.2 with ⟨h, _⟩ | ⟨g', cap', cur, hv, hbg, hg, hnc, hcm, hcs, htake⟩
  · cases h
  injection hv with e1 e2 e3
  injection e1 with e1
  injection e1 with e1
  subst e1 e3
  rw [Nat.mul_one] at hcs htake
  by_cases hroom : n + m ≤ cap
  · have hfit : n * i.size + news.length ≤ cur.size := by rw [hsize, hl]; omega
    have hq := run_append_room (P := P) w t ty e i ht hi g n cap cur hg a m c news (by rw [hsize]; exact hl) hnews h1 hroom hfit
    rw [hr] at hq
    injection hq with _ hw
    rw [hw, cell_setRow_same w g j cur _ e (0, 0) hg, cell_of_row w g j cur e (0, 0) hg, hsize, Nat.mul_one]
    rw [List.getElem?_toArray, List.append_assoc, List.getElem?_append_left (by rw [List.length_take, Array.length_toList]; omega), List.getElem?_take, if_pos hj]
    simp
  · have holds : ∀ j u, xs[j]? = some u → w.cell? ((⟨g, 0, none⟩ : Addr).add j) = some u := hown.cells (g := g) rfl
    have hq := run_append_grow (P := P) w t ty e i z ht hi hz ⟨g, 0, none⟩ n cap xs (by rw [hsize]; omega) holds a m c news (by rw [hsize]; exact hl) hnews (by omega) (by simp only [maxLen] at h63; omega) (growslice_fits (by omega) (by rw [hby]; exact hbytes))
    rw [hr] at hq
    injection hq with _ hw
    have hlt : g < w.heap.size := (Array.getElem?_eq_some_iff.1 hg).1
    rw [hw, World.cell?_alloc_lt _ _ _ (by exact hlt)]
    rfl
/-- The same as one step of a region that draws its order. -/
theorem step_append_kept {P : Program} {w : World} {ops : Array Oper} {o : Oper} {a : Act} {K : Act → World → Prop} {Q : Exit → Act → World → Prop} {E : Prop} (hgd : Region.wanted o (yielded ops a.tmps) = true) (s x : Operand) (t : TypeId)
    (ho : o.op = .call { callee := .builtin .append, args := #[s, x], argTypes := #[t, t] })
    (base : Nat) (e : TypeId) (i : TypeInfo) (z : Value) (bytes : Nat) (ht : P.underlying t = some (.slice e)) (hi : P.info? e = some i) (hz : i.zero = some z)
    (hsize : i.size = 1) (hby : i.bytes = bytes) (hzs : z.cells.size = 1)
    (g n cap : Nat) (xs : List Value) (hs : a.eval s = .slice (some ⟨g, 0, none⟩) n cap) (hown : w.ownsRow base e 1 (.slice (some ⟨g, 0, none⟩) n cap) n xs)
    (ad : Addr) (m c : Nat) (news : List Value) (hx : a.eval x = .slice (some ad) m c) (hl : news.length = m * 1) (hnews : ∀ j u, news[j]? = some u → w.cell? (ad.add j) = some u) (h1 : ∀ u ∈ news, u.oneCell' = true)
    (h63 : n + m ≤ maxLen) (hbytes : (n + m) * bytes ≤ 140737488355328) (hbase : base ≤ w.heap.size)
    (h : ∀ v' w', w'.ownsRow base e 1 v' (n + m) (xs ++ news) → w.grownBy w' (some g) → (∀ j, j < n → w'.cell? ⟨g, j, none⟩ = w.cell? ⟨g, j, none⟩) → K (a.put o.dst v') w') :
    if Region.wanted o (yielded ops a.tmps) = true then Oper.wp P o a w K Q else E := by
  rw [if_pos hgd]
  obtain ⟨v', w', hrun, h2, h3, h4⟩ := run_append_kept (P := P) w base t o.type e i z bytes ht hi hz hsize hby hzs g n cap xs hown ad m c news hl hnews h1 h63 hbytes hbase
  unfold Oper.wp execOp
  simp only [ho, resolve, invoke, builtin, Sem.run_bind, Sem.run_pure, Result.andThen_ok, List.map_toArray, List.map_cons, List.map_nil, hs, hx, hrun]
  exact h v' w' h2 h3 h4
end Go.Proofs.YtnkkgclmmaakgaaDoor
