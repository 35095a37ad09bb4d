/- LAYER 5: package tag's Parse: 64 digits of 16 as 32 bytes. -/
import Derived.Test.YtbleokbjihdopaaTx
import Derived.Lib.Bytealg
import Derived.Test.YtbleokbjihdopaaCv
namespace Go.Proofs.Ytbleokbjihdopaa
open Go Go.RowKit

/-! ### Where a byte stands first -/
theorem slite_any (s : ByteArray) (c : UInt8) (w : World) :
    Calls Try.prog 20 #[.string s, .int .u8 (c.toNat : Int)] w fun e w' => e = .returned (.int .i64 (Lib.indexByte s.data.toList c)) ∧ w = w' := by
  have hr := Lib.run_indexByteString (P := Try.prog) s (c.toNat : Int) w
  have hc : ((c.toNat : Int)).toNat.toUInt8 = c := by simp
  rw [hc] at hr
  generalize Lib.indexByte s.data.toList c = r at *
  clear hc
  go_enter Try.func20, Try.ntmps20
  go_wp2
  rw [run_callFunc_extern Try.func21 (by kernel_rfl) (by kernel_rfl) (by kernel_rfl) (e := Extern.BytealgIndexByte.indexByte) (by kernel_rfl), hr]
  simp only [Result.andThen]
  rw [Oper.upon_value]
  go_wp2
  go_ret
  exact ⟨rfl, rfl⟩
theorem indexByte_any (s : ByteArray) (c : UInt8) (w : World) :
    Calls Try.prog 16 #[.string s, .int .u8 (c.toNat : Int)] w fun e w' => e = .returned (.int .i64 (Lib.indexByte s.data.toList c)) ∧ w = w' := by
  go_enter Try.func16, Try.ntmps16
  go_wp2_with (go_at_call 20; refine (slite_any _ _ _).mono ?_; rintro e w' ⟨rfl, rfl⟩)
  go_ret
  exact ⟨rfl, rfl⟩
theorem index_hit (l : List UInt8) (c : UInt8) : ∀ k, k < l.length → l.getD k 0 = c → (∀ j, j < k → l.getD j 0 ≠ c) → Lib.indexByte l c = k := by
  induction l with
  | nil => intro k h; simp at h
  | cons b l ih =>
    intro k hk hc hn
    unfold Lib.indexByte
    cases k with
    | zero => rw [List.getD_cons_zero] at hc; rw [if_pos (by simp [hc])]; rfl
    | succ k =>
      have h0 := hn 0 (by omega)
      rw [List.getD_cons_zero] at h0
      rw [List.getD_cons_succ] at hc
      have h := ih k (by simpa using hk) hc (fun j hj => by have := hn (j + 1) (by omega); rwa [List.getD_cons_succ] at this)
      rw [if_neg (by simp [h0]), h, if_neg (by simp)]; rfl
theorem index_miss (l : List UInt8) (c : UInt8) (hn : ∀ j, j < l.length → l.getD j 0 ≠ c) : Lib.indexByte l c = -1 := by
  induction l with
  | nil => rfl
  | cons b l ih =>
    have h0 := hn 0 (by simp)
    rw [List.getD_cons_zero] at h0
    have h := ih (fun j hj => by have := hn (j + 1) (by simpa using hj); rwa [List.getD_cons_succ] at this)
    unfold Lib.indexByte
    rw [if_neg (by simp [h0]), h]
    rfl
theorem index_lt (l : List UInt8) (c : UInt8) : Lib.indexByte l c < l.length := by
  induction l with
  | nil => show (-1 : Int) < 0; decide
  | cons b l ih =>
    unfold Lib.indexByte
    rw [List.length_cons]
    split
    · omega
    · split <;> omega

/-! ### Digits as numbers -/
def digL : List UInt8 := [48, 49, 50, 51, 52, 53, 54, 55, 56, 57, 97, 98, 99, 100, 101, 102]
/-- A digit's number; -1: it is none. -/
def hexV (c : UInt8) : Int := Lib.indexByte digL c
theorem hexV_bd (c : UInt8) : -1 ≤ hexV c ∧ hexV c < 16 := ⟨Lib.indexByte_ge _ _, index_lt _ _⟩
theorem digL_at (k : Nat) (h : k < 16) : digL.getD k 0 = hexD k := by
  have := List.all_eq_true.1 (show (List.range 16).all (fun k => decide (digL.getD k 0 = hexD k)) = true by decide) k (by simpa using h)
  simpa using this
theorem hexV_hexD (k : Nat) (h : k < 16) : hexV (hexD k) = k := by
  have := List.all_eq_true.1 (show (List.range 16).all (fun k => decide (hexV (hexD k) = (k : Int))) = true by decide) k (by simpa using h)
  simpa using this
/-- Are all of them digits, 64 in number? -/
def isHex (s : List UInt8) : Bool := decide (s.length = 64) && s.all fun c => decide (0 ≤ hexV c)
/-- What byte j is behind i digits. -/
def nib (s : List UInt8) (i j : Nat) : UInt8 :=
  if 2 * j + 1 < i then UInt8.ofNat ((hexV (s.getD (2 * j) 0)).toNat * 16 + (hexV (s.getD (2 * j + 1) 0)).toNat)
  else if 2 * j < i then UInt8.ofNat (hexV (s.getD (2 * j) 0)).toNat else 0
def nibs (s : List UInt8) (i : Nat) : List UInt8 := (List.range 32).map (nib s i)
/-- What Parse answers. -/
def unhex (s : List UInt8) : List UInt8 := if isHex s = true then nibs s 64 else zeroT
theorem length_nibs (s : List UInt8) (i : Nat) : (nibs s i).length = 32 := by unfold nibs; simp
theorem length_unhex (s : List UInt8) : (unhex s).length = 32 := by
  unfold unhex; split
  · exact length_nibs _ _
  · rfl
theorem nibs_at (s : List UInt8) (i j : Nat) (h : j < 32) : (nibs s i).getD j 0 = nib s i j := by unfold nibs; simp [h]
theorem nibs_zero (s : List UInt8) : nibs s 0 = zeroT := by
  unfold nibs zeroT
  rw [show nib s 0 = fun _ => 0 from funext fun j => by unfold nib; rw [if_neg (by omega), if_neg (by omega)]]
  rfl
theorem ext_getD {a b : List UInt8} (h : a.length = b.length) (he : ∀ j, j < a.length → a.getD j 0 = b.getD j 0) : a = b := by
  apply List.ext_getElem h
  intro j h1 h2
  have := he j h1
  simpa [h1, h2] using this
theorem nibs_succ (s : List UInt8) (i : Nat) : nibs s (i + 1) = (nibs s i).set (i / 2) (nib s (i + 1) (i / 2)) := by
  apply ext_getD (by rw [List.length_set, length_nibs, length_nibs])
  intro j hj
  rw [length_nibs] at hj
  rw [nibs_at _ _ _ hj, List.getD_eq_getElem?_getD, List.getElem?_set]
  by_cases e : i / 2 = j
  · subst e; simp [length_nibs, hj]
  · rw [if_neg e, ← List.getD_eq_getElem?_getD, nibs_at _ _ _ hj]
    unfold nib
    have e1 : (2 * j + 1 < i + 1) ↔ (2 * j + 1 < i) := by omega
    have e2 : (2 * j < i + 1) ↔ (2 * j < i) := by omega
    simp only [e1, e2]
theorem isHex_iff (s : List UInt8) (h : s.length = 64) : isHex s = true ↔ ∀ j, j < 64 → 0 ≤ hexV (s.getD j 0) := by
  unfold isHex
  rw [decide_eq_true h, Bool.true_and, List.all_eq_true]
  constructor
  · intro ha j hj
    have hj' : j < s.length := by omega
    have := ha s[j] (List.getElem_mem hj')
    simpa [hj'] using this
  · intro ha c hc
    obtain ⟨j, hj, rfl⟩ := List.getElem_of_mem hc
    have := ha j (by omega)
    simpa [hj] using this
theorem or_all : ((List.range 16).all fun y => (List.range 16).all fun d => decide (bits .or .u8 ((y * 16 : Nat) : Int) (d : Int) = ((y * 16 + d : Nat) : Int))) = true := by decide +kernel
theorem or16 (y d : Nat) (hy : y < 16) (hd : d < 16) : bits .or .u8 ((y * 16 : Nat) : Int) (d : Int) = ((y * 16 + d : Nat) : Int) := by
  have h1 := List.all_eq_true.1 or_all y (by simpa using hy)
  have h2 := List.all_eq_true.1 h1 d (by simpa using hd)
  exact of_decide_eq_true h2
/-- One digit more. -/
theorem nib_step (s : List UInt8) (i d : Nat) (hd : hexV (s.getD i 0) = (d : Int)) (hp : ∀ j, j < i → 0 ≤ hexV (s.getD j 0)) :
    bits .or .u8 (((nib s i (i / 2)).toNat : Int) * 16 % 256) (d : Int) = ((nib s (i + 1) (i / 2)).toNat : Int) := by
  have hdb := (hexV_bd (s.getD i 0)).2
  have hd16 : d < 16 := by omega
  by_cases he : i = 2 * (i / 2)
  · have e1 : nib s i (i / 2) = 0 := by unfold nib; rw [if_neg (by omega), if_neg (by omega)]
    have e2 : nib s (i + 1) (i / 2) = UInt8.ofNat d := by unfold nib; rw [if_neg (by omega), if_pos (by omega), ← he, hd]; rfl
    rw [e1, e2, UInt8.toNat_ofNat']
    have h := or16 0 d (by decide) hd16
    rw [show ((UInt8.toNat 0 : Nat) : Int) * 16 % 256 = ((0 * 16 : Nat) : Int) by rfl, h]
    omega
  · have ho : i = 2 * (i / 2) + 1 := by omega
    have ha := hexV_bd (s.getD (2 * (i / 2)) 0)
    have hap := hp (2 * (i / 2)) (by omega)
    obtain ⟨a, hae⟩ := Int.eq_ofNat_of_zero_le hap
    have e1 : nib s i (i / 2) = UInt8.ofNat a := by unfold nib; rw [if_neg (by omega), if_pos (by omega), hae]; rfl
    have e2 : nib s (i + 1) (i / 2) = UInt8.ofNat (a * 16 + d) := by unfold nib; rw [if_pos (by omega), hae, ← ho, hd]; rfl
    have ha16 : a < 16 := by omega
    have h := or16 a d ha16 hd16
    rw [e1, e2, UInt8.toNat_ofNat', UInt8.toNat_ofNat']
    rw [show ((a % 2 ^ 8 : Nat) : Int) * 16 % 256 = ((a * 16 : Nat) : Int) by omega, h]
    omega
set_option maxHeartbeats 1000000 in
theorem tparse_any (s : List UInt8) (w : World) :
    Calls Try.prog 9 #[.string (bstr s)] w fun e w' => e = .returned (tagV (unhex s) (isHex s)) ∧ Below w.heap.size w w' := by
  obtain ⟨Z, hZ⟩ : ∃ Z, Z = byts zeroT := ⟨_, rfl⟩
  have hZl : Z.length = 32 := by rw [hZ]; rfl
  have hsz := Lib.hid (show (Try.prog.info? 25).map (·.size) = some Z.toArray.size by rw [size_tag, List.size_toArray, hZl])
  have HZ := Lib.hid hZ
  have hsb := size_bstr s
  clear hZ hZl
  by_cases h64 : s.length = 64
  · have hI := isHex_iff s h64
    have hss : ((bstr s).size : Int) = 64 := by rw [hsb, h64]; rfl
    obtain ⟨S, hS⟩ : ∃ S, S = bstr s := ⟨_, rfl⟩
    have hix : ∀ k : Nat, k < 64 → ∀ w, (Instr.index 9 (.string S) (.int .i64 (k : Int))).run Try.prog w = .ok (.int .u8 ((s.getD k 0).toNat : Int)) w := by
      intro k hk w; rw [hS]; exact index_bstr s k (by omega) w
    rw [← hS] at hss ⊢
    have HI := Lib.hid hI
    have HIX := Lib.hid hix
    clear hS hsb hI hix
    go_enter Try.func9, Try.ntmps9
    go_wp2
    have hnew : Row ((w.alloc (.cells (List.replicate 32 (Value.int .u8 0)).toArray 25)).alloc (.cells (List.replicate 32 (Value.int .u8 0)).toArray 25)) (w.heap.size + 1) 25 (byts (nibs s 0)) := by rw [nibs_zero, ← zero_cells]; exact heap_alloc2_new w _ _
    have hold : Row ((w.alloc (.cells (List.replicate 32 (Value.int .u8 0)).toArray 25)).alloc (.cells (List.replicate 32 (Value.int .u8 0)).toArray 25)) w.heap.size 25 Z := by rw [HZ.out, ← zero_cells]; exact heap_alloc2_old w _ _
    have hb0 := below_two w (.cells (List.replicate 32 (Value.int .u8 0)).toArray 25) (.cells (List.replicate 32 (Value.int .u8 0)).toArray 25)
    go_loopw [13] (fun i wr => ∃ k : Nat, k ≤ 64 ∧ i = .int .i64 k ∧ (∀ j, j < k → 0 ≤ hexV (s.getD j 0)) ∧ Row wr (w.heap.size + 1) 25 (byts (nibs s k)) ∧ Row wr w.heap.size 25 Z ∧ Below w.heap.size w wr) (fun i _ => 64 - (intOf i).toNat)
    case atStart => exact ⟨0, by omega, rfl, fun j hj => absurd hj (Nat.not_lt_zero _), hnew, hold, hb0⟩
    case round =>
      clear hnew hold hb0
      obtain ⟨k, hk, rfl, hp, hrow, hres, hb⟩ := hrel
      by_cases hlt : k < 64
      · have hix := HIX.out k hlt
        have hib := indexByte_any { data := #[48, 49, 50, 51, 52, 53, 54, 55, 56, 57, 97, 98, 99, 100, 101, 102] } (s.getD k 0)
        rw [show Lib.indexByte ({ data := #[48, 49, 50, 51, 52, 53, 54, 55, 56, 57, 97, 98, 99, 100, 101, 102] } : ByteArray).data.toList (s.getD k 0) = hexV (s.getD k 0) from rfl] at hib
        by_cases hneg : hexV (s.getD k 0) < 0
        · have e1 : isHex s = false := by
            rw [Bool.eq_false_iff]
            intro h
            have := HI.out.1 h k hlt
            omega
          have e2 : unhex s = zeroT := by unfold unhex; rw [e1]; rfl
          have E1 := Lib.hid e1
          have E2 := Lib.hid e2
          have hpos := (hexV_bd (s.getD k 0)).1
          generalize hexV (s.getD k 0) = d at *
          generalize s.getD k 0 = c at *
          have hzz := Lib.hid (show Z.toArray.size = 32 by rw [List.size_toArray, HZ.out]; rfl)
          have H0 := Lib.hid (show wr.heap[w.heap.size]? = some (.cells Z.toArray 25 (0, 0)) from hres)
          clear e1 e2 hp hrow hres HI
          go_wp2_with (first
            | (go_at_call 16; refine (hib _).mono ?_; rintro e w1 ⟨rfl, rfl⟩)
            | (with_reducible refine wpList_store_row rfl 25 (.tmp 2) (.tmp 22) rfl w.heap.size _ rfl rfl 25 _ H0.out (by kernel_rfl) (Eq.trans hzz.out (by kernel_rfl)) (by kernel_rfl) ?_; refine Hid.out ?_))
          refine Lib.hid ?_
          generalize hw4 : World.setRow _ _ _ = w4
          obtain ⟨r4, hg4⟩ := row_set (show Row wr w.heap.size 25 Z from H0.out) hw4
          have r4 : Row w4 w.heap.size 25 Z := by rw [HZ.out, ← zero_cells]; exact r4
          have R4 := Lib.hid r4
          have hb4 := hb.grown hg4 hb.size (fun k h => by cases h; exact Nat.le_refl _)
          clear hw4 r4 hg4 H0 hix hib
          go_wp2_with fail
          exact ⟨rfl, _, results_row_tmp rfl _ _ w.heap.size 25 Z.toArray (0, 0) (.array 32 5) rfl R4.out Try.underlying25 rfl hsz.out _ rfl, by rw [E1.out, E2.out, HZ.out]; rfl, hb4⟩
        · obtain ⟨d, hd⟩ := Int.eq_ofNat_of_zero_le (by omega : 0 ≤ hexV (s.getD k 0))
          have hst := nib_step s k d hd hp
          have hd16 : d < 16 := by have := (hexV_bd (s.getD k 0)).2; omega
          rw [hd] at hib
          have hp' := Lib.hid (show ∀ j, j < k + 1 → 0 ≤ hexV (s.getD j 0) from fun j hj => by
            by_cases e : j = k
            · rw [e, hd]; omega
            · exact hp j (by omega))
          have HS := Lib.hid (nibs_succ s k)
          have hc := hrow.cell (k / 2)
          rw [get_byts _ _ (by rw [length_nibs]; omega), nibs_at _ _ _ (by omega)] at hc
          have hf := hrow.free (k / 2)
          have hI1 : (k : Int) / 2 < 32 := by omega
          have hI2 : (0 : Int) ≤ (k : Int) / 2 := by omega
          have hI3 : ((k : Int) / 2).toNat = k / 2 := by omega
          generalize nib s k (k / 2) = x at *
          generalize nib s (k + 1) (k / 2) = y at *
          clear hd hp
          generalize s.getD k 0 = c at *
          go_wp2_with (go_at_call 16; refine (hib _).mono ?_; rintro e w1 ⟨rfl, rfl⟩)
          go_roundw
          case rel =>
            refine ⟨k + 1, by omega, by go_num, hp'.out, ?_, hres.far _ _ (by show w.heap.size ≠ w.heap.size + 1; omega), hb.grown (grown_setCell _ _ _ _) hb.size (fun k h => by cases h; omega)⟩
            rw [HS.out, ← byts_set]
            exact hrow.set _ _
          case measure => simp [intOf]; omega
      · obtain rfl : k = 64 := by omega
        have e1 : isHex s = true := HI.out.2 hp
        have e2 : unhex s = nibs s 64 := by unfold unhex; rw [if_pos e1]
        have E1 := Lib.hid e1
        have E2 := Lib.hid e2
        have hVl := length_nibs s 64
        generalize nibs s 64 = v at *
        obtain ⟨V, hV⟩ : ∃ V, V = byts v := ⟨_, rfl⟩
        rw [← hV] at hrow
        have hVl : V.length = 32 := by rw [hV, length_byts]; exact hVl
        have hone := Lib.hid (all_one (show ∀ v ∈ V, v.oneCell' = true by rw [hV]; exact byts_one _))
        have hsz2 := Lib.hid (show (Try.prog.info? 25).map (·.size) = some V.toArray.size by rw [size_tag, List.size_toArray, hVl])
        have hzv := Lib.hid (show Z.toArray.size = V.toArray.size by rw [List.size_toArray, List.size_toArray, hVl, HZ.out]; rfl)
        have HV := Lib.hid hV
        have HR := Lib.hid (show wr.heap[w.heap.size + 1]? = some (.cells V.toArray 25 (0, 0)) from hrow)
        have H0 := Lib.hid (show wr.heap[w.heap.size]? = some (.cells Z.toArray 25 (0, 0)) from hres)
        clear hV hVl e1 e2 hp hrow hres
        go_wp2_with (first
          | (with_reducible refine wpList_load_row rfl 25 (.tmp 4) rfl (w.heap.size + 1) rfl 25 V.toArray (0, 0) _ HR.out Try.underlying25 rfl hsz2.out ?_)
          | (with_reducible refine wpList_store_row rfl 25 (.tmp 2) (.tmp 35) rfl w.heap.size V.toArray rfl rfl 25 _ H0.out hsz2.out hzv.out hone.out ?_; refine Hid.out ?_))
        refine Lib.hid ?_
        generalize hw4 : World.setRow _ _ _ = w4
        obtain ⟨r4, hg4⟩ := row_set (show Row wr w.heap.size 25 Z from H0.out) hw4
        have R4 := Lib.hid r4
        have hb4 := hb.grown hg4 hb.size (fun k h => by cases h; exact Nat.le_refl _)
        clear hw4 r4 hg4
        clear HR H0
        go_wp2_with fail
        exact ⟨rfl, _, results_row_tmp rfl _ _ w.heap.size 25 V.toArray (0, 0) (.array 32 5) rfl R4.out Try.underlying25 rfl hsz2.out _ rfl, by rw [E1.out, E2.out, HV.out]; rfl, hb4⟩
  · have e1 : isHex s = false := by unfold isHex; rw [decide_eq_false h64, Bool.false_and]
    have e2 : unhex s = zeroT := by unfold unhex; rw [e1]; rfl
    rw [e1, e2]
    have hn : (((bstr s).size : Int) == 64) = false := by rw [beq_eq_false_iff_ne, hsb]; omega
    clear e1 e2 hsb h64
    generalize bstr s = S at *
    go_enter Try.func9, Try.ntmps9
    go_wp2_with (with_reducible refine wpList_store_row rfl 25 (.tmp 2) (.tmp 10) rfl w.heap.size _ rfl rfl 25 _ (heap_alloc_new w _) (by kernel_rfl) (by kernel_rfl) (by kernel_rfl) ?_; refine Hid.out ?_)
    refine Lib.hid ?_
    generalize hw4 : World.setRow _ _ _ = w4
    obtain ⟨r4, hb4⟩ := row_new_set hw4
    have r4 : Row w4 w.heap.size 25 Z := by rw [HZ.out, ← zero_cells]; exact r4
    have R4 := Lib.hid r4
    clear hw4 r4
    go_wp2_with fail
    exact ⟨rfl, _, results_row_tmp rfl _ _ w.heap.size 25 Z.toArray (0, 0) (.array 32 5) rfl R4.out Try.underlying25 rfl hsz.out _ rfl, by rw [HZ.out]; rfl, hb4⟩
end Go.Proofs.Ytbleokbjihdopaa
