/- Texts of this claim, one behind the other. -/
import Derived.Test.YtgnhmpfoddfpdaaGreatDoorRaaa
import Derived.Test.YtgnhmpfoddfpdaaGreatDoorCards
import Derived.Test.YtgnhmpfoddfpdaaGreatDoorTie
import Derived.Test.YtgnhmpfoddfpdaaGreatDoorRaay
import Derived.Stop.LaidErr
import Derived.Shelf.Vars
import Derived.Test.YtgnhmpfoddfpdaaGreatDoorRaak
/- LAYER 17's cards (as layer 16's): what the library's listed variables hold; a world for the witness. -/
namespace Go.Proofs.YtgnhmpfoddfpdaaGreatDoor
open Go Go.ChangeShapes Go.WideShapes Go.ChangeAt Go.RowKit
set_option maxRecDepth 100000

theorem shape_most {W : World} (h : W.ShapedOpen Tryz.prog) : ∃ m, W.cell? ⟨3, 0, none⟩ = some (.int .i64 m) :=
  Go.Proofs.cell_of_shapedOpen_int (zero := #[.int .i64 0]) (t := 3) h (of_decide_eq_true (by kernel_rfl)) (by kernel_rfl) rfl (by kernel_rfl) (by kernel_rfl) Tryz.underlying3
theorem g64 : Tryz.prog.globalNamed "math/bits.deBruijn64tab" = some 2 := by kernel_rfl
theorem gSyn : Tryz.prog.globalNamed "strconv.ErrSyntax" = some 4 := by kernel_rfl
theorem gRng : Tryz.prog.globalNamed "strconv.ErrRange" = some 5 := by kernel_rfl
def bruijn64 : List Int := [0, 1, 56, 2, 57, 49, 28, 3, 61, 58, 42, 50, 38, 29, 17, 4, 62, 47, 59, 36, 45, 43, 51, 22, 53, 39, 33, 30, 24, 18, 12, 5, 63, 55, 48, 27, 60, 41, 37, 16, 46, 35, 44, 21, 52, 32, 23, 11, 54, 26, 40, 15, 34, 20, 31, 10, 25, 14, 19, 9, 13, 8, 7, 6]
theorem bruijn_at : ∀ j, j < 64 → bruijn64.getD j 0 = ((Lib.deBruijn64tab.getD j 0 : Nat) : Int) := by
  have h : ∀ j : Fin 64, bruijn64.getD j.1 0 = ((Lib.deBruijn64tab.getD j.1 0 : Nat) : Int) := by decide +kernel
  intro j hj
  exact h ⟨j, hj⟩
theorem star_es : "*" ++ "errors.errorString" = "*errors.errorString" := by decide
theorem type_string_ptr : ∀ u, Tryz.prog.typeName? 3 u = some "*errors.errorString" → u = 193 := fun u h =>
  typeName_ptr_named (nm := "errors.errorString") (by rw [star_es]; kernel_rfl) (by kernel_rfl) (by decide) u (by rw [star_es]; exact h)
theorem env_c {W : World} (t64 : Lib.TabIs Tryz.prog W "math/bits.deBruijn64tab" .u8 bruijn64) (tPow : Lib.TabIs Tryz.prog W "internal/strconv.uint64pow10" .u64 Lib.pow10Tab) : EnvC W :=
  ⟨tPow, fun j hj => by rw [t64.cell g64 j hj, bruijn_at j hj]⟩
/-- What the listed variables hold, as far as package caveat comes to them. -/
theorem env_of {W : World} (h : laidMet Tryz.prog Rows.caveatTellsRow.laid W) (hs : W.ShapedOpen Tryz.prog) : EnvQ W := by
  have h1 := laidMet.tail h
  have h2 := laidMet.tail h1
  have h4 := laidMet.tail (laidMet.tail h2)
  have h5 := laidMet.tail h4
  have t64 : Lib.TabIs Tryz.prog W "math/bits.deBruijn64tab" .u8 bruijn64 := Lib.tabIs_of_head (zs := bruijn64) g64 (t := 175) (by kernel_rfl) Tryz.underlying175 Tryz.underlying5 (by kernel_rfl) (by kernel_rfl) h1
  have tPow : Lib.TabIs Tryz.prog W "internal/strconv.uint64pow10" .u64 Lib.pow10Tab := Lib.tabIs_of_head (zs := Lib.pow10Tab) gPow (t := 165) (by kernel_rfl) Tryz.underlying165 Tryz.underlying22 (by kernel_rfl) (by kernel_rfl) h2
  obtain ⟨aR, sR, hR, -⟩ := laid_sentinel h4 gRng (by kernel_rfl) Tryz.underlying79 type_string_ptr Tryz.underlying193 Tryz.underlying195 rfl rfl Tryz.underlying9 (by kernel_rfl) (by kernel_rfl)
  obtain ⟨aS, sS, hS, -⟩ := laid_sentinel h5 gSyn (by kernel_rfl) Tryz.underlying79 type_string_ptr Tryz.underlying193 Tryz.underlying195 rfl rfl Tryz.underlying9 (by kernel_rfl) (by kernel_rfl)
  exact ⟨env_c t64 tPow, shape_most hs, ⟨_, by simpa using World.var?_cell gSyn hS 0, .inr ⟨_, _, rfl⟩⟩, ⟨_, by simpa using World.var?_cell gRng hR 0, .inr ⟨_, _, rfl⟩⟩⟩
/-! One start that fits: the library's tables and sentinels as their initialisers lay them. -/
def setCells12 (cs : List Value) : Obj → Obj
  | .cells _ t frozen => .cells cs.toArray t frozen
  | o => o
def bruijn32 : List Int := [0, 1, 28, 2, 29, 14, 24, 3, 30, 22, 20, 15, 25, 17, 4, 8, 31, 27, 13, 23, 21, 19, 16, 7, 26, 12, 18, 6, 11, 5, 10, 9]
def accept32 : List Int := [128, 191, 160, 191, 128, 159, 144, 191, 128, 143] ++ List.replicate 22 0
def synS : ByteArray := { data := #[105, 110, 118, 97, 108, 105, 100, 32, 115, 121, 110, 116, 97, 120] }
def rngS : ByteArray := { data := #[118, 97, 108, 117, 101, 32, 111, 117, 116, 32, 111, 102, 32, 114, 97, 110, 103, 101] }
/-- So many blocks has the settled world. -/
noncomputable def low12 : Nat := (World.holding Tryz.prog default ⟨#[], #[], []⟩).heap.size
noncomputable def libWorld (os : Os) : World :=
  let w0 := World.holding Tryz.prog os ⟨#[.cells #[.string rngS] 195, .cells #[.string synS] 195], #[], []⟩
  { w0 with heap := ((((((w0.heap.modify 8 (setCells12 (bruijn32.map (Value.int .u8)))).modify 2 (setCells12 (bruijn64.map (Value.int .u8)))).modify 1 (setCells12 (Lib.pow10Tab.map (Value.int .u64)))).modify
      7 (setCells12 (accept32.map (Value.int .u8)))).modify 6 (setCells12 (Go.Pinned.utf8FirstZ.map fun n : Nat => Value.int .u8 (n : Int)))).modify
      5 (setCells12 [.iface 193 (.pointer (some ⟨low12, 0, none⟩))])).modify 4 (setCells12 [.iface 193 (.pointer (some ⟨low12 + 1, 0, none⟩))]) }
theorem lib_met (os : Os) (args : Array Value) : laidMet Tryz.prog Rows.caveatTellsRow.laid ((libWorld os).forCall (fun _ _ => 0) ⟨#[], args, []⟩).memory :=
  laidMet_of_run' 8 (by kernel_rfl) (by kernel_rfl)
end Go.Proofs.YtgnhmpfoddfpdaaGreatDoor

/- LAYER 17: caveatAlive. -/
namespace Go.Proofs.YtgnhmpfoddfpdaaGreatDoor
set_option maxRecDepth 100000
open Go Go.RowKit

theorem prd_ok (k : Int) (t : Nat) (l : List (List UInt8)) (pa : List UInt8) (c : Nat) (ht : t < 2 ^ 64) (hc : c < 2 ^ 64) : (⟨k, t, l, pa, zeroR, c⟩ : Prd).Ok := ⟨zeroR_ok, ht, hc⟩
theorem alive_1 : parseP [98, 101, 102, 111, 114, 101, 32, 57, 48] = some ⟨1, 90, [], [], zeroR, 0⟩ :=
  (parseP_iff _ _).2 ⟨prd_ok _ _ _ _ _ (by decide) (by decide), by decide, by decide⟩
theorem alive_2 : parseP [111, 112, 32, 108, 105, 115, 116, 44, 114, 101, 97, 100] = some ⟨3, 0, [[108, 105, 115, 116], [114, 101, 97, 100]], [], zeroR, 0⟩ :=
  (parseP_iff _ _).2 ⟨prd_ok _ _ _ _ _ (by decide) (by decide), by decide, by decide⟩
theorem alive_3 : parseP [99, 111, 115, 116, 32, 51, 112, 45, 49] = some ⟨6, 0, [], [], zeroR, 4609434218613702656⟩ := by
  refine (parseP_iff _ _).2 ⟨prd_ok _ _ _ _ _ (by decide) (by decide), ?_, by decide⟩
  have e : wordsP ⟨6, 0, [], [], zeroR, 4609434218613702656⟩ = ([99, 111, 115, 116], [51, 112, 45, 49]) := by
    show ([99, 111, 115, 116], textC 4609434218613702656) = _
    rw [text_15]
  unfold textP
  rw [e]
  decide
/-- A predicate's cells, as a row to be stored and read. -/
structure Prd23 (X : List Value) : Prop where
  l : X.length = 23
  o : X.toArray.all (·.oneCell') = true
theorem prd23 (p : Prd) (h : p.net.a.Ok) (A : Option Addr) (c : Nat) : Prd23 (prdV p A c) := ⟨length_prdV p h A c, prdV_one p A c⟩
theorem Prd23.z {X : List Value} (h : Prd23 X) : (Tryz.prog.info? 31).map (·.size) = some X.length := by rw [h.l]; exact size_prd
theorem Prd23.z2 {X : List Value} (h : Prd23 X) : (Tryz.prog.info? 31).map (·.size) = some X.toArray.size := by rw [List.size_toArray]; exact h.z
theorem Prd23.z8 {X : List Value} (h : Prd23 X) : (23 : Nat) = X.toArray.size := by rw [List.size_toArray, h.l]
theorem gave_some {p : Prd} {w w' : World} {e : Ending} (h : GavePrd (some p) w e w') : ∃ A c, e = .returned (.tuple #[.agg (prdV p A c).toArray, .bool true]) ∧ PrdAt w' p A c ∧ Below w.heap.size w w' := h
set_option maxHeartbeats 4000000 in
theorem qalive_any (w : World) (hE0 : EnvQ w) : Calls Tryz.prog 5 #[] w fun e w' => e = .returned (.bool true) ∧ Below w.heap.size w w' := by
  have h1 := fun w' h => qparse_any [98, 101, 102, 111, 114, 101, 32, 57, 48] (by decide) w' h
  have h2 := fun w' h => qparse_any [111, 112, 32, 108, 105, 115, 116, 44, 114, 101, 97, 100] (by decide) w' h
  have h3 := fun w' h => qparse_any [99, 111, 115, 116, 32, 51, 112, 45, 49] (by decide) w' h
  rw [alive_1] at h1
  rw [alive_2] at h2
  rw [alive_3] at h3
  have h1 := Lib.hid h1
  have h2 := Lib.hid h2
  have h3 := Lib.hid h3
  have hb0 : Below w.heap.size w w := Below.refl _ _
  have o := order_eq 4609434218613702656 (by decide) (by decide)
  go_enter Tryz.func5, Tryz.ntmps5
  go_wp2_with (first
    | (go_at_call 7; refine (h1.out _ hE0).mono ?_; intro e w1 hgv; obtain ⟨A1, c1, rfl, -, hq⟩ := gave_some hgv; have hE1 := hE0.next hq; have hb1 := hb0.trans (hq.mono hb0.size); have hX1 := Lib.hid (prd23 ⟨1, 90, [], [], zeroR, 0⟩ zeroA_ok A1 c1); clear hq hgv)
    | (have _t := hb1; refine wpList_store_row rfl 31 (.tmp 1) (.tmp 9) rfl w1.heap.size (prdV ⟨1, 90, [], [], zeroR, 0⟩ A1 c1).toArray rfl rfl 31 _ (heap_alloc_new w1 _) hX1.out.z2 hX1.out.z8 hX1.out.o ?_; refine Hid.out ?_))
  refine Lib.hid ?_
  generalize hww : World.setRow _ _ _ = w2
  obtain ⟨r1, hq⟩ := row_new_set (xs := (prdV ⟨1, 90, [], [], zeroR, 0⟩ A1 c1)) hww
  have hE2 := hE1.next hq
  have hb2 := hb1.trans (hq.mono hb1.size)
  clear hww hq hE0 hE1
  generalize w1.heap.size = g1 at *
  go_wp2_with (first
    | (go_at_call 7; refine (h2.out _ hE2).mono ?_; intro e w3 hgv; obtain ⟨A2, c2, rfl, -, hq⟩ := gave_some hgv; have hE3 := hE2.next hq; have r1 := r1.later hq r1.lt; have hb3 := hb2.trans (hq.mono hb2.size); have hX2 := Lib.hid (prd23 ⟨3, 0, [[108, 105, 115, 116], [114, 101, 97, 100]], [], zeroR, 0⟩ zeroA_ok A2 c2); clear hq hgv)
    | (have _t := hb3; refine wpList_store_row rfl 31 (.tmp 3) (.tmp 13) rfl w3.heap.size (prdV ⟨3, 0, [[108, 105, 115, 116], [114, 101, 97, 100]], [], zeroR, 0⟩ A2 c2).toArray rfl rfl 31 _ (heap_alloc_new w3 _) hX2.out.z2 hX2.out.z8 hX2.out.o ?_; refine Hid.out ?_))
  refine Lib.hid ?_
  generalize hww : World.setRow _ _ _ = w4
  obtain ⟨r2, hq⟩ := row_new_set (xs := (prdV ⟨3, 0, [[108, 105, 115, 116], [114, 101, 97, 100]], [], zeroR, 0⟩ A2 c2)) hww
  have hE4 := hE3.next hq
  have r1 := r1.later hq r1.lt
  have hb4 := hb3.trans (hq.mono hb3.size)
  clear hww hq hE2 hE3
  generalize w3.heap.size = g2 at *
  go_wp2_with (first
    | (go_at_call 7; refine (h3.out _ hE4).mono ?_; intro e w5 hgv; obtain ⟨A3, c3, rfl, -, hq⟩ := gave_some hgv; have hE5 := hE4.next hq; have r1 := r1.later hq r1.lt; have r2 := r2.later hq r2.lt; have hb5 := hb4.trans (hq.mono hb4.size); have hX3 := Lib.hid (prd23 ⟨6, 0, [], [], zeroR, 4609434218613702656⟩ zeroA_ok A3 c3); clear hq hgv)
    | (have _t := hb5; refine wpList_store_row rfl 31 (.tmp 5) (.tmp 17) rfl w5.heap.size (prdV ⟨6, 0, [], [], zeroR, 4609434218613702656⟩ A3 c3).toArray rfl rfl 31 _ (heap_alloc_new w5 _) hX3.out.z2 hX3.out.z8 hX3.out.o ?_; refine Hid.out ?_))
  refine Lib.hid ?_
  generalize hww : World.setRow _ _ _ = w6
  obtain ⟨r3, hq⟩ := row_new_set (xs := (prdV ⟨6, 0, [], [], zeroR, 4609434218613702656⟩ A3 c3)) hww
  have hE6 := hE5.next hq
  have r1 := r1.later hq r1.lt
  have r2 := r2.later hq r2.lt
  have hb6 := hb5.trans (hq.mono hb5.size)
  clear hww hq hE4 hE5
  generalize w5.heap.size = g3 at *
  have k1 : w6.cell? ⟨g1, 1, none⟩ = some (.int .u64 90) := (prd_cells zeroA_ok r1).2.1
  have k2 : w6.cell? ⟨g2, 2, none⟩ = some (.slice A2 2 c2) := (prd_cells zeroA_ok r2).2.2.1
  have k3 : w6.cell? ⟨g3, 22, none⟩ = some (.float .f64 4609434218613702656) := (prd_cells zeroA_ok r3).2.2.2.2.2
  clear r1 r2 r3
  go_wp2
  go_ret
  exact ⟨rfl, hb6⟩
end Go.Proofs.YtgnhmpfoddfpdaaGreatDoor

/- LAYER 17, CaveatTells: the walk of the law. -/
namespace Go.Proofs.YtgnhmpfoddfpdaaGreatDoor
set_option maxRecDepth 100000
open Go Go.RowKit

theorem PrdArg.later {w w' : World} {p : Prd} {A : Option Addr} {c B : Nat} (h : PrdArg w p A c) (hB : w.heap.size ≤ B) (hb : Below B w w') : PrdArg w' p A c :=
  ⟨h.ok, h.names.later hB hb, h.lo, h.hi, h.path, h.many, h.each⟩
theorem two_prds {w w1 : World} {Q P : List Value} (h : (w.alloc (.cells Q.toArray 31)).alloc (.cells P.toArray 31) = w1) : Row w1 w.heap.size 31 Q ∧ Row w1 (w.heap.size + 1) 31 P ∧ Below w.heap.size w w1 := by
  subst h
  have h1 : Row (w.alloc (.cells Q.toArray 31)) w.heap.size 31 Q := Row.new w _ _
  have hb1 : Below w.heap.size w (w.alloc (.cells Q.toArray 31)) := (Below.refl _ w).alloc (Nat.le_refl _) _
  have hb2 : Below (w.alloc (.cells Q.toArray 31)).heap.size (w.alloc (.cells Q.toArray 31)) ((w.alloc (.cells Q.toArray 31)).alloc (.cells P.toArray 31)) := (Below.refl _ _).alloc (Nat.le_refl _) _
  have h2 : Row ((w.alloc (.cells Q.toArray 31)).alloc (.cells P.toArray 31)) (w.alloc (.cells Q.toArray 31)).heap.size 31 P := Row.new _ _ _
  have hs : (w.alloc (.cells Q.toArray 31)).heap.size = w.heap.size + 1 := Array.size_push _
  rw [hs] at h2
  exact ⟨h1.later hb2 h1.lt, h2, hb1.trans (hb2.mono hb1.size)⟩
set_option maxHeartbeats 8000000 in
theorem qtells_walk (p q : Prd) (A B : Option Addr) (c d : Nat) (s : List UInt8) (w : World) (hp : PrdArg w p A c) (hq : PrdArg w q B d) (hE0 : EnvQ w) :
    Calls Tryz.prog 3 #[.agg (prdV p A c).toArray, .agg (prdV q B d).toArray, .string (bstr s)] w fun e w' => e = .returned (.bool true) ∧ Below w.heap.size w w' := by
  have hal := Lib.hid (fun w' hE => qalive_any w' hE)
  have hzs := size_bstr s
  have hXQ := Lib.hid (prd23 p hp.ok.net.a A c)
  have hXP := Lib.hid (prd23 q hq.ok.net.a B d)
  obtain ⟨Q, hQ⟩ : ∃ Q, Q = prdV p A c := ⟨_, rfl⟩
  obtain ⟨P, hP⟩ : ∃ P, P = prdV q B d := ⟨_, rfl⟩
  obtain ⟨w1, hw1⟩ : ∃ w1, w1 = (w.alloc (.cells Q.toArray 31)).alloc (.cells P.toArray 31) := ⟨_, rfl⟩
  obtain ⟨r1, q1, hb1⟩ := two_prds hw1.symm
  have hE1 := hE0.next hb1
  have a1 := hp.later (Nat.le_refl _) hb1
  have b1 := hq.later (Nat.le_refl _) hb1
  have HLP := Lib.hid (fun w' (h : PrdArg w' p A c) => qlong_any p A c w' h)
  have HLQ := Lib.hid (fun w' (h : PrdArg w' q B d) => qlong_any q B d w' h)
  rw [← hQ] at hXQ HLP ⊢
  rw [← hP] at hXP HLQ ⊢
  have HW := Lib.hid hw1
  have HQ := Lib.hid hQ
  have HP := Lib.hid hP
  have tokP : True := trivial
  have tokQ : True := trivial
  clear hw1 hE0 hp hq hQ hP
  have hlp : longQ p = 1 ∨ longQ p = 0 ∧ p.path.length + sumS p.names ≤ 3000 := by
    by_cases h : 3000 < p.path.length + sumS p.names
    · exact .inl (longQ_one p h)
    · exact .inr ⟨longQ_zero p (by omega), by omega⟩
  have hlq : longQ q = 1 ∨ longQ q = 0 ∧ q.path.length + sumS q.names ≤ 3000 := by
    by_cases h : 3000 < q.path.length + sumS q.names
    · exact .inl (longQ_one q h)
    · exact .inr ⟨longQ_zero q (by omega), by omega⟩
  generalize longQ p = lp at *
  generalize longQ q = lq at *
  rcases hlp with rfl | ⟨rfl, hlp⟩
  · generalize bstr s = S at *
    clear hlq hXP
    go_enter Tryz.func3, Tryz.ntmps3
    go_wp2_with (first
      | (go_at_call 5; rw [← HW.out]; refine (hal.out _ hE1).mono ?_; rintro e w2 ⟨rfl, hq⟩; have hE2 := hE1.next hq; have r1 := r1.later hq r1.lt; have q1 := q1.later hq q1.lt; have a1 := a1.later (Nat.le_refl _) hq; have b1 := b1.later (Nat.le_refl _) hq; have hb2 := hb1.trans (hq.mono hb1.size); clear hq)
      | ((with_reducible refine wpList_step fun K hK => ?_); refine step_load_mid (some 14) rfl (by rfl) 31 (.tmp 3) rfl w.heap.size 0 rfl Q _ (row_range r1) Tryz.underlying31 rfl hXQ.out.z ?_; refine hK _ _ ?_; clear hK)
      | (go_at_call 6; have _t := tokP; refine (HLP.out _ a1).mono ?_; rintro e w3 ⟨rfl, hq⟩; have hE3 := hE2.next hq; have r1 := r1.later hq r1.lt; have q1 := q1.later hq q1.lt; have a1 := a1.later (Nat.le_refl _) hq; have b1 := b1.later (Nat.le_refl _) hq; have hb3 := hb2.trans (hq.mono hb2.size); clear hq; clear tokP))
    go_ret
    exact ⟨rfl, hb3⟩
  rcases hlq with rfl | ⟨rfl, hlq⟩
  · generalize bstr s = S at *
    clear hlp
    go_enter Tryz.func3, Tryz.ntmps3
    go_wp2_with (first
      | (go_at_call 5; rw [← HW.out]; refine (hal.out _ hE1).mono ?_; rintro e w2 ⟨rfl, hq⟩; have hE2 := hE1.next hq; have r1 := r1.later hq r1.lt; have q1 := q1.later hq q1.lt; have a1 := a1.later (Nat.le_refl _) hq; have b1 := b1.later (Nat.le_refl _) hq; have hb2 := hb1.trans (hq.mono hb1.size); clear hq)
      | ((with_reducible refine wpList_step fun K hK => ?_); refine step_load_mid (some 14) rfl (by rfl) 31 (.tmp 3) rfl w.heap.size 0 rfl Q _ (row_range r1) Tryz.underlying31 rfl hXQ.out.z ?_; refine hK _ _ ?_; clear hK)
      | (go_at_call 6; have _t := tokP; refine (HLP.out _ a1).mono ?_; rintro e w3 ⟨rfl, hq⟩; have hE3 := hE2.next hq; have r1 := r1.later hq r1.lt; have q1 := q1.later hq q1.lt; have a1 := a1.later (Nat.le_refl _) hq; have b1 := b1.later (Nat.le_refl _) hq; have hb3 := hb2.trans (hq.mono hb2.size); clear hq; clear tokP)
      | ((with_reducible refine wpList_step fun K hK => ?_); refine step_load_mid (some 18) rfl (by rfl) 31 (.tmp 4) rfl (w.heap.size + 1) 0 rfl P _ (row_range q1) Tryz.underlying31 rfl hXP.out.z ?_; refine hK _ _ ?_; clear hK)
      | (go_at_call 6; have _t := tokQ; refine (HLQ.out _ b1).mono ?_; rintro e w4 ⟨rfl, hq⟩; have hE4 := hE3.next hq; have r1 := r1.later hq r1.lt; have q1 := q1.later hq q1.lt; have a1 := a1.later (Nat.le_refl _) hq; have b1 := b1.later (Nat.le_refl _) hq; have hb4 := hb3.trans (hq.mono hb3.size); clear hq; clear tokQ))
    go_ret
    exact ⟨rfl, hb4⟩
  by_cases hl : 2000 < s.length
  · have hl' : (2000 : Int) < (s.length : Int) := by omega
    generalize bstr s = S at *
    clear hlp hlq hl
    go_enter Tryz.func3, Tryz.ntmps3
    go_wp2_with (first
      | (go_at_call 5; rw [← HW.out]; refine (hal.out _ hE1).mono ?_; rintro e w2 ⟨rfl, hq⟩; have hE2 := hE1.next hq; have r1 := r1.later hq r1.lt; have q1 := q1.later hq q1.lt; have a1 := a1.later (Nat.le_refl _) hq; have b1 := b1.later (Nat.le_refl _) hq; have hb2 := hb1.trans (hq.mono hb1.size); clear hq)
      | ((with_reducible refine wpList_step fun K hK => ?_); refine step_load_mid (some 14) rfl (by rfl) 31 (.tmp 3) rfl w.heap.size 0 rfl Q _ (row_range r1) Tryz.underlying31 rfl hXQ.out.z ?_; refine hK _ _ ?_; clear hK)
      | (go_at_call 6; have _t := tokP; refine (HLP.out _ a1).mono ?_; rintro e w3 ⟨rfl, hq⟩; have hE3 := hE2.next hq; have r1 := r1.later hq r1.lt; have q1 := q1.later hq q1.lt; have a1 := a1.later (Nat.le_refl _) hq; have b1 := b1.later (Nat.le_refl _) hq; have hb3 := hb2.trans (hq.mono hb2.size); clear hq; clear tokP)
      | ((with_reducible refine wpList_step fun K hK => ?_); refine step_load_mid (some 18) rfl (by rfl) 31 (.tmp 4) rfl (w.heap.size + 1) 0 rfl P _ (row_range q1) Tryz.underlying31 rfl hXP.out.z ?_; refine hK _ _ ?_; clear hK)
      | (go_at_call 6; have _t := tokQ; refine (HLQ.out _ b1).mono ?_; rintro e w4 ⟨rfl, hq⟩; have hE4 := hE3.next hq; have r1 := r1.later hq r1.lt; have q1 := q1.later hq q1.lt; have a1 := a1.later (Nat.le_refl _) hq; have b1 := b1.later (Nat.le_refl _) hq; have hb4 := hb3.trans (hq.mono hb3.size); clear hq; clear tokQ))
    go_ret
    exact ⟨rfl, hb4⟩
  · have hl' : (s.length : Int) ≤ 2000 := by omega
    have hps := Lib.hid (fun w' h => qparse_any s (by omega) w' h)
    have hrs := Lib.hid (fun w' => rparse17_any s (by omega) w')
    have e1 := bstr_empty17 (textP p)
    generalize bstr s = S at *
    unfold GavePrd at hps hrs
    generalize hx : (parseP s).getD zeroP = x at *
    generalize (parseP s).isSome = ok at *
    clear hx hl
    go_enter Tryz.func3, Tryz.ntmps3
    go_wp2_with (first
      | (go_at_call 5; rw [← HW.out]; refine (hal.out _ hE1).mono ?_; rintro e w2 ⟨rfl, hq⟩; have hE2 := hE1.next hq; have r1 := r1.later hq r1.lt; have q1 := q1.later hq q1.lt; have a1 := a1.later (Nat.le_refl _) hq; have b1 := b1.later (Nat.le_refl _) hq; have hb2 := hb1.trans (hq.mono hb1.size); clear hq)
      | ((with_reducible refine wpList_step fun K hK => ?_); refine step_load_mid (some 14) rfl (by rfl) 31 (.tmp 3) rfl w.heap.size 0 rfl Q _ (row_range r1) Tryz.underlying31 rfl hXQ.out.z ?_; refine hK _ _ ?_; clear hK)
      | (go_at_call 6; have _t := tokP; refine (HLP.out _ a1).mono ?_; rintro e w3 ⟨rfl, hq⟩; have hE3 := hE2.next hq; have r1 := r1.later hq r1.lt; have q1 := q1.later hq q1.lt; have a1 := a1.later (Nat.le_refl _) hq; have b1 := b1.later (Nat.le_refl _) hq; have hb3 := hb2.trans (hq.mono hb2.size); clear hq; clear tokP)
      | ((with_reducible refine wpList_step fun K hK => ?_); refine step_load_mid (some 18) rfl (by rfl) 31 (.tmp 4) rfl (w.heap.size + 1) 0 rfl P _ (row_range q1) Tryz.underlying31 rfl hXP.out.z ?_; refine hK _ _ ?_; clear hK)
      | (go_at_call 6; have _t := tokQ; refine (HLQ.out _ b1).mono ?_; rintro e w4 ⟨rfl, hq⟩; have hE4 := hE3.next hq; have r1 := r1.later hq r1.lt; have q1 := q1.later hq q1.lt; have a1 := a1.later (Nat.le_refl _) hq; have b1 := b1.later (Nat.le_refl _) hq; have hb4 := hb3.trans (hq.mono hb3.size); clear hq; clear tokQ)
      | (go_at_call 7; refine (hps.out _ hE4).mono ?_; rintro e w5 ⟨Ax, cx, rfl, ax, hq⟩; have hXX := Lib.hid (prd23 x ax.ok.net.a Ax cx); have hE5 := hE4.next hq; have r1 := r1.later hq r1.lt; have q1 := q1.later hq q1.lt; have a1 := a1.later (Nat.le_refl _) hq; have b1 := b1.later (Nat.le_refl _) hq; have hb5 := hb4.trans (hq.mono hb4.size); clear hq)
      | (have _t := hb5; refine wpList_store_row rfl 31 (.tmp 7) (.tmp 30) rfl w5.heap.size (prdV x Ax cx).toArray rfl rfl 31 _ (heap_alloc_new w5 _) hXX.out.z2 hXX.out.z8 hXX.out.o ?_; refine Hid.out ?_))
    refine Lib.hid ?_
    generalize hww : World.setRow _ _ _ = w6
    obtain ⟨x1, hq⟩ := row_new_set (xs := prdV x Ax cx) hww
    have hE6 := hE5.next hq
    have r1 := r1.later hq r1.lt
    have q1 := q1.later hq q1.lt
    have a1 := a1.later (Nat.le_refl _) hq
    have b1 := b1.later (Nat.le_refl _) hq
    have ax := ax.later (Nat.le_refl _) hq
    have hb6 := hb5.trans (hq.mono hb5.size)
    clear hww hq hE5
    generalize w5.heap.size = g7 at *
    go_wp2_with (first
      | (go_at_call 8; refine (hrs.out _).mono ?_; rintro e w7 ⟨Ay, cy, rfl, ay, hq⟩; have hXY := Lib.hid (prd23 x ay.ok.net.a Ay cy); have hE7 := hE6.next hq; have r1 := r1.later hq r1.lt; have q1 := q1.later hq q1.lt; have x1 := x1.later hq x1.lt; have a1 := a1.later (Nat.le_refl _) hq; have b1 := b1.later (Nat.le_refl _) hq; have ax := ax.later (Nat.le_refl _) hq; have hb7 := hb6.trans (hq.mono hb6.size); clear hq)
      | (have _t := hb7; refine wpList_store_row rfl 31 (.tmp 9) (.tmp 35) rfl w7.heap.size (prdV x Ay cy).toArray rfl rfl 31 _ (heap_alloc_new w7 _) hXY.out.z2 hXY.out.z8 hXY.out.o ?_; refine Hid.out ?_))
    refine Lib.hid ?_
    generalize hww : World.setRow _ _ _ = w8
    obtain ⟨y1, hq⟩ := row_new_set (xs := prdV x Ay cy) hww
    have hE8 := hE7.next hq
    have r1 := r1.later hq r1.lt
    have q1 := q1.later hq q1.lt
    have x1 := x1.later hq x1.lt
    have a1 := a1.later (Nat.le_refl _) hq
    have b1 := b1.later (Nat.le_refl _) hq
    have ax := ax.later (Nat.le_refl _) hq
    have ay := ay.later (Nat.le_refl _) hq
    have hb8 := hb7.trans (hq.mono hb7.size)
    clear hww hq hE7
    generalize w7.heap.size = g9 at *
    have htx := Lib.hid (fun (h : EnvQ w8) => qtext_any p A c w8 (a1.short hlp) h)
    rw [← HQ.out] at htx
    go_wp2_with (first
      | ((with_reducible refine wpList_step fun K hK => ?_); refine step_load_mid (some 37) rfl (by rfl) 31 (.tmp 3) rfl w.heap.size 0 rfl Q _ (row_range r1) Tryz.underlying31 rfl hXQ.out.z ?_; refine hK _ _ ?_; clear hK)
      | (go_at_call 9; refine (htx.out hE8).mono ?_; rintro e w9 ⟨rfl, hq⟩; have hE9 := hE8.next hq; have r1 := r1.later hq r1.lt; have q1 := q1.later hq q1.lt; have x1 := x1.later hq x1.lt; have y1 := y1.later hq y1.lt; have a1 := a1.later (Nat.le_refl _) hq; have b1 := b1.later (Nat.le_refl _) hq; have ax := ax.later (Nat.le_refl _) hq; have ay := ay.later (Nat.le_refl _) hq; have hb9 := hb8.trans (hq.mono hb8.size); clear hq; refine Hid.out ?_))
    refine Lib.hid ?_
    have hrtx := fun w' (h : Below w9.heap.size w9 w') => rtext17_any p A c w' ((a1.short hlp).later (Nat.le_refl _) h)
    have hck := fun w' (h : Below w9.heap.size w9 w') => qcheck_any p A c w' ((a1.short hlp).later (Nat.le_refl _) h) (hE9.next h)
    have hsxy := fun w' (h : Below w9.heap.size w9 w') => rsame17_any x x Ax Ay cx cy w' (ax.later (Nat.le_refl _) h) (ay.later (Nat.le_refl _) h)
    have hspq := fun w' (h : Below w9.heap.size w9 w') => qsame_any p q A B c d w' ((a1.short hlp).later (Nat.le_refl _) h) ((b1.short hlq).later (Nat.le_refl _) h) (hE9.next h)
    have hrpq := fun w' (h : Below w9.heap.size w9 w') => rsame17_any p q A B c d w' ((a1.short hlp).later (Nat.le_refl _) h) ((b1.short hlq).later (Nat.le_refl _) h)
    have hspp := fun w' (h : Below w9.heap.size w9 w') => qsame_any p p A A c c w' ((a1.short hlp).later (Nat.le_refl _) h) ((a1.short hlp).later (Nat.le_refl _) h) (hE9.next h)
    rw [(sameP_iff x x).2 rfl] at hsxy
    rw [(sameP_iff p p).2 rfl] at hspp
    obtain ⟨X, hX⟩ : ∃ X, X = prdV x Ax cx := ⟨_, rfl⟩
    obtain ⟨Y, hY⟩ : ∃ Y, Y = prdV x Ay cy := ⟨_, rfl⟩
    rw [← HQ.out] at hrtx hck hspq hrpq hspp
    rw [← HP.out] at hspq hrpq
    rw [← hX] at hsxy hXX x1
    rw [← hY] at hsxy hXY y1
    have hrtx := Lib.hid hrtx
    have hck := Lib.hid hck
    have hsxy := Lib.hid hsxy
    have hspq := Lib.hid hspq
    have hrpq := Lib.hid hrpq
    have hspp := Lib.hid hspp
    clear htx hal hps hrs HLP HLQ HW HQ HP hlp hlq a1 b1 ax ay hE9 hE8 hX hY hE1 hE2 hE3 hE4
    generalize sameP p q = sq at *
    generalize decide (textP p = []) = em at *
    generalize bstr (textP p) = TP at *
    go_wp2
    refine wp_region_noPanic ?_
    refine wp_region_held_drew (S := fun w' => Below w9.heap.size w9 w') (by kernel_rfl) ((Below.refl _ _).drew) (fun hHeld => ?_)
    have hB := hHeld
    refine rtake 0 _ (some 39) _ rfl rfl (by kernel_rfl) (by kernel_rfl) (by kernel_rfl) (fun _ _ _ h => h) (by rfl) hHeld (by intro w hS; go_simp; try with_reducible rfl) ?_
    try (first | (rw [put_some]; dsimp only [List.set]) | rw [put_none])
    refine rtake 1 _ (some 40) _ rfl rfl (by kernel_rfl) (by kernel_rfl) (by kernel_rfl) (fun _ _ _ h => h) (by rfl) hHeld (by intro w hS; exact run_load_op 31 (.tmp 3) rfl _ 0 rfl Q _ (row_range (r1.later hS r1.lt)) Tryz.underlying31 rfl hXQ.out.z) ?_
    try (first | (rw [put_some]; dsimp only [List.set]) | rw [put_none])
    refine wpAnyH_ready (rs := [2]) (by kernel_rfl) (by simp) (AllReadyH.cons (o := _) rfl (fun K hK => ?_) AllReadyH.nil)
    go_simp
    refine (hrtx.out _ hB).mono ?_; rintro e ww92 ⟨rfl, hqw92⟩
    try go_wp2_with fail
    refine hK.out _ _ (hHeld.trans (hqw92.mono hHeld.size)) (fun hHeld' => ?_)
    clear hK K
    try (first | (rw [put_some]; dsimp only [List.set]) | rw [put_none])
    have hB := below_step hB hqw92
    have hB2 : Below ww92.heap.size ww92 ww92 := Below.refl _ _
    refine wpAnyH_narrow (S' := fun w' => Below ww92.heap.size ww92 w') (fun _ h => (hHeld.trans (hqw92.mono hHeld.size)).trans (h.mono (hHeld.trans (hqw92.mono hHeld.size)).size)) _ _ _ _ ?_
    clear hHeld
    have hHeld : Below ww92.heap.size ww92 ww92 := Below.refl _ _
    refine rtake 3 _ (some 42) _ rfl rfl (by kernel_rfl) (by kernel_rfl) (by kernel_rfl) (fun _ _ _ h => h) (by rfl) hHeld (by intro w hS; go_simp; try with_reducible rfl) ?_
    try (first | (rw [put_some]; dsimp only [List.set]) | rw [put_none])
    refine rtake 4 _ (some 43) _ rfl rfl (by kernel_rfl) (by kernel_rfl) (by kernel_rfl) (fun _ _ _ h => h) (by rfl) hHeld (by intro w hS; go_simp; try with_reducible rfl) ?_
    try (first | (rw [put_some]; dsimp only [List.set]) | rw [put_none])
    refine rtake 5 _ (some 44) _ rfl rfl (by kernel_rfl) (by kernel_rfl) (by kernel_rfl) (fun _ _ _ h => h) (by rfl) hHeld (by intro w hS; exact run_load_op 31 (.tmp 3) rfl _ 0 rfl Q _ (row_range (r1.later (hB.trans (hS.mono hB.size)) r1.lt)) Tryz.underlying31 rfl hXQ.out.z) ?_
    try (first | (rw [put_some]; dsimp only [List.set]) | rw [put_none])
    refine rtake 7 _ (some 46) _ rfl rfl (by kernel_rfl) (by kernel_rfl) (by kernel_rfl) (fun _ _ _ h => h) (by rfl) hHeld (by intro w hS; go_simp; try with_reducible rfl) ?_
    try (first | (rw [put_some]; dsimp only [List.set]) | rw [put_none])
    refine rtake 8 _ (some 47) _ rfl rfl (by kernel_rfl) (by kernel_rfl) (by kernel_rfl) (fun _ _ _ h => h) (by rfl) hHeld (by intro w hS; go_simp; try with_reducible rfl) ?_
    try (first | (rw [put_some]; dsimp only [List.set]) | rw [put_none])
    refine wpAnyH_ready (rs := [6]) (by kernel_rfl) (by simp) (AllReadyH.cons (o := _) rfl (fun K hK => ?_) AllReadyH.nil)
    go_simp
    refine (hck.out _ hB).mono ?_; rintro e ww96 ⟨rfl, hqw96⟩
    try go_wp2_with fail
    refine hK.out _ _ (hHeld.trans (hqw96.mono hHeld.size)) (fun hHeld' => ?_)
    clear hK K
    try (first | (rw [put_some]; dsimp only [List.set]) | rw [put_none])
    have hB := below_step hB hqw96
    have hB2 := below_step hB2 hqw96
    have hB6 : Below ww96.heap.size ww96 ww96 := Below.refl _ _
    refine wpAnyH_narrow (S' := fun w' => Below ww96.heap.size ww96 w') (fun _ h => (hHeld.trans (hqw96.mono hHeld.size)).trans (h.mono (hHeld.trans (hqw96.mono hHeld.size)).size)) _ _ _ _ ?_
    clear hHeld
    have hHeld : Below ww96.heap.size ww96 ww96 := Below.refl _ _
    refine rtake 9 _ (some 48) _ rfl rfl (by kernel_rfl) (by kernel_rfl) (by kernel_rfl) (fun _ _ _ h => h) (by rfl) hHeld (by intro w hS; go_simp; try with_reducible rfl) ?_
    try (first | (rw [put_some]; dsimp only [List.set]) | rw [put_none])
    refine rtake 10 _ (some 49) _ rfl rfl (by kernel_rfl) (by kernel_rfl) (by kernel_rfl) (fun _ _ _ h => h) (by rfl) hHeld (by intro w hS; go_simp; try with_reducible rfl) ?_
    try (first | (rw [put_some]; dsimp only [List.set]) | rw [put_none])
    refine rtake 11 _ (some 50) _ rfl rfl (by kernel_rfl) (by kernel_rfl) (by kernel_rfl) (fun _ _ _ h => h) (by rfl) hHeld (by intro w hS; go_simp; try with_reducible rfl) ?_
    try (first | (rw [put_some]; dsimp only [List.set]) | rw [put_none])
    refine rtake 12 _ (some 51) _ rfl rfl (by kernel_rfl) (by kernel_rfl) (by kernel_rfl) (fun _ _ _ h => h) (by rfl) hHeld (by intro w hS; go_simp; try with_reducible rfl) ?_
    try (first | (rw [put_some]; dsimp only [List.set]) | rw [put_none])
    refine rtake 13 _ (some 52) _ rfl rfl (by kernel_rfl) (by kernel_rfl) (by kernel_rfl) (fun _ _ _ h => h) (by rfl) hHeld (by intro w hS; go_simp; try with_reducible rfl) ?_
    try (first | (rw [put_some]; dsimp only [List.set]) | rw [put_none])
    refine rtake 14 _ (some 53) _ rfl rfl (by kernel_rfl) (by kernel_rfl) (by kernel_rfl) (fun _ _ _ h => h) (by rfl) hHeld (by intro w hS; go_simp; try with_reducible rfl) ?_
    try (first | (rw [put_some]; dsimp only [List.set]) | rw [put_none])
    refine rtake 15 _ (some 54) _ rfl rfl (by kernel_rfl) (by kernel_rfl) (by kernel_rfl) (fun _ _ _ h => h) (by rfl) hHeld (by intro w hS; go_simp; try with_reducible rfl) ?_
    try (first | (rw [put_some]; dsimp only [List.set]) | rw [put_none])
    refine rtake 16 _ (some 55) _ rfl rfl (by kernel_rfl) (by kernel_rfl) (by kernel_rfl) (fun _ _ _ h => h) (by rfl) hHeld (by intro w hS; go_simp; try with_reducible rfl) ?_
    try (first | (rw [put_some]; dsimp only [List.set]) | rw [put_none])
    refine rtake 17 _ (some 56) _ rfl rfl (by kernel_rfl) (by kernel_rfl) (by kernel_rfl) (fun _ _ _ h => h) (by rfl) hHeld (by intro w hS; exact run_load_op 31 (.tmp 7) rfl _ 0 rfl X _ (row_range (x1.later (hB.trans (hS.mono hB.size)) x1.lt)) Tryz.underlying31 rfl hXX.out.z) ?_
    try (first | (rw [put_some]; dsimp only [List.set]) | rw [put_none])
    refine rtake 18 _ (some 57) _ rfl rfl (by kernel_rfl) (by kernel_rfl) (by kernel_rfl) (fun _ _ _ h => h) (by rfl) hHeld (by intro w hS; exact run_load_op 31 (.tmp 9) rfl _ 0 rfl Y _ (row_range (y1.later (hB.trans (hS.mono hB.size)) y1.lt)) Tryz.underlying31 rfl hXY.out.z) ?_
    try (first | (rw [put_some]; dsimp only [List.set]) | rw [put_none])
    refine wpAnyH_ready (rs := [19]) (by kernel_rfl) (by simp) (AllReadyH.cons (o := _) rfl (fun K hK => ?_) AllReadyH.nil)
    go_simp
    refine (hsxy.out _ hB).mono ?_; rintro e ww919 ⟨rfl, hqw919⟩
    try go_wp2_with fail
    refine hK.out _ _ (hHeld.trans (hqw919.mono hHeld.size)) (fun hHeld' => ?_)
    clear hK K
    try (first | (rw [put_some]; dsimp only [List.set]) | rw [put_none])
    have hB := below_step hB hqw919
    have hB2 := below_step hB2 hqw919
    have hB6 := below_step hB6 hqw919
    have hB19 : Below ww919.heap.size ww919 ww919 := Below.refl _ _
    refine wpAnyH_narrow (S' := fun w' => Below ww919.heap.size ww919 w') (fun _ h => (hHeld.trans (hqw919.mono hHeld.size)).trans (h.mono (hHeld.trans (hqw919.mono hHeld.size)).size)) _ _ _ _ ?_
    clear hHeld
    have hHeld : Below ww919.heap.size ww919 ww919 := Below.refl _ _
    refine rtake 20 _ (some 59) _ rfl rfl (by kernel_rfl) (by kernel_rfl) (by kernel_rfl) (fun _ _ _ h => h) (by rfl) hHeld (by intro w hS; go_simp; try with_reducible rfl) ?_
    try (first | (rw [put_some]; dsimp only [List.set]) | rw [put_none])
    refine rtake 21 _ (some 60) _ rfl rfl (by kernel_rfl) (by kernel_rfl) (by kernel_rfl) (fun _ _ _ h => h) (by rfl) hHeld (by intro w hS; go_simp; try with_reducible rfl) ?_
    try (first | (rw [put_some]; dsimp only [List.set]) | rw [put_none])
    refine rtake 22 _ (some 61) _ rfl rfl (by kernel_rfl) (by kernel_rfl) (by kernel_rfl) (fun _ _ _ h => h) (by rfl) hHeld (by intro w hS; exact run_load_op 31 (.tmp 3) rfl _ 0 rfl Q _ (row_range (r1.later (hB.trans (hS.mono hB.size)) r1.lt)) Tryz.underlying31 rfl hXQ.out.z) ?_
    try (first | (rw [put_some]; dsimp only [List.set]) | rw [put_none])
    refine rtake 23 _ (some 62) _ rfl rfl (by kernel_rfl) (by kernel_rfl) (by kernel_rfl) (fun _ _ _ h => h) (by rfl) hHeld (by intro w hS; exact run_load_op 31 (.tmp 4) rfl _ 0 rfl P _ (row_range (q1.later (hB.trans (hS.mono hB.size)) q1.lt)) Tryz.underlying31 rfl hXP.out.z) ?_
    try (first | (rw [put_some]; dsimp only [List.set]) | rw [put_none])
    refine rtake 25 _ (some 64) _ rfl rfl (by kernel_rfl) (by kernel_rfl) (by kernel_rfl) (fun _ _ _ h => h) (by rfl) hHeld (by intro w hS; exact run_load_op 31 (.tmp 3) rfl _ 0 rfl Q _ (row_range (r1.later (hB.trans (hS.mono hB.size)) r1.lt)) Tryz.underlying31 rfl hXQ.out.z) ?_
    try (first | (rw [put_some]; dsimp only [List.set]) | rw [put_none])
    refine rtake 26 _ (some 65) _ rfl rfl (by kernel_rfl) (by kernel_rfl) (by kernel_rfl) (fun _ _ _ h => h) (by rfl) hHeld (by intro w hS; exact run_load_op 31 (.tmp 4) rfl _ 0 rfl P _ (row_range (q1.later (hB.trans (hS.mono hB.size)) q1.lt)) Tryz.underlying31 rfl hXP.out.z) ?_
    try (first | (rw [put_some]; dsimp only [List.set]) | rw [put_none])
    refine wpAnyH_ready (rs := [24]) (by kernel_rfl) (by simp) (AllReadyH.cons (o := _) rfl (fun K hK => ?_) AllReadyH.nil)
    go_simp
    refine (hspq.out _ hB).mono ?_; rintro e ww924 ⟨rfl, hqw924⟩
    try go_wp2_with fail
    refine hK.out _ _ (hHeld.trans (hqw924.mono hHeld.size)) (fun hHeld' => ?_)
    clear hK K
    try (first | (rw [put_some]; dsimp only [List.set]) | rw [put_none])
    have hB := below_step hB hqw924
    have hB2 := below_step hB2 hqw924
    have hB6 := below_step hB6 hqw924
    have hB19 := below_step hB19 hqw924
    have hB24 : Below ww924.heap.size ww924 ww924 := Below.refl _ _
    refine wpAnyH_narrow (S' := fun w' => Below ww924.heap.size ww924 w') (fun _ h => (hHeld.trans (hqw924.mono hHeld.size)).trans (h.mono (hHeld.trans (hqw924.mono hHeld.size)).size)) _ _ _ _ ?_
    clear hHeld
    have hHeld : Below ww924.heap.size ww924 ww924 := Below.refl _ _
    refine wpAnyH_ready (rs := [27]) (by kernel_rfl) (by simp) (AllReadyH.cons (o := _) rfl (fun K hK => ?_) AllReadyH.nil)
    go_simp
    refine (hrpq.out _ hB).mono ?_; rintro e ww927 ⟨rfl, hqw927⟩
    try go_wp2_with fail
    refine hK.out _ _ (hHeld.trans (hqw927.mono hHeld.size)) (fun hHeld' => ?_)
    clear hK K
    try (first | (rw [put_some]; dsimp only [List.set]) | rw [put_none])
    have hB := below_step hB hqw927
    have hB2 := below_step hB2 hqw927
    have hB6 := below_step hB6 hqw927
    have hB19 := below_step hB19 hqw927
    have hB24 := below_step hB24 hqw927
    have hB27 : Below ww927.heap.size ww927 ww927 := Below.refl _ _
    refine wpAnyH_narrow (S' := fun w' => Below ww927.heap.size ww927 w') (fun _ h => (hHeld.trans (hqw927.mono hHeld.size)).trans (h.mono (hHeld.trans (hqw927.mono hHeld.size)).size)) _ _ _ _ ?_
    clear hHeld
    have hHeld : Below ww927.heap.size ww927 ww927 := Below.refl _ _
    refine rtake 28 _ (some 67) _ rfl rfl (by kernel_rfl) (by kernel_rfl) (by kernel_rfl) (fun _ _ _ h => h) (by rfl) hHeld (by intro w hS; go_simp; try with_reducible rfl) ?_
    try (first | (rw [put_some]; dsimp only [List.set]) | rw [put_none])
    refine rtake 29 _ (some 68) _ rfl rfl (by kernel_rfl) (by kernel_rfl) (by kernel_rfl) (fun _ _ _ h => h) (by rfl) hHeld (by intro w hS; go_simp; try with_reducible rfl) ?_
    try (first | (rw [put_some]; dsimp only [List.set]) | rw [put_none])
    refine rtake 30 _ (some 69) _ rfl rfl (by kernel_rfl) (by kernel_rfl) (by kernel_rfl) (fun _ _ _ h => h) (by rfl) hHeld (by intro w hS; go_simp; try with_reducible rfl) ?_
    try (first | (rw [put_some]; dsimp only [List.set]) | rw [put_none])
    refine rtake 31 _ (some 70) _ rfl rfl (by kernel_rfl) (by kernel_rfl) (by kernel_rfl) (fun _ _ _ h => h) (by rfl) hHeld (by intro w hS; exact run_load_op 31 (.tmp 3) rfl _ 0 rfl Q _ (row_range (r1.later (hB.trans (hS.mono hB.size)) r1.lt)) Tryz.underlying31 rfl hXQ.out.z) ?_
    try (first | (rw [put_some]; dsimp only [List.set]) | rw [put_none])
    refine rtake 32 _ (some 71) _ rfl rfl (by kernel_rfl) (by kernel_rfl) (by kernel_rfl) (fun _ _ _ h => h) (by rfl) hHeld (by intro w hS; exact run_load_op 31 (.tmp 3) rfl _ 0 rfl Q _ (row_range (r1.later (hB.trans (hS.mono hB.size)) r1.lt)) Tryz.underlying31 rfl hXQ.out.z) ?_
    try (first | (rw [put_some]; dsimp only [List.set]) | rw [put_none])
    refine wpAnyH_ready (rs := [33]) (by kernel_rfl) (by simp) (AllReadyH.cons (o := _) rfl (fun K hK => ?_) AllReadyH.nil)
    go_simp
    refine (hspp.out _ hB).mono ?_; rintro e ww933 ⟨rfl, hqw933⟩
    try go_wp2_with fail
    refine hK.out _ _ (hHeld.trans (hqw933.mono hHeld.size)) (fun hHeld' => ?_)
    clear hK K
    try (first | (rw [put_some]; dsimp only [List.set]) | rw [put_none])
    have hB := below_step hB hqw933
    have hB2 := below_step hB2 hqw933
    have hB6 := below_step hB6 hqw933
    have hB19 := below_step hB19 hqw933
    have hB24 := below_step hB24 hqw933
    have hB27 := below_step hB27 hqw933
    have hB33 : Below ww933.heap.size ww933 ww933 := Below.refl _ _
    refine wpAnyH_narrow (S' := fun w' => Below ww933.heap.size ww933 w') (fun _ h => (hHeld.trans (hqw933.mono hHeld.size)).trans (h.mono (hHeld.trans (hqw933.mono hHeld.size)).size)) _ _ _ _ ?_
    clear hHeld
    have hHeld : Below ww933.heap.size ww933 ww933 := Below.refl _ _
    refine rtake 34 _ (some 73) _ rfl rfl (by kernel_rfl) (by kernel_rfl) (by kernel_rfl) (fun _ _ _ h => h) (by rfl) hHeld (by intro w hS; go_simp; try with_reducible rfl) ?_
    try (first | (rw [put_some]; dsimp only [List.set]) | rw [put_none])
    refine rtake 35 _ (some 6) _ rfl rfl (by kernel_rfl) (by kernel_rfl) (by kernel_rfl) (fun _ _ _ h => h) (by rfl) hHeld (by intro w hS; go_simp; try with_reducible rfl) ?_
    try (first | (rw [put_some]; dsimp only [List.set]) | rw [put_none])
    refine wpAnyH_done (by kernel_rfl) ?_ _
    refine NoPanic.normal ?_
    have hBe := hb9.trans (hB.mono hb9.size)
    clear hHeld
    go_wp2
    go_ret
    exact ⟨rfl, hBe⟩
end Go.Proofs.YtgnhmpfoddfpdaaGreatDoor
