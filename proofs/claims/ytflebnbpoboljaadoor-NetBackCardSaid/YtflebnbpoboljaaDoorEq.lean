/- ARRAYS OF BYTES, compared. -/
import Derived.Test.YtflebnbpoboljaaDoorM
import Derived.ChangeKeysEq
import Derived.Laws.StructEq
namespace Go.Proofs.YtflebnbpoboljaaDoor
open Go Go.RowKit

theorem cells_byte : Tryd.prog.cellsOf 5 = 1 := by kernel_rfl
theorem part_byte (xs : List UInt8) (i : Nat) (h : i < xs.length) (w : World) : (Go.part 5 (byts xs).toArray (i * 1)).run Tryd.prog w = .ok (.int .u8 ((xs.getD i 0).toNat : Int)) w := by
  have hc : (byts xs).toArray[i * 1]? = some (.int .u8 ((xs.getD i 0).toNat : Int)) := by
    rw [Nat.mul_one, List.getElem?_toArray, get_byts _ _ h]
  simp only [Go.part, isAgg, Sem.run_bind, run_underlying Tryd.underlying5, Result.andThen_ok, Sem.run_pure, hc]
  rfl
theorem run_items (xs ys : List UInt8) (is : List Nat) (hx : ∀ i ∈ is, i < xs.length) (hy : ∀ i ∈ is, i < ys.length) (w : World) :
    (Op.eqItems 9999 5 1 (byts xs).toArray (byts ys).toArray is).run Tryd.prog w = .ok (is.all fun i => decide (xs.getD i 0 = ys.getD i 0)) w := by
  induction is with
  | nil => simp [Op.eqItems]
  | cons i is ih =>
    have h := ih (fun j hj => hx j (by simp [hj])) (fun j hj => hy j (by simp [hj]))
    simp only [Op.eqItems, Sem.run_bind, part_byte xs i (hx i (by simp)) w, part_byte ys i (hy i (by simp)) w, Result.andThen_ok, run_equalIn_int w 9998 5 .u8 .u8 _ _ Tryd.underlying5, List.all_cons]
    generalize xs.getD i 0 = a
    generalize ys.getD i 0 = b
    by_cases e : a = b
    · subst e
      simp only [BEq.rfl, Bool.not_true, Bool.false_eq_true, if_false, decide_true, Bool.true_and, h]
    · have e' : ((a.toNat : Int) == (b.toNat : Int)) = false := by
        rw [beq_eq_false_iff_ne]
        intro h
        exact e (UInt8.toNat_inj.1 (by omega))
      simp only [e', e, Bool.not_false, if_true, decide_false, Bool.false_and, Sem.run_pure]
theorem all_getD (xs ys : List UInt8) (h : xs.length = ys.length) : ((List.range xs.length).all fun i => decide (xs.getD i 0 = ys.getD i 0)) = decide (xs = ys) := by
  rw [Bool.eq_iff_iff, List.all_eq_true, decide_eq_true_iff]
  constructor
  · intro hall
    apply List.ext_getElem h
    intro i h1 h2
    have := hall i (by simpa using h1)
    simpa [h1, h2] using this
  · rintro rfl i _
    simp
/-- Two arrays of bytes, compared. -/
theorem run_eq_bytes (t : TypeId) (n : Nat) (i0 : TypeInfo) (hu : Tryd.prog.underlying t = some (.array n 5)) (hi : Tryd.prog.info? 5 = some i0) (xs ys : List UInt8) (hx : xs.length = n) (hy : ys.length = n) (w : World) :
    (Op.equalIn 10000 t (.agg (byts xs).toArray) (.agg (byts ys).toArray)).run Tryd.prog w = .ok (decide (xs = ys)) w := by
  rw [run_equalIn_array w 9999 _ _ hu hi, cells_byte, run_items xs ys (List.range n) (fun i h => by rw [hx]; simpa using h) (fun i h => by rw [hy]; simpa using h) w, ← hx, all_getD xs ys (by rw [hx, hy])]
end Go.Proofs.YtflebnbpoboljaaDoor
