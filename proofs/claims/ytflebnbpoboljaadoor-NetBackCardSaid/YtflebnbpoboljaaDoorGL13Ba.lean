/- Texts of this claim, one behind the other. -/
import Derived.Test.YtflebnbpoboljaaDoorGYp
/- LAYER 13, NetBack: what the ways of its walk share. -/
namespace Go.Proofs.YtflebnbpoboljaaDoor
set_option maxRecDepth 100000
open Go Go.RowKit

theorem textR_len (r : Rng) : (textR r).length ≤ 100 := by
  cases h : checkR r with
  | false => unfold textR; rw [h]; simp
  | true =>
    have h1 := textA_len r.a
    have h2 := checkR_lim r h
    have h3 := numL_len 10 (by omega) 2 r.n.toNat (by omega)
    rw [textR_ok r h, List.length_append, List.length_cons]
    omega
theorem parse_text (a : Rng) (h : a.Ok) : parsR (parseR (textR a)) = .tuple #[.agg (rngV (if checkR a then a else zeroR)).toArray, .bool (checkR a)] := by
  cases hc : checkR a with
  | true => rw [(parseR_iff (textR a) a).2 ⟨h.a, hc, rfl⟩]; rfl
  | false => rw [show textR a = [] by unfold textR; rw [hc]; rfl, show parseR [] = none from rfl]; rfl
theorem parseR_ok (s : List UInt8) (y : Rng) (h : parseR s = some y) : y.Ok ∧ textR y = s := by
  obtain ⟨h1, h2, h3⟩ := (parseR_iff s y).1 h
  have := checkR_lim y h2
  exact ⟨⟨h1, by omega, by omega⟩, h3⟩
/-- A range's cells, as a row to be stored and read. -/
structure Rng18 (X : List Value) : Prop where
  l : X.length = 18
  o : X.toArray.all (·.oneCell') = true
theorem rng18 (r : Rng) (h : r.a.Ok) : Rng18 (rngV r) := ⟨length_rngV' r h, rngV_one' r⟩
theorem Rng18.z {X : List Value} (h : Rng18 X) : (Tryd.prog.info? 26).map (·.size) = some X.length := by rw [h.l]; exact size_rng
theorem Rng18.z2 {X : List Value} (h : Rng18 X) : (Tryd.prog.info? 26).map (·.size) = some X.toArray.size := by rw [List.size_toArray]; exact h.z
theorem Rng18.z8 {X : List Value} (h : Rng18 X) : (18 : Nat) = X.toArray.size := by rw [List.size_toArray, h.l]
/-- The walk's beginning. -/
structure NBk (w w1 : World) (Q P VA VB : List Value) (na nb : Int) (sl : Nat) (S TA : ByteArray) : Prop where
  r : Row w1 w.heap.size 26 Q
  p : Row w1 (w.heap.size + 1) 26 P
  b : Below w.heap.size w w1
  e : Env w1
  w : w1 = (w.alloc (.cells Q.toArray 26)).alloc (.cells P.toArray 26)
  hQ : Q = VA ++ [Value.int .i64 na]
  hP : P = VB ++ [Value.int .i64 nb]
  lA : VA.length = 17
  lB : VB.length = 17
  q : Rng18 Q
  pp : Rng18 P
  tx : ∀ w', Env w' → Calls Tryd.prog 13 #[.agg Q.toArray] w' fun e w'' => e = .returned (.string TA) ∧ Below w'.heap.size w' w''
  s5 : (sl : Int) ≤ 500
  sz : S.size = sl
  ss : (S.toList == S.toList) = true
end Go.Proofs.YtflebnbpoboljaaDoor
