/- LAYER 12: strconv.ParseUint of a text at base 10 and 16, for sixteen bits. -/
import Derived.Test.YtpmibdgghojgaaaDoorAp
namespace Go.Proofs.YtpmibdgghojgaaaDoor
set_option maxRecDepth 100000
open Go Go.RowKit

theorem puL_code (b : Nat) (l : List UInt8) : ∀ n, n ≤ 65535 → (puL b n l).1 ≤ 65535 ∧ ((puL b n l).2 = 0 ∨ (puL b n l).2 = 1 ∨ (puL b n l).2 = 2) := by
  induction l with
  | nil => intro n hn; exact ⟨hn, .inl rfl⟩
  | cons c l ih =>
    intro n hn
    unfold puL
    split
    · exact ⟨by simp, .inr (.inr rfl)⟩
    · split
      · exact ⟨by simp, .inr (.inl rfl)⟩
      · exact ih _ (by omega)
theorem puA_code (b : Nat) (l : List UInt8) : (puA b l).1 ≤ 65535 ∧ ((puA b l).2 = 0 ∨ (puA b l).2 = 1 ∨ (puA b l).2 = 2) := by
  unfold puA
  split
  · exact ⟨by simp, .inr (.inr rfl)⟩
  · exact puL_code b l 0 (by omega)
/-- The number, and whatever error. -/
def GavePu (n : Nat) (w : World) (e : Ending) (w' : World) : Prop := ∃ v, e = .returned (.tuple #[.int .u64 (n : Int), v]) ∧ Below w.heap.size w w'
def GaveAny (w : World) (e : Ending) (w' : World) : Prop := ∃ v, e = .returned v ∧ Below w.heap.size w w'
theorem toErr_any (fn s : ByteArray) (b : Int) (hs : s.size ≤ 281474976710656) (w : World) (hE : Env w) (k : Int) (hk : k = 1 ∨ k = 2) :
    Calls Tryd.prog 43 #[.string fn, .string s, .int .i64 b, .int .i64 16, .iface 93 (.int .i64 k)] w (GaveAny w) := by
  rcases hk with rfl | rfl
  · obtain ⟨v, h1, h2⟩ := hE.rang
    refine (Tryd.strconv_toError_range fn s b 16 v w hs h1 h2).mono ?_
    rintro e w' ⟨N, rfl, -, -, hb⟩
    exact ⟨_, rfl, hb⟩
  · obtain ⟨v, h1, h2⟩ := hE.synt
    refine (Tryd.strconv_toError_syntax fn s b 16 v w hs h1 h2).mono ?_
    rintro e w' ⟨N, rfl, -, -, hb⟩
    exact ⟨_, rfl, hb⟩
set_option maxHeartbeats 2000000 in
theorem pu_any (b : Nat) (hb : b = 10 ∨ b = 16) (l : List UInt8) (hl : l.length ≤ 100000) (w : World) (hE : Env w) :
    Calls Tryd.prog 34 #[.string (bstr l), .int .i64 b, .int .i64 16] w (GavePu (puA b l).1 w) := by
  have hi := ipu_any b hb l hl w
  obtain ⟨-, hc⟩ := puA_code b l
  have hsz : (bstr l).size ≤ 281474976710656 := by rw [size_bstr]; omega
  have hts := Lib.hid (fun fn w' (h : Below w.heap.size w w') k hk => toErr_any fn (bstr l) b hsz w' (hE.next h) k hk)
  generalize (puA b l).1 = n at *
  generalize (puA b l).2 = c at *
  clear hE hl hb hsz
  rcases hc with rfl | rfl | rfl
  · rw [show errV 0 = .nilIface from rfl] at hi
    have hi := Lib.hid hi
    go_enter Tryd.func34, Tryd.ntmps34
    go_wp2_with (go_at_call 42; refine hi.out.mono ?_; rintro e w' ⟨rfl, hb1⟩)
    go_ret2
    exact ⟨_, rfl, hb1⟩
  · rw [show errV 1 = .iface 93 (.int .i64 1) from rfl] at hi
    have hi := Lib.hid hi
    go_enter Tryd.func34, Tryd.ntmps34
    go_wp2_with (first
      | (go_at_call 42; refine hi.out.mono ?_; rintro e w' ⟨rfl, hb1⟩)
      | (go_at_call 43; refine (hts.out _ _ hb1 1 (.inl rfl)).mono ?_; rintro e w2 ⟨v, rfl, hb2⟩; have hb2 := hb1.trans (hb2.mono hb1.size)))
    go_ret2
    exact ⟨_, rfl, hb2⟩
  · rw [show errV 2 = .iface 93 (.int .i64 2) from rfl] at hi
    have hi := Lib.hid hi
    go_enter Tryd.func34, Tryd.ntmps34
    go_wp2_with (first
      | (go_at_call 42; refine hi.out.mono ?_; rintro e w' ⟨rfl, hb1⟩)
      | (go_at_call 43; refine (hts.out _ _ hb1 2 (.inr rfl)).mono ?_; rintro e w2 ⟨v, rfl, hb2⟩; have hb2 := hb1.trans (hb2.mono hb1.size)))
    go_ret2
    exact ⟨_, rfl, hb2⟩
end Go.Proofs.YtpmibdgghojgaaaDoor
