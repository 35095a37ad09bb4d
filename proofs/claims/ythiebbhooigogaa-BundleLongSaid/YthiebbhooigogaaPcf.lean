/- LAYER 10: package packet: read. -/
import Derived.Test.YthiebbhooigogaaPce
import Derived.Test.YthiebbhooigogaaTg
import Derived.Test.YthiebbhooigogaaDc0
namespace Go.Proofs.Ythiebbhooigogaa
open Go Go.RowKit

theorem three_rows {w w1 : World} {X Y Z : List Value} {tA tB tC : TypeId} (h : ((w.alloc (.cells X.toArray tA)).alloc (.cells Y.toArray tB)).alloc (.cells Z.toArray tC) = w1) :
    Row w1 w.heap.size tA X ∧ Row w1 (w.heap.size + 1) tB Y ∧ Row w1 (w.heap.size + 2) tC Z ∧ Below w.heap.size w w1 := by
  obtain ⟨r0, r1, hb, hz⟩ := two_rows (w := w) (A := X) (B := Y) (tA := tA) (tB := tB) rfl
  have hb2 : Below ((w.alloc (.cells X.toArray tA)).alloc (.cells Y.toArray tB)).heap.size ((w.alloc (.cells X.toArray tA)).alloc (.cells Y.toArray tB)) w1 := by rw [← h]; exact (Below.refl _ _).alloc (Nat.le_refl _) _
  refine ⟨r0.later hb2 r0.lt, r1.later hb2 r1.lt, ?_, hb.trans (hb2.mono hb.size)⟩
  have := Row.new ((w.alloc (.cells X.toArray tA)).alloc (.cells Y.toArray tB)) tC Z
  rw [h, hz] at this
  exact this
/-- What is known of the token that is being read, ahead of its caveats: the bytes that are left; the place of the answer; the token. -/
structure Rd0 (w0 : World) (t : Tok) (l : List UInt8) (w : World) : Prop where
  bel : Below w0.heap.size w0 w
  row : RowAt w w0.heap.size (w0.heap.size + 1) l
  res : Row w w0.heap.size 27 (tokV zeroK none 0)
  tok : Row w (w0.heap.size + 2) 27 (tokV t none 0)
theorem Rd0.next {w0 : World} {t : Tok} {l l' : List UInt8} {w w' : World} (h : Rd0 w0 t l w) (hr : RowAt w' w0.heap.size (w0.heap.size + 1) l') (hg : w.grownBy w' (some (w0.heap.size + 1))) : Rd0 w0 t l' w' := by
  obtain ⟨h1, h2, h3, h4⟩ := h
  exact ⟨h1.grown hg h1.size (fun k hk => by cases hk; omega), hr, h3.kept hg (fun k hk => by cases hk; omega), h4.kept hg (fun k hk => by cases hk; omega)⟩
theorem Rd0.below {w0 : World} {t : Tok} {l : List UInt8} {w w' : World} (h : Rd0 w0 t l w) (hb : Below w.heap.size w w') : Rd0 w0 t l w' := by
  obtain ⟨h1, h2, h3, h4⟩ := h
  exact ⟨h1.trans (hb.mono h1.size), h2.below hb, h3.later hb h3.lt, h4.later hb h4.lt⟩
theorem Rd0.key {w0 : World} {t : Tok} {l : List UInt8} {w : World} (h : Rd0 w0 t l w) (m : Nat) : Rd0 w0 { t with key := m } l (w.setCell ⟨w0.heap.size + 2, 0, none⟩ (.int .u64 m)) := by
  obtain ⟨h1, h2, h3, h4⟩ := h
  have hg := grown_setCell w (w0.heap.size + 2) 0 (.int .u64 m)
  exact ⟨h1.grown hg h1.size (fun k hk => by cases hk; omega), h2.grown hg (by omega) (by omega), h3.kept hg (fun k hk => by cases hk; omega), h4.set 0 _⟩
theorem Rd0.id {w0 : World} {t : Tok} {l : List UInt8} {w : World} (h : Rd0 w0 t l w) (T : List UInt8) : Rd0 w0 { t with id := T } l (w.setCell ⟨w0.heap.size + 2, 1, none⟩ (.string (bstr T))) := by
  obtain ⟨h1, h2, h3, h4⟩ := h
  have hg := grown_setCell w (w0.heap.size + 2) 1 (.string (bstr T))
  exact ⟨h1.grown hg h1.size (fun k hk => by cases hk; omega), h2.grown hg (by omega) (by omega), h3.kept hg (fun k hk => by cases hk; omega), h4.set 1 _⟩
/-- The same within the caveats: these are the call's own, made since OB; block g holds the field that was taken last. -/
structure RdSt (w0 : World) (g : Nat) (t : Tok) (f : Fd) (l : List UInt8) (w : World) : Prop where
  bel : Below w0.heap.size w0 w
  row : RowAt w w0.heap.size (w0.heap.size + 1) l
  res : Row w w0.heap.size 27 (tokV zeroK none 0)
  tok : ∃ A c, Row w (w0.heap.size + 2) 27 (tokV t A c) ∧ w.ownsRow (g + 1) 51 5 (.slice A t.cavs.length c) t.cavs.length (t.cavs.flatMap cavV)
  fld : Row w g 55 (fdV f)
theorem RdSt.of0 {w0 : World} {g : Nat} {t : Tok} {f : Fd} {l : List UInt8} {w : World} (h : Rd0 w0 t l w) (ht : t.cavs = []) (hf : Row w g 55 (fdV f)) : RdSt w0 g t f l w :=
  ⟨h.bel, h.row, h.res, ⟨none, 0, h.tok, by rw [ht]; exact World.ownsRow_nil _ _ _ _⟩, hf⟩
theorem RdSt.next {w0 : World} {g : Nat} {t : Tok} {f : Fd} {l l' : List UInt8} {w w' : World} (h : RdSt w0 g t f l w) (hr : RowAt w' w0.heap.size (w0.heap.size + 1) l') (hg : w.grownBy w' (some (w0.heap.size + 1))) (hn : w0.heap.size + 2 < g) : RdSt w0 g t f l' w' := by
  obtain ⟨h1, h2, h3, ⟨A, c, h4, h5⟩, h6⟩ := h
  exact ⟨h1.grown hg h1.size (fun k hk => by cases hk; omega), hr, h3.kept hg (fun k hk => by cases hk; omega), ⟨A, c, h4.kept hg (fun k hk => by cases hk; omega), ownk_grown h5 hg (by omega)⟩, h6.kept hg (fun k hk => by cases hk; omega)⟩
theorem RdSt.below {w0 : World} {g : Nat} {t : Tok} {f : Fd} {l : List UInt8} {w w' : World} (h : RdSt w0 g t f l w) (hb : Below w.heap.size w w') : RdSt w0 g t f l w' := by
  obtain ⟨h1, h2, h3, ⟨A, c, h4, h5⟩, h6⟩ := h
  exact ⟨h1.trans (hb.mono h1.size), h2.below hb, h3.later hb h3.lt, ⟨A, c, h4.later hb h4.lt, ownk_later h5 hb (Nat.le_refl _)⟩, h6.later hb h6.lt⟩
theorem RdSt.field {w0 : World} {g : Nat} {t : Tok} {f f' : Fd} {l : List UInt8} {w w' : World} (h : RdSt w0 g t f l w) (hr : Row w' g 55 (fdV f')) (hg : w.grownBy w' (some g)) (hn : w0.heap.size + 2 < g) : RdSt w0 g t f' l w' := by
  obtain ⟨h1, h2, h3, ⟨A, c, h4, h5⟩, h6⟩ := h
  exact ⟨h1.grown hg h1.size (fun k hk => by cases hk; omega), h2.grown hg (by omega) (by omega), h3.kept hg (fun k hk => by cases hk; omega), ⟨A, c, h4.kept hg (fun k hk => by cases hk; omega), ownk_grown h5 hg (by omega)⟩, hr⟩
theorem RdSt.bound {w0 : World} {g : Nat} {t : Tok} {f : Fd} {l : List UInt8} {w : World} (h : RdSt w0 g t f l w) (b : Bool) (hn : w0.heap.size + 2 < g) : RdSt w0 g { t with bound := b } f l (w.setCell ⟨w0.heap.size + 2, 3, none⟩ (.bool b)) := by
  obtain ⟨h1, h2, h3, ⟨A, c, h4, h5⟩, h6⟩ := h
  have hg := grown_setCell w (w0.heap.size + 2) 3 (.bool b)
  exact ⟨h1.grown hg h1.size (fun k hk => by cases hk; omega), h2.grown hg (by omega) (by omega), h3.kept hg (fun k hk => by cases hk; omega), ⟨A, c, h4.set 3 _, ownk_grown h5 hg (by omega)⟩, h6.kept hg (fun k hk => by cases hk; omega)⟩
theorem tag_splice (t : Tok) (ht : t.tag.length = 32) (A : Option Addr) (c : Nat) (T : List UInt8) (hT : T.length = 32) : splice (tokV t A c) 4 (byts T) = tokV { t with tag := T } A c := by
  unfold splice tokV
  have e4 : (tokH t A c).length = 4 := rfl
  rw [length_byts, hT, List.take_append_of_le_length (by rw [e4]; exact Nat.le_refl _), List.drop_of_length_le (by rw [List.length_append, e4, length_byts, ht]; exact Nat.le_refl _), List.append_nil]
  rfl
theorem RdSt.tag {w0 : World} {g : Nat} {t : Tok} {f : Fd} {l : List UInt8} {w w' : World} {A : Option Addr} {c : Nat} (h : RdSt w0 g t f l w) (T : List UInt8) (hr : Row w' (w0.heap.size + 2) 27 (tokV { t with tag := T } A c)) (own : w.ownsRow (g + 1) 51 5 (.slice A t.cavs.length c) t.cavs.length (t.cavs.flatMap cavV)) (hg : w.grownBy w' (some (w0.heap.size + 2))) (hn : w0.heap.size + 2 < g) : RdSt w0 g { t with tag := T } f l w' := by
  obtain ⟨h1, h2, h3, _, h6⟩ := h
  exact ⟨h1.grown hg h1.size (fun k hk => by cases hk; omega), h2.grown hg (by omega) (by omega), h3.kept hg (fun k hk => by cases hk; omega), ⟨A, c, hr, ownk_grown own hg (by omega)⟩, h6.kept hg (fun k hk => by cases hk; omega)⟩
/-- An append, and the store of what comes of it. -/
theorem RdSt.append {w0 : World} {g : Nat} {t : Tok} {f : Fd} {l : List UInt8} {w w' : World} {A A8 : Option Addr} {c c8 : Nat} {row : Option Nat} (h : RdSt w0 g t f l w) (cv : Cav) (hg : w.grownBy w' row) (hrow : ∀ k, row = some k → g + 1 ≤ k) (r : Row w (w0.heap.size + 2) 27 (tokV t A c))
    (own : w'.ownsRow (g + 1) 51 5 (.slice A8 (t.cavs.length + 1) c8) (t.cavs.length + 1) (t.cavs.flatMap cavV ++ cavV cv)) (hn : w0.heap.size + 2 < g) :
    RdSt w0 g { t with cavs := t.cavs ++ [cv] } f l (w'.setCell ⟨w0.heap.size + 2, 2, none⟩ (.slice A8 (t.cavs.length + 1) c8)) := by
  obtain ⟨h1, h2, h3, _, h6⟩ := h
  have hg2 := grown_setCell w' (w0.heap.size + 2) 2 (.slice A8 (t.cavs.length + 1) c8)
  have e : (t.cavs ++ [cv]).length = t.cavs.length + 1 := by simp
  have e2 : (t.cavs ++ [cv]).flatMap cavV = t.cavs.flatMap cavV ++ cavV cv := by simp
  have b1 := h1.grown hg h1.size (fun k hk => by have := hrow k hk; omega)
  have r1 : RowAt w' w0.heap.size (w0.heap.size + 1) l := by
    cases row with
    | none => exact h2.below (below_of_grown hg)
    | some k => exact h2.grown hg (by have := hrow k rfl; omega) (by have := hrow k rfl; omega)
  refine ⟨b1.grown hg2 b1.size (fun k hk => by cases hk; omega), r1.grown hg2 (by omega) (by omega), (h3.kept hg (fun k hk => by have := hrow k hk; omega)).kept hg2 (fun k hk => by cases hk; omega), ⟨A8, c8, ?_, ?_⟩, (h6.kept hg (fun k hk => by have := hrow k hk; omega)).kept hg2 (fun k hk => by cases hk; omega)⟩
  · have := (r.kept hg (fun k hk => by have := hrow k hk; omega)).set 2 (.slice A8 (t.cavs.length + 1) c8)
    unfold tokV tokH
    dsimp only
    rw [e]
    exact this
  · dsimp only
    rw [e, e2]
    exact ownk_grown own hg2 (by omega)
def lenAt (w : World) (g : Nat) : Nat := match w.cell? ⟨g, 2, none⟩ with | some (.slice _ n _) => n | _ => 0
theorem RdSt.len {w0 : World} {g : Nat} {t : Tok} {f : Fd} {l : List UInt8} {w : World} (h : RdSt w0 g t f l w) : lenAt w (w0.heap.size + 2) = t.cavs.length := by
  obtain ⟨A, c, r, _⟩ := h.tok
  have : w.cell? ⟨w0.heap.size + 2, 2, none⟩ = some (.slice A t.cavs.length c) := by rw [r.cell]; rfl
  unfold lenAt
  rw [this]
theorem isCav_end {cs : List Cav} {f : Fd} {l : List UInt8} (h : isCav f = false ∨ 65 ≤ cs.length) : loopL (65 - cs.length) cs f l = (cs, f, l) := by
  rcases h with h | h
  · exact loopL_stop _ _ _ _ h
  · rw [show 65 - cs.length = 0 by omega]; rfl
set_option maxRecDepth 20000 in
set_option maxHeartbeats 4000000 in
theorem pread_any (A : Option Addr) (n c : Nat) (l : List UInt8) (w : World) (hs : Sl w A c (byts l)) (hn : n = l.length) (hm : l.length ≤ 1000000) :
    Calls Try.prog 61 #[.slice A n c] w fun e w' => ∃ B d, e = .returned (.agg (tokV (readL l) B d).toArray) ∧ Sl w' B (d * 5) ((readL l).cavs.flatMap cavV) ∧ (∀ a, B = some a → w.heap.size ≤ a.block) ∧ Below w.heap.size w w' := by
  subst hn
  obtain ⟨i0, hi, hz0, hz1, hz2⟩ := info_cav
  have hA : 0 < l.length → ∀ a, A = some a → a.block < w.heap.size := fun h0 a ha => by
    obtain ⟨b, o, he, hlt, _⟩ := hs.rd.get (i := 0) (by rw [length_byts]; exact h0)
    rw [ha] at he; cases he; exact hlt
  have hnx := Lib.hid (show ∀ (l' : List UInt8) (w1 : World), l'.length ≤ 1000000 → RowAt w1 w.heap.size (w.heap.size + 1) l' → Calls Try.prog 65 #[.pointer (some ⟨w.heap.size + 1, 0, none⟩)] w1 fun e w' => e = .returned (.agg (fdV (getF l').1).toArray) ∧ RowAt w' w.heap.size (w.heap.size + 1) (restF l') ∧ w1.grownBy w' (some (w.heap.size + 1)) from fun l' w1 hl h => pnext_any (w.heap.size + 1) w.heap.size l' w1 h (Nat.le_succ _) hl)
  have hl1 := restF_len l _ hm
  have hl2 := restF_len _ _ hl1
  have hl3 := restF_len _ _ hl2
  have hf1 := getF_len l _ hm
  have hf3 := getF_len _ _ hl2
  obtain ⟨l1, hl1q⟩ : ∃ l1, l1 = restF l := ⟨_, rfl⟩
  obtain ⟨l2, hl2q⟩ : ∃ l2, l2 = restF l1 := ⟨_, rfl⟩
  obtain ⟨l3, hl3q⟩ : ∃ l3, l3 = restF l2 := ⟨_, rfl⟩
  obtain ⟨k1, f1, hF1⟩ : ∃ k1 f1, (getF l).1 = (k1, f1) := ⟨_, _, rfl⟩
  obtain ⟨k2, f2, hF2⟩ : ∃ k2 f2, (getF l1).1 = (k2, f2) := ⟨_, _, rfl⟩
  obtain ⟨f3, hF3⟩ : ∃ f3, f3 = (getF l2).1 := ⟨_, rfl⟩
  obtain ⟨m, hM⟩ : ∃ m, m = (getL f1).1 := ⟨_, rfl⟩
  rw [← hl1q, ← hl2q] at hl2 hl3 hf3
  rw [← hl1q] at hl1
  rw [← hl3q] at hl3
  rw [← hF3] at hf3
  rw [hF1] at hf1
  have HR := Lib.hid (show readL l = ⟨m, f2, (loopL 65 [] f3 l3).1, decide ((loopL 65 [] f3 l3).2.1.2 = [1]), ofTag (getF (loopL 65 [] f3 l3).2.2).1.2⟩ by
    rw [hM, hF3, hl3q, hl2q, hl1q]
    have e1 : f1 = (getF l).1.2 := by rw [hF1]
    have e2 : f2 = (getF (restF l)).1.2 := by rw [← hl1q, hF2]
    rw [e1, e2]; rfl)
  have hn1 := Lib.hid (show ∀ w1, RowAt w1 w.heap.size (w.heap.size + 1) l → Calls Try.prog 65 #[.pointer (some ⟨w.heap.size + 1, 0, none⟩)] w1 fun e w' => e = .returned (.agg #[.int .u8 (k1.toNat : Int), .string (bstr f1)]) ∧ RowAt w' w.heap.size (w.heap.size + 1) l1 ∧ w1.grownBy w' (some (w.heap.size + 1)) by
    intro w1 h; have := hnx.out l w1 hm h; rw [hF1, ← hl1q] at this; exact this)
  have hn2 := Lib.hid (show ∀ w1, RowAt w1 w.heap.size (w.heap.size + 1) l1 → Calls Try.prog 65 #[.pointer (some ⟨w.heap.size + 1, 0, none⟩)] w1 fun e w' => e = .returned (.agg #[.int .u8 (k2.toNat : Int), .string (bstr f2)]) ∧ RowAt w' w.heap.size (w.heap.size + 1) l2 ∧ w1.grownBy w' (some (w.heap.size + 1)) by
    intro w1 h; have := hnx.out l1 w1 hl1 h; rw [hF2, ← hl2q] at this; exact this)
  obtain ⟨V3, hV3⟩ : ∃ V, V = fdV f3 := ⟨_, rfl⟩
  have hn3 := Lib.hid (show ∀ w1, RowAt w1 w.heap.size (w.heap.size + 1) l2 → Calls Try.prog 65 #[.pointer (some ⟨w.heap.size + 1, 0, none⟩)] w1 fun e w' => e = .returned (.agg V3.toArray) ∧ RowAt w' w.heap.size (w.heap.size + 1) l3 ∧ w1.grownBy w' (some (w.heap.size + 1)) by
    intro w1 h; have := hnx.out l2 w1 hl2 h; rw [← hF3, ← hV3, ← hl3q] at this; exact this)
  have hnum := Lib.hid (show ∀ w1, Calls Try.prog 64 #[.agg #[.int .u8 (k1.toNat : Int), .string (bstr f1)]] w1 fun e w' => e = .returned (.int .u64 m) ∧ Below w1.heap.size w1 w' from fun w1 => by rw [hM]; exact pnumber_any (k1, f1) hf1 w1)
  have hfd2 := field_ff (k2.toNat : Int) (bstr f2)
  have hzV := Lib.hid (show (Try.prog.info? 55).map (·.size) = some V3.toArray.size by rw [hV3]; exact size_ff)
  have hV2 := Lib.hid (show (2 : Nat) = V3.toArray.size by rw [hV3]; rfl)
  have hof := Lib.hid (show V3.toArray.all (·.oneCell') = true from all_one (fun v hv => fdV_one [f3] v (by rw [hV3] at hv; simpa using hv)))
  have HV3 := Lib.hid hV3
  clear hl1q hl2q hl3q hF1 hF2 hF3 hM hV3 hf1 hl1 hl2
  go_enter Try.func61, Try.ntmps61
  go_wp2_with fail
  generalize hw1 : World.alloc (World.alloc (World.alloc w _) _) _ = w1
  obtain ⟨q0, q1, q2, hb1⟩ := three_rows (X := [Value.int .u64 0, .string { data := #[] }, .slice none 0 0, .bool false, .int .u8 0, .int .u8 0, .int .u8 0, .int .u8 0, .int .u8 0, .int .u8 0, .int .u8 0, .int .u8 0, .int .u8 0, .int .u8 0, .int .u8 0, .int .u8 0, .int .u8 0, .int .u8 0, .int .u8 0, .int .u8 0, .int .u8 0, .int .u8 0, .int .u8 0, .int .u8 0, .int .u8 0, .int .u8 0, .int .u8 0, .int .u8 0, .int .u8 0, .int .u8 0, .int .u8 0, .int .u8 0, .int .u8 0, .int .u8 0, .int .u8 0, .int .u8 0]) (Y := [.slice A l.length c]) (Z := [Value.int .u64 0, .string { data := #[] }, .slice none 0 0, .bool false, .int .u8 0, .int .u8 0, .int .u8 0, .int .u8 0, .int .u8 0, .int .u8 0, .int .u8 0, .int .u8 0, .int .u8 0, .int .u8 0, .int .u8 0, .int .u8 0, .int .u8 0, .int .u8 0, .int .u8 0, .int .u8 0, .int .u8 0, .int .u8 0, .int .u8 0, .int .u8 0, .int .u8 0, .int .u8 0, .int .u8 0, .int .u8 0, .int .u8 0, .int .u8 0, .int .u8 0, .int .u8 0, .int .u8 0, .int .u8 0, .int .u8 0, .int .u8 0]) hw1
  have hst1 : Rd0 w zeroK l w1 := ⟨hb1, ⟨A, c, q1, hs.later (Nat.le_refl _) hb1, hA⟩, by rw [ztok]; exact q0, by rw [ztok]; exact q2⟩
  clear hw1 q0 q1 q2 hb1 hs hA
  have tok1 : True := trivial
  have tok2 : True := trivial
  have tok3 : True := trivial
  go_wp2_with (first
    | (have _t := tok1; go_at_call 65; refine (hn1.out _ hst1.row).mono ?_; rintro e w2 ⟨rfl, hr2, hg2⟩; have hst2 := hst1.next hr2 hg2; clear tok1 hr2 hg2)
    | (go_at_call 64; refine (hnum.out _).mono ?_; rintro e w3 ⟨rfl, hb3⟩; have hst3 := hst2.below hb3; have hz3 := hst3.tok.free 0; have hc3 : w3.cell? ⟨w.heap.size + 2, 0, none⟩ = some (.int .u64 0) := (by rw [hst3.tok.cell]; rfl); have hst3' := hst3.key m; clear hb3)
    | (have _t := tok2; go_at_call 65; refine (hn2.out _ hst3'.row).mono ?_; rintro e w4 ⟨rfl, hr4, hg4⟩; have hst4 := hst3'.next hr4 hg4; have hz4 := hst4.tok.free 1; have hc4 : w4.cell? ⟨w.heap.size + 2, 1, none⟩ = some (.string { data := #[] }) := (by rw [hst4.tok.cell]; rfl); have hst4' := hst4.id f2; clear tok2 hr4 hg4)
    | (have _t := tok3; go_at_call 65; refine (hn3.out _ hst4'.row).mono ?_; rintro e w5 ⟨rfl, hr5, hg5⟩; have hst5 := hst4'.next hr5 hg5; clear tok3 hr5 hg5)
    | (with_reducible refine wpList_store_row rfl 55 (.tmp 5) (.tmp 13) rfl w5.heap.size V3.toArray rfl rfl 55 _ (heap_alloc_new w5 _) hzV.out (Eq.trans (by kernel_rfl) hV2.out) hof.out ?_; refine Hid.out ?_))
  refine Lib.hid ?_
  generalize hw6 : World.setRow _ _ _ = w6
  obtain ⟨r6, hb6⟩ := row_new_set (xs := V3) hw6
  have hgg := hst5.tok.lt
  obtain ⟨g, hgq⟩ : ∃ g, g = w5.heap.size := ⟨_, rfl⟩
  rw [← hgq] at r6 hgg ⊢
  have hst6 : RdSt w g ⟨m, f2, [], false, List.replicate 32 0⟩ f3 l3 w6 := RdSt.of0 (hst5.below hb6) rfl (by rw [HV3.out] at r6; exact r6)
  clear hw6 r6 hb6 hgq hst5 hst4' hst4 hz4 hc4 hst3' hst3 hz3 hc3 hst2 hst1 hn1 hn2 hn3 hnum hfd2 hzV hV2 hof HV3
  go_wp2_with fail
  go_loopw [] (fun wr => ∃ (cs : List Cav) (f : Fd) (l' : List UInt8), cs.length ≤ 65 ∧ l'.length ≤ 1000000 ∧ f.2.length ≤ 1000000 ∧ loopL 65 [] f3 l3 = loopL (65 - cs.length) cs f l' ∧ RdSt w g ⟨m, f2, cs, false, List.replicate 32 0⟩ f l' wr) (fun wr => 65 - lenAt wr (w.heap.size + 2))
  case atStart => exact ⟨[], f3, l3, by simp, hl3, hf3, rfl, hst6⟩
  case round =>
    clear hst6
    obtain ⟨cs, ⟨x, T⟩, l', hcl, hll, hfl, hq, hst⟩ := hrel
    have Hq := Lib.hid hq
    clear hq
    obtain ⟨A2, c2, r2, own2⟩ := hst.tok
    dsimp only at own2
    by_cases h3 : x = 3
    · subst h3
      by_cases hcn : cs.length ≤ 64
      · have ccl : wr.cell? ⟨w.heap.size + 2, 2, none⟩ = some (.slice A2 cs.length c2) := by rw [r2.cell]; rfl
        have c50 : wr.cell? ⟨g, 0, none⟩ = some (.int .u8 3) := by rw [hst.fld.cell]; rfl
        have hc64 : (cs.length : Int) ≤ 64 := by omega
        obtain ⟨a1, a2, a3, a4, a5, l4, hcv⟩ : ∃ a1 a2 a3 a4 a5 l4, cavL (3, T) l' = (⟨a1, a2, a3, a4, a5⟩, l4) := ⟨_, _, _, _, _, _, rfl⟩
        have hl4 : l4.length ≤ 1000000 := by have := (cavL_len (3, T) l' _ hfl hll).2; rw [hcv] at this; exact this
        obtain ⟨f4, hf4q⟩ : ∃ f4, f4 = (getF l4).1 := ⟨_, rfl⟩
        have hf4 : f4.2.length ≤ 1000000 := by rw [hf4q]; exact getF_len _ _ hl4
        obtain ⟨V, hV⟩ : ∃ V, V = fdV (3, T) := ⟨_, rfl⟩
        obtain ⟨V4, hV4⟩ : ∃ V, V = fdV f4 := ⟨_, rfl⟩
        have hcav := Lib.hid (show ∀ w1, RowAt w1 w.heap.size (w.heap.size + 1) l' → Calls Try.prog 66 #[.pointer (some ⟨w.heap.size + 1, 0, none⟩), .agg V.toArray] w1 fun e w' => e = .returned (.agg #[.bool a1, .string (bstr a2), .int .u64 a3, .string (bstr a4), .string (bstr a5)]) ∧ RowAt w' w.heap.size (w.heap.size + 1) l4 ∧ w1.grownBy w' (some (w.heap.size + 1)) by
          intro w1 h; have := pcaveat_any (w.heap.size + 1) w.heap.size (3, T) l' w1 h (Nat.le_succ _) hll hfl; rw [hcv] at this; rw [hV]; exact this)
        have hnxt := Lib.hid (show ∀ w1, RowAt w1 w.heap.size (w.heap.size + 1) l4 → Calls Try.prog 65 #[.pointer (some ⟨w.heap.size + 1, 0, none⟩)] w1 fun e w' => e = .returned (.agg V4.toArray) ∧ RowAt w' w.heap.size (w.heap.size + 1) (restF l4) ∧ w1.grownBy w' (some (w.heap.size + 1)) by
          intro w1 h; have := hnx.out l4 w1 hl4 h; rw [← hf4q, ← hV4] at this; exact this)
        have hzVl := Lib.hid (show (Try.prog.info? 55).map (·.size) = some V.length by rw [hV]; exact size_ff)
        have hz4 := Lib.hid (show (Try.prog.info? 55).map (·.size) = some V4.toArray.size by rw [hV4]; exact size_ff)
        have hz24 := Lib.hid (show V.toArray.size = V4.toArray.size by rw [hV4, hV]; rfl)
        have ho4 := Lib.hid (show V4.toArray.all (·.oneCell') = true from all_one (fun v hv => fdV_one [f4] v (by rw [hV4] at hv; simpa using hv)))
        have hone : ∀ u ∈ cavV ⟨a1, a2, a3, a4, a5⟩, u.oneCell' = true := fun v hv => cavV_one [⟨a1, a2, a3, a4, a5⟩] v (by simpa using hv)
        have n1 : cs.length + 1 ≤ maxLen := by unfold maxLen; omega
        have n2 : (cs.length + 1) * 64 ≤ 140737488355328 := by omega
        have HS := Lib.hid (show loopL (65 - cs.length) cs (3, T) l' = loopL (65 - (cs ++ [(⟨a1, a2, a3, a4, a5⟩ : Cav)]).length) (cs ++ [⟨a1, a2, a3, a4, a5⟩]) f4 (restF l4) by
          obtain ⟨n, hn⟩ : ∃ n, 65 - cs.length = n + 1 := ⟨64 - cs.length, by omega⟩
          rw [List.length_append, List.length_singleton, show 65 - (cs.length + 1) = n by omega, hn, loopL_go _ _ _ _ rfl, hcv, hf4q])
        have HL0 := Lib.hid (hst.len)
        have HV := Lib.hid hV
        have HV4 := Lib.hid hV4
        have hrg := row_range (Row.drew hst.fld)
        rw [← hV] at hrg
        clear hcv hf4q hV hV4
        go_wp2_with fail
        refine wp_region_noPanic ?_
        refine wp_region_held_drew (S := fun w' => w'.rangeAt g 0 (fdV (3, T))) (by kernel_rfl) (row_range (Row.drew hst.fld)) (fun hHeld => ?_)
        refine rtake 0 _ (some 28) _ rfl rfl (by kernel_rfl) (by kernel_rfl) (by kernel_rfl) (fun _ _ _ h => h) (by rfl) hHeld (by intro w hS; go_simp; try with_reducible rfl) ?_
        try (first | (rw [put_some]; dsimp only [List.set]) | rw [put_none])
        refine rtake 2 _ (some 30) _ rfl rfl (by kernel_rfl) (by kernel_rfl) (by kernel_rfl) (fun _ _ _ h => h) (by rfl) hHeld (by intro w hS; rw [← HV.out] at hS; exact run_load_op 55 (.tmp 5) rfl g 0 rfl V _ hS Try.underlying55 rfl hzVl.out) ?_
        try (first | (rw [put_some]; dsimp only [List.set]) | rw [put_none])
        clear hrg c50 hc64
        refine wpAnyH_ready (rs := [1, 3]) (by kernel_rfl) (by simp) (AllReadyH.cons (o := _) rfl (fun K hK => ?_) (AllReadyH.cons (o := _) rfl (fun K hK => ?_) AllReadyH.nil))
        · go_simp
          refine hK.out _ _ hHeld (fun _ => ?_)
          clear hK K
          try (first | (rw [put_some]; dsimp only [List.set]) | rw [put_none])
          refine wpAnyH_ready (rs := [3]) (by kernel_rfl) (by simp) (AllReadyH.cons (o := _) rfl (fun K hK => ?_) AllReadyH.nil)
          go_simp
          refine (hcav.out _ (hst.row.below ((Below.refl wr.heap.size wr).drew))).mono ?_; rintro e w7 ⟨rfl, hr7, hg7⟩
          have hg7' := grown_trans (grown_of_below ((Below.refl wr.heap.size wr).drew) (some (w.heap.size + 1))) hg7
          have hst7 := hst.next hr7 hg7' hgg
          have r27 := Row.kept r2 hg7' (fun k hk => by cases hk; omega)
          have own7 := ownk_grown own2 hg7' (by omega)
          have ccl7 : w7.cell? ⟨w.heap.size + 2, 2, none⟩ = some (.slice A2 cs.length c2) := by rw [r27.cell]; rfl
          clear hr7 hg7 hg7'
          try go_wp2_with fail
          refine hK.out _ _ (row_range hst7.fld) (fun hHeld' => ?_)
          clear hK K
          try (first | (rw [put_some]; dsimp only [List.set]) | rw [put_none])
          clear hHeld
          have hHeld := hHeld'
          clear hHeld'
          refine wpAnyH_ready (rs := [4]) (by kernel_rfl) (by simp) (AllReadyH.cons (o := _) rfl (fun K hK => ?_) AllReadyH.nil)
          refine step_alloc (some 32) rfl (by rfl) (.slice (some ⟨w7.heap.size, 0, none⟩) 1 1) (.cells #[.bool a1, .string (bstr a2), .int .u64 a3, .string (bstr a4), .string (bstr a5)] 51) (by go_simp; try rfl) ?_; intro w8 hw8 hb8; have hsl8 : Sl w8 (some ⟨w7.heap.size, 0, none⟩) (1 * 5) (cavV ⟨a1, a2, a3, a4, a5⟩) := (by rw [hw8]; exact ⟨Rd.block (Go.heap_alloc_new w7 _), Nat.le_refl _, fun h => by cases h⟩); clear hw8
          have hst8 := hst7.below hb8
          have r28 := r27.later hb8 r27.lt
          have own8 := ownk_later own7 hb8 (Nat.le_refl _)
          have ccl8 : w8.cell? ⟨w.heap.size + 2, 2, none⟩ = some (.slice A2 cs.length c2) := by rw [r28.cell]; rfl
          have hsz8 : g + 1 ≤ w8.heap.size := hst8.fld.lt
          clear hb8
          refine hK.out _ _ (row_range hst8.fld) (fun hHeld' => ?_)
          clear hK K
          try (first | (rw [put_some]; dsimp only [List.set]) | rw [put_none])
          clear hHeld
          have hHeld := hHeld'
          clear hHeld'
          refine wpAnyH_ready (rs := [5]) (by kernel_rfl) (by simp) (AllReadyH.cons (o := _) rfl (fun K hK => ?_) AllReadyH.nil)
          refine step_append_k (some 33) rfl (by rfl) (.tmp 29) (.tmp 32) 23 rfl (g + 1) 51 i0 _ 5 64 Try.underlying23 hi hz0 hz1 (by omega) hz2 rfl _ cs.length (cs.flatMap cavV) rfl own8 (some ⟨w7.heap.size, 0, none⟩) 1 1 (cavV ⟨a1, a2, a3, a4, a5⟩) rfl rfl hsl8 hone n1 n2 hsz8 ?_; intro v9 w9 hown9 hg9; obtain ⟨A9, c9, rfl, _, _⟩ := Sl.of_ownk hown9
          have hne9 : ∀ k, (Value.slice A2 cs.length c2).ownBlock = some k → g + 1 ≤ k := fun k hk => (own8.lt k hk).1
          have r29 := Row.kept r28 hg9 (fun k hk => by have := hne9 k hk; omega)
          have hz9 := r29.free 2
          have ccl9 : w9.cell? ⟨w.heap.size + 2, 2, none⟩ = some (.slice A2 cs.length c2) := by rw [r29.cell]; rfl
          have hst10 := hst8.append ⟨a1, a2, a3, a4, a5⟩ hg9 hne9 r28 hown9 hgg
          have hf9 := row_range (hst8.fld.kept hg9 (fun k hk => by have := hne9 k hk; omega))
          clear hown9 hg9 hne9 r28 own8 hsl8 hst8 ccl8 hst7 r27 own7 ccl7
          refine hK.out _ _ (hf9) (fun hHeld' => ?_)
          clear hK K
          try (first | (rw [put_some]; dsimp only [List.set]) | rw [put_none])
          clear hHeld
          have hHeld := hHeld'
          clear hHeld'
          refine rtake 6 _ (some 34) _ rfl rfl (by kernel_rfl) (by kernel_rfl) (by kernel_rfl) (fun _ _ _ h => h) (by rfl) hHeld (by intro w hS; go_simp; try with_reducible rfl) ?_
          try (first | (rw [put_some]; dsimp only [List.set]) | rw [put_none])
          refine wpAnyH_ready (rs := [7]) (by kernel_rfl) (by simp) (AllReadyH.cons (o := _) rfl (fun K hK => ?_) AllReadyH.nil)
          go_simp
          refine hK.out _ _ (row_range hst10.fld) (fun _ => ?_)
          clear hK K
          try (first | (rw [put_some]; dsimp only [List.set]) | rw [put_none])
          refine wpAnyH_done (by kernel_rfl) ?_ _
          refine NoPanic.normal ?_
          clear hf9 hHeld hz9 ccl9 r29 hst ccl r2 own2
          generalize w9.setCell ⟨w.heap.size + 2, 2, none⟩ (.slice A9 (cs.length + 1) c9) = w10 at *
          go_wp2_with (first
            | (go_at_call 65; refine (hnxt.out _ hst10.row).mono ?_; rintro e w11 ⟨rfl, hr11, hg11⟩; have hst11 := hst10.next hr11 hg11 hgg; have R11 := Lib.hid (show w11.heap[g]? = some (.cells V.toArray 55 (0, 0)) by rw [HV.out]; exact hst11.fld); clear hr11 hg11)
            | (with_reducible refine wpList_store_row rfl 55 (.tmp 5) (.tmp 35) rfl g V4.toArray rfl rfl 55 V.toArray R11.out hz4.out hz24.out ho4.out ?_; refine Hid.out ?_))
          refine Lib.hid ?_
          generalize hw12 : World.setRow _ _ _ = w12
          obtain ⟨r12, hg12⟩ := row_set (xs := V4) (old := V) R11.out hw12
          have hst12 := hst11.field (by rw [HV4.out] at r12; exact r12) hg12 hgg
          clear hw12 r12 hg12 hst11 R11 hst10
          go_wp2_with fail
          go_roundw
          case rel => exact ⟨cs ++ [⟨a1, a2, a3, a4, a5⟩], f4, restF l4, by rw [List.length_append]; exact Nat.succ_le_of_lt (Nat.lt_succ_of_le hcn), restF_len _ _ hl4, hf4, by rw [Hq.out, HS.out], hst12⟩
          case measure => rw [hst12.len, HL0.out]; show 65 - (cs ++ [_]).length < _; rw [List.length_append, List.length_singleton]; omega
        · go_simp
          refine (hcav.out _ (hst.row.below ((Below.refl wr.heap.size wr).drew))).mono ?_; rintro e w7 ⟨rfl, hr7, hg7⟩
          have hg7' := grown_trans (grown_of_below ((Below.refl wr.heap.size wr).drew) (some (w.heap.size + 1))) hg7
          have hst7 := hst.next hr7 hg7' hgg
          have r27 := Row.kept r2 hg7' (fun k hk => by cases hk; omega)
          have own7 := ownk_grown own2 hg7' (by omega)
          have ccl7 : w7.cell? ⟨w.heap.size + 2, 2, none⟩ = some (.slice A2 cs.length c2) := by rw [r27.cell]; rfl
          clear hr7 hg7 hg7'
          try go_wp2_with fail
          refine hK.out _ _ (row_range hst7.fld) (fun hHeld' => ?_)
          clear hK K
          try (first | (rw [put_some]; dsimp only [List.set]) | rw [put_none])
          clear hHeld
          have hHeld := hHeld'
          clear hHeld'
          refine wpAnyH_ready (rs := [1, 4]) (by kernel_rfl) (by simp) (AllReadyH.cons (o := _) rfl (fun K hK => ?_) (AllReadyH.cons (o := _) rfl (fun K hK => ?_) AllReadyH.nil))
          · go_simp
            refine hK.out _ _ hHeld (fun _ => ?_)
            clear hK K
            try (first | (rw [put_some]; dsimp only [List.set]) | rw [put_none])
            refine wpAnyH_ready (rs := [4]) (by kernel_rfl) (by simp) (AllReadyH.cons (o := _) rfl (fun K hK => ?_) AllReadyH.nil)
            refine step_alloc (some 32) rfl (by rfl) (.slice (some ⟨w7.heap.size, 0, none⟩) 1 1) (.cells #[.bool a1, .string (bstr a2), .int .u64 a3, .string (bstr a4), .string (bstr a5)] 51) (by go_simp; try rfl) ?_; intro w8 hw8 hb8; have hsl8 : Sl w8 (some ⟨w7.heap.size, 0, none⟩) (1 * 5) (cavV ⟨a1, a2, a3, a4, a5⟩) := (by rw [hw8]; exact ⟨Rd.block (Go.heap_alloc_new w7 _), Nat.le_refl _, fun h => by cases h⟩); clear hw8
            have hst8 := hst7.below hb8
            have r28 := r27.later hb8 r27.lt
            have own8 := ownk_later own7 hb8 (Nat.le_refl _)
            have ccl8 : w8.cell? ⟨w.heap.size + 2, 2, none⟩ = some (.slice A2 cs.length c2) := by rw [r28.cell]; rfl
            have hsz8 : g + 1 ≤ w8.heap.size := hst8.fld.lt
            clear hb8
            refine hK.out _ _ (row_range hst8.fld) (fun hHeld' => ?_)
            clear hK K
            try (first | (rw [put_some]; dsimp only [List.set]) | rw [put_none])
            clear hHeld
            have hHeld := hHeld'
            clear hHeld'
            refine wpAnyH_ready (rs := [5]) (by kernel_rfl) (by simp) (AllReadyH.cons (o := _) rfl (fun K hK => ?_) AllReadyH.nil)
            refine step_append_k (some 33) rfl (by rfl) (.tmp 29) (.tmp 32) 23 rfl (g + 1) 51 i0 _ 5 64 Try.underlying23 hi hz0 hz1 (by omega) hz2 rfl _ cs.length (cs.flatMap cavV) rfl own8 (some ⟨w7.heap.size, 0, none⟩) 1 1 (cavV ⟨a1, a2, a3, a4, a5⟩) rfl rfl hsl8 hone n1 n2 hsz8 ?_; intro v9 w9 hown9 hg9; obtain ⟨A9, c9, rfl, _, _⟩ := Sl.of_ownk hown9
            have hne9 : ∀ k, (Value.slice A2 cs.length c2).ownBlock = some k → g + 1 ≤ k := fun k hk => (own8.lt k hk).1
            have r29 := Row.kept r28 hg9 (fun k hk => by have := hne9 k hk; omega)
            have hz9 := r29.free 2
            have ccl9 : w9.cell? ⟨w.heap.size + 2, 2, none⟩ = some (.slice A2 cs.length c2) := by rw [r29.cell]; rfl
            have hst10 := hst8.append ⟨a1, a2, a3, a4, a5⟩ hg9 hne9 r28 hown9 hgg
            have hf9 := row_range (hst8.fld.kept hg9 (fun k hk => by have := hne9 k hk; omega))
            clear hown9 hg9 hne9 r28 own8 hsl8 hst8 ccl8 hst7 r27 own7 ccl7
            refine hK.out _ _ (hf9) (fun hHeld' => ?_)
            clear hK K
            try (first | (rw [put_some]; dsimp only [List.set]) | rw [put_none])
            clear hHeld
            have hHeld := hHeld'
            clear hHeld'
            refine rtake 6 _ (some 34) _ rfl rfl (by kernel_rfl) (by kernel_rfl) (by kernel_rfl) (fun _ _ _ h => h) (by rfl) hHeld (by intro w hS; go_simp; try with_reducible rfl) ?_
            try (first | (rw [put_some]; dsimp only [List.set]) | rw [put_none])
            refine wpAnyH_ready (rs := [7]) (by kernel_rfl) (by simp) (AllReadyH.cons (o := _) rfl (fun K hK => ?_) AllReadyH.nil)
            go_simp
            refine hK.out _ _ (row_range hst10.fld) (fun _ => ?_)
            clear hK K
            try (first | (rw [put_some]; dsimp only [List.set]) | rw [put_none])
            refine wpAnyH_done (by kernel_rfl) ?_ _
            refine NoPanic.normal ?_
            clear hf9 hHeld hz9 ccl9 r29 hst ccl r2 own2
            generalize w9.setCell ⟨w.heap.size + 2, 2, none⟩ (.slice A9 (cs.length + 1) c9) = w10 at *
            go_wp2_with (first
              | (go_at_call 65; refine (hnxt.out _ hst10.row).mono ?_; rintro e w11 ⟨rfl, hr11, hg11⟩; have hst11 := hst10.next hr11 hg11 hgg; have R11 := Lib.hid (show w11.heap[g]? = some (.cells V.toArray 55 (0, 0)) by rw [HV.out]; exact hst11.fld); clear hr11 hg11)
              | (with_reducible refine wpList_store_row rfl 55 (.tmp 5) (.tmp 35) rfl g V4.toArray rfl rfl 55 V.toArray R11.out hz4.out hz24.out ho4.out ?_; refine Hid.out ?_))
            refine Lib.hid ?_
            generalize hw12 : World.setRow _ _ _ = w12
            obtain ⟨r12, hg12⟩ := row_set (xs := V4) (old := V) R11.out hw12
            have hst12 := hst11.field (by rw [HV4.out] at r12; exact r12) hg12 hgg
            clear hw12 r12 hg12 hst11 R11 hst10
            go_wp2_with fail
            go_roundw
            case rel => exact ⟨cs ++ [⟨a1, a2, a3, a4, a5⟩], f4, restF l4, by rw [List.length_append]; exact Nat.succ_le_of_lt (Nat.lt_succ_of_le hcn), restF_len _ _ hl4, hf4, by rw [Hq.out, HS.out], hst12⟩
            case measure => rw [hst12.len, HL0.out]; show 65 - (cs ++ [_]).length < _; rw [List.length_append, List.length_singleton]; omega
          · refine step_alloc (some 32) rfl (by rfl) (.slice (some ⟨w7.heap.size, 0, none⟩) 1 1) (.cells #[.bool a1, .string (bstr a2), .int .u64 a3, .string (bstr a4), .string (bstr a5)] 51) (by go_simp; try rfl) ?_; intro w8 hw8 hb8; have hsl8 : Sl w8 (some ⟨w7.heap.size, 0, none⟩) (1 * 5) (cavV ⟨a1, a2, a3, a4, a5⟩) := (by rw [hw8]; exact ⟨Rd.block (Go.heap_alloc_new w7 _), Nat.le_refl _, fun h => by cases h⟩); clear hw8
            have hst8 := hst7.below hb8
            have r28 := r27.later hb8 r27.lt
            have own8 := ownk_later own7 hb8 (Nat.le_refl _)
            have ccl8 : w8.cell? ⟨w.heap.size + 2, 2, none⟩ = some (.slice A2 cs.length c2) := by rw [r28.cell]; rfl
            have hsz8 : g + 1 ≤ w8.heap.size := hst8.fld.lt
            clear hb8
            refine hK.out _ _ (row_range hst8.fld) (fun hHeld' => ?_)
            clear hK K
            try (first | (rw [put_some]; dsimp only [List.set]) | rw [put_none])
            clear hHeld
            have hHeld := hHeld'
            clear hHeld'
            refine wpAnyH_ready (rs := [1]) (by kernel_rfl) (by simp) (AllReadyH.cons (o := _) rfl (fun K hK => ?_) AllReadyH.nil)
            go_simp
            refine hK.out _ _ hHeld (fun _ => ?_)
            clear hK K
            try (first | (rw [put_some]; dsimp only [List.set]) | rw [put_none])
            refine wpAnyH_ready (rs := [5]) (by kernel_rfl) (by simp) (AllReadyH.cons (o := _) rfl (fun K hK => ?_) AllReadyH.nil)
            refine step_append_k (some 33) rfl (by rfl) (.tmp 29) (.tmp 32) 23 rfl (g + 1) 51 i0 _ 5 64 Try.underlying23 hi hz0 hz1 (by omega) hz2 rfl _ cs.length (cs.flatMap cavV) rfl own8 (some ⟨w7.heap.size, 0, none⟩) 1 1 (cavV ⟨a1, a2, a3, a4, a5⟩) rfl rfl hsl8 hone n1 n2 hsz8 ?_; intro v9 w9 hown9 hg9; obtain ⟨A9, c9, rfl, _, _⟩ := Sl.of_ownk hown9
            have hne9 : ∀ k, (Value.slice A2 cs.length c2).ownBlock = some k → g + 1 ≤ k := fun k hk => (own8.lt k hk).1
            have r29 := Row.kept r28 hg9 (fun k hk => by have := hne9 k hk; omega)
            have hz9 := r29.free 2
            have ccl9 : w9.cell? ⟨w.heap.size + 2, 2, none⟩ = some (.slice A2 cs.length c2) := by rw [r29.cell]; rfl
            have hst10 := hst8.append ⟨a1, a2, a3, a4, a5⟩ hg9 hne9 r28 hown9 hgg
            have hf9 := row_range (hst8.fld.kept hg9 (fun k hk => by have := hne9 k hk; omega))
            clear hown9 hg9 hne9 r28 own8 hsl8 hst8 ccl8 hst7 r27 own7 ccl7
            refine hK.out _ _ (hf9) (fun hHeld' => ?_)
            clear hK K
            try (first | (rw [put_some]; dsimp only [List.set]) | rw [put_none])
            clear hHeld
            have hHeld := hHeld'
            clear hHeld'
            refine rtake 6 _ (some 34) _ rfl rfl (by kernel_rfl) (by kernel_rfl) (by kernel_rfl) (fun _ _ _ h => h) (by rfl) hHeld (by intro w hS; go_simp; try with_reducible rfl) ?_
            try (first | (rw [put_some]; dsimp only [List.set]) | rw [put_none])
            refine wpAnyH_ready (rs := [7]) (by kernel_rfl) (by simp) (AllReadyH.cons (o := _) rfl (fun K hK => ?_) AllReadyH.nil)
            go_simp
            refine hK.out _ _ (row_range hst10.fld) (fun _ => ?_)
            clear hK K
            try (first | (rw [put_some]; dsimp only [List.set]) | rw [put_none])
            refine wpAnyH_done (by kernel_rfl) ?_ _
            refine NoPanic.normal ?_
            clear hf9 hHeld hz9 ccl9 r29 hst ccl r2 own2
            generalize w9.setCell ⟨w.heap.size + 2, 2, none⟩ (.slice A9 (cs.length + 1) c9) = w10 at *
            go_wp2_with (first
              | (go_at_call 65; refine (hnxt.out _ hst10.row).mono ?_; rintro e w11 ⟨rfl, hr11, hg11⟩; have hst11 := hst10.next hr11 hg11 hgg; have R11 := Lib.hid (show w11.heap[g]? = some (.cells V.toArray 55 (0, 0)) by rw [HV.out]; exact hst11.fld); clear hr11 hg11)
              | (with_reducible refine wpList_store_row rfl 55 (.tmp 5) (.tmp 35) rfl g V4.toArray rfl rfl 55 V.toArray R11.out hz4.out hz24.out ho4.out ?_; refine Hid.out ?_))
            refine Lib.hid ?_
            generalize hw12 : World.setRow _ _ _ = w12
            obtain ⟨r12, hg12⟩ := row_set (xs := V4) (old := V) R11.out hw12
            have hst12 := hst11.field (by rw [HV4.out] at r12; exact r12) hg12 hgg
            clear hw12 r12 hg12 hst11 R11 hst10
            go_wp2_with fail
            go_roundw
            case rel => exact ⟨cs ++ [⟨a1, a2, a3, a4, a5⟩], f4, restF l4, by rw [List.length_append]; exact Nat.succ_le_of_lt (Nat.lt_succ_of_le hcn), restF_len _ _ hl4, hf4, by rw [Hq.out, HS.out], hst12⟩
            case measure => rw [hst12.len, HL0.out]; show 65 - (cs ++ [_]).length < _; rw [List.length_append, List.length_singleton]; omega
      · have ccl : wr.cell? ⟨w.heap.size + 2, 2, none⟩ = some (.slice A2 cs.length c2) := by rw [r2.cell]; rfl
        have c50 : wr.cell? ⟨g, 0, none⟩ = some (.int .u8 3) := by rw [hst.fld.cell]; rfl
        have hc64 : (64 : Int) < (cs.length : Int) := by omega
        clear hcn
        have hEx := HR.out
        rw [Hq.out, isCav_end (.inr (by omega))] at hEx
        dsimp only at hEx
        clear HR Hq
        obtain ⟨k4, T4, hF4⟩ : ∃ k4 T4, (getF l').1 = (k4, T4) := ⟨_, _, rfl⟩
        have hT4 : T4.length ≤ 1000000 := by have := getF_len l' _ hll; rw [hF4] at this; exact this
        rw [hF4] at hEx
        dsimp only at hEx
        obtain ⟨b, hbq⟩ : ∃ b, b = decide (T = [1]) := ⟨_, rfl⟩
        rw [← hbq] at hEx
        obtain ⟨G, hGq⟩ : ∃ G, G = ofTag T4 := ⟨_, rfl⟩
        rw [← hGq] at hEx
        have hGl : G.length = 32 := by rw [hGq]; exact length_ofTag _
        have hn4 := Lib.hid (show ∀ w1, RowAt w1 w.heap.size (w.heap.size + 1) l' → Calls Try.prog 65 #[.pointer (some ⟨w.heap.size + 1, 0, none⟩)] w1 fun e w' => e = .returned (.agg #[.int .u8 (k4.toNat : Int), .string (bstr T4)]) ∧ RowAt w' w.heap.size (w.heap.size + 1) (restF l') ∧ w1.grownBy w' (some (w.heap.size + 1)) by
          intro w1 h; have := hnx.out l' w1 hll h; rw [hF4] at this; exact this)
        have hflag := Lib.hid (show ∀ w1, Calls Try.prog 50 #[.bool true] w1 fun e w' => e = .returned (.string (bstr [1])) ∧ w' = w1 from fun w1 => pflag_any true w1)
        have htag := Lib.hid (show ∀ A c w1, Sl w1 A c (byts T4) → Calls Try.prog 67 #[.slice A T4.length c] w1 fun e w' => e = .returned (.tuple #[.agg (byts G).toArray, .bool (decide (T4.length = 32))]) ∧ Below w1.heap.size w1 w' from fun A c w1 h => by rw [hGq]; exact tof_any A T4.length c T4 w1 h rfl)
        have hbe : ((bstr T).toList == (bstr [1]).toList) = b := by rw [hbq]; exact bstr_beq T [1]
        have hfd4 := field_ff (k4.toNat : Int) (bstr T4)
        have hc9 : ∀ (w' : World), w'.heap = wr.heap → w'.cell? ⟨g, 1, none⟩ = some (.string (bstr T)) := fun w' h => by
          have h1 : Row w' g 55 (fdV (3, T)) := by unfold Row; rw [h]; exact hst.fld
          rw [h1.cell]; rfl
        have hst9 : RdSt w g { (⟨m, f2, cs, false, List.replicate 32 0⟩ : Tok) with bound := b } (3, T) l' (wr.setCell ⟨w.heap.size + 1 + 1, 3, none⟩ (.bool b)).drew := (hst.bound b hgg).below ((Below.refl _ _).drew)
        have hz9 := (Row.drew r2).free 3
        have cc9 : wr.drew.cell? ⟨w.heap.size + 2, 3, none⟩ = some (.bool false) := by rw [(Row.drew r2).cell]; rfl
        have hS0 : wr.drew.cell? ⟨g, 1, none⟩ = some (.string (bstr T)) := by rw [(Row.drew hst.fld).cell]; rfl
        have hS1 : (wr.setCell ⟨w.heap.size + 1 + 1, 3, none⟩ (.bool b)).drew.cell? ⟨g, 1, none⟩ = some (.string (bstr T)) := by rw [hst9.fld.cell]; rfl
        clear hF4 hbq hGq hnx hc9
        go_wp2_with fail
        refine wp_region_noPanic ?_
        refine wp_region_held_drew (S := fun w' => w'.cell? ⟨g, 1, none⟩ = some (.string (bstr T))) (by kernel_rfl) hS0 (fun hHeld => ?_)
        refine rtake 0 _ (some 36) _ rfl rfl (by kernel_rfl) (by kernel_rfl) (by kernel_rfl) (fun _ _ _ h => h) (by rfl) hHeld (by intro w hS; go_simp; try with_reducible rfl) ?_
        try (first | (rw [put_some]; dsimp only [List.set]) | rw [put_none])
        refine rtake 1 _ (some 37) _ rfl rfl (by kernel_rfl) (by kernel_rfl) (by kernel_rfl) (fun _ _ _ h => h) (by rfl) hHeld (by intro w hS; go_simp; try with_reducible rfl) ?_
        try (first | (rw [put_some]; dsimp only [List.set]) | rw [put_none])
        refine wpAnyH_ready (rs := [2]) (by kernel_rfl) (by simp) (AllReadyH.cons (o := _) rfl (fun K hK => ?_) AllReadyH.nil)
        go_simp
        refine (hflag.out _).mono ?_; rintro e w4 ⟨rfl, rfl⟩
        try go_wp2_with fail
        refine hK.out _ _ hHeld (fun _ => ?_)
        clear hK K
        try (first | (rw [put_some]; dsimp only [List.set]) | rw [put_none])
        refine rtake 3 _ (some 39) _ rfl rfl (by kernel_rfl) (by kernel_rfl) (by kernel_rfl) (fun _ _ _ h => h) (by rfl) hHeld (by intro w hS; go_simp; try with_reducible rfl) ?_
        try (first | (rw [put_some]; dsimp only [List.set]) | rw [put_none])
        refine rtake 4 _ (some 40) _ rfl rfl (by kernel_rfl) (by kernel_rfl) (by kernel_rfl) (fun _ _ _ h => h) (by rfl) hHeld (by intro w hS; go_simp; try with_reducible rfl) ?_
        try (first | (rw [put_some]; dsimp only [List.set]) | rw [put_none])
        refine wpAnyH_ready (rs := [5]) (by kernel_rfl) (by simp) (AllReadyH.cons (o := _) rfl (fun K hK => ?_) AllReadyH.nil)
        go_simp
        refine hK.out _ _ hS1 (fun _ => ?_)
        clear hK K
        try (first | (rw [put_some]; dsimp only [List.set]) | rw [put_none])
        refine wpAnyH_done (by kernel_rfl) ?_ _
        refine NoPanic.normal ?_
        clear hHeld hS0 hS1 hz9 cc9 hflag hbe hst r2 own2 ccl
        generalize (wr.setCell ⟨w.heap.size + 1 + 1, 3, none⟩ (.bool b)).drew = w9 at *
        have hzT := Lib.hid (show (Try.prog.info? 25).map (·.size) = some (byts G).length by rw [length_byts, hGl]; exact size_tag)
        go_wp2_with (first
          | (go_at_call 65; refine (hn4.out _ hst9.row).mono ?_; rintro e w10 ⟨rfl, hr10, hg10⟩; have hst10 := hst9.next hr10 hg10 hgg; clear hr10 hg10)
          | (refine wpList_conv_string rfl (.tmp 43) rfl T4 rfl ?_; intro A6 c6 w11 hsl6 hb6; have hst11 := hst10.below hb6; clear hb6)
          | (go_at_call 67; refine (htag.out _ _ _ hsl6).mono ?_; rintro e w12 ⟨rfl, hb12⟩; have hst12 := hst11.below hb12; clear hb12; obtain ⟨A7, c7, r7, own7⟩ := hst12.tok; have hr7l : 4 + (byts G).length ≤ (tokV ⟨m, f2, cs, b, List.replicate 32 0⟩ A7 c7).length := (by rw [length_byts, hGl]; exact Nat.le_of_eq rfl))
          | (refine wpList_step fun K hK => ?_; refine step_store_row none rfl (by rfl) 25 (.tmp 48) (.tmp 46) rfl (w.heap.size + 2) 4 27 (tokV ⟨m, f2, cs, b, List.replicate 32 0⟩ A7 c7) (byts G) rfl rfl r7 hr7l hzT.out (byts_one G) ?_; intro w13 hr13 hg13; refine hK _ _ ?_; refine Hid.out ?_))
        refine Lib.hid ?_
        rw [tag_splice _ rfl A7 c7 G hGl] at hr13
        have hst13 := hst12.tag G hr13 own7 hg13 hgg
        have own13 := ownk_grown own7 hg13 (by omega)
        dsimp only at hst13 own13
        rw [show ({ key := m, id := f2, cavs := cs, bound := b, tag := G } : Tok) = readL l from hEx.symm] at hst13
        have hcs : (readL l).cavs = cs := by rw [hEx]
        have hVq : tokV ⟨m, f2, cs, b, G⟩ A7 c7 = tokV (readL l) A7 c7 := by rw [hEx]
        obtain ⟨V7, hV7⟩ : ∃ V, V = tokV (readL l) A7 c7 := ⟨_, rfl⟩
        obtain ⟨Z, hZ⟩ : ∃ Z, Z = tokV zeroK none 0 := ⟨_, rfl⟩
        have hl7 : V7.length = 36 := by rw [hV7]; exact length_tokV (readL_ok l) A7 c7
        have hz7 := Lib.hid (show (Try.prog.info? 27).map (·.size) = some V7.toArray.size by rw [List.size_toArray, hl7]; exact size_tok)
        have hzz := Lib.hid (show Z.toArray.size = V7.toArray.size by rw [List.size_toArray, List.size_toArray, hl7, hZ]; rfl)
        have ho7 := Lib.hid (show V7.toArray.all (·.oneCell') = true from all_one (by rw [hV7]; exact tokV_one _ _ _))
        have R7 := Lib.hid (show w13.heap[w.heap.size + 1 + 1]? = some (.cells V7.toArray 27 (0, 0)) by rw [hV7, ← hVq]; exact hr13)
        have RZ := Lib.hid (show w13.heap[w.heap.size]? = some (.cells Z.toArray 27 (0, 0)) by rw [hZ]; exact hst13.res)
        have HV7 := Lib.hid hV7
        clear hr13 hg13 hst12 own7 r7 hr7l hst11 hst10 hst9 hsl6 hVq hV7 hZ hEx hl7 hfd4
        go_wp2_with (first
          | (with_reducible refine wpList_load_row rfl 27 (.tmp 4) rfl (w.heap.size + 1 + 1) rfl 27 V7.toArray (0, 0) _ R7.out Try.underlying27 rfl hz7.out ?_)
          | (with_reducible refine wpList_store_row rfl 27 (.tmp 2) (.tmp 49) rfl w.heap.size V7.toArray rfl rfl 27 Z.toArray RZ.out hz7.out hzz.out ho7.out ?_; refine Hid.out ?_))
        refine Lib.hid ?_
        generalize hw14 : World.setRow _ _ _ = w14
        obtain ⟨r14, hg14⟩ := row_set (xs := V7) (old := Z) RZ.out hw14
        have R14 := Lib.hid (show w14.heap[w.heap.size]? = some (.cells V7.toArray 27 (0, 0)) from r14)
        have own14 := ownk_grown own13 hg14 (by omega)
        have hfr := ownk_fresh own14
        obtain ⟨A8, c8, hv8, _, hsl8⟩ := Sl.of_ownk own14
        injection hv8 with e1 e2 e3
        subst e1 e3
        have hbE := hst13.bel.grown hg14 hst13.bel.size (fun k h => by cases h; exact Nat.le_refl _)
        rw [← hcs] at hsl8
        clear hw14 r14 hg14 own14 own13 RZ R7 hzz ho7 hst13 hcs e2
        go_wp2_with (with_reducible refine bodyPost_ret (results_cell_row rfl _ _ w.heap.size 27 V7.toArray (0, 0) _ rfl R14.out Try.underlying27 rfl hz7.out) rfl ?_)
        exact ⟨A7, c7, by rw [HV7.out], hsl8, (fun a ha => by have := hfr a ha; omega), hbE⟩
    · by_cases h4 : x = 4
      · subst h4
        by_cases hcn : cs.length ≤ 64
        · have ccl : wr.cell? ⟨w.heap.size + 2, 2, none⟩ = some (.slice A2 cs.length c2) := by rw [r2.cell]; rfl
          have c50 : wr.cell? ⟨g, 0, none⟩ = some (.int .u8 4) := by rw [hst.fld.cell]; rfl
          have hc64 : (cs.length : Int) ≤ 64 := by omega
          obtain ⟨a1, a2, a3, a4, a5, l4, hcv⟩ : ∃ a1 a2 a3 a4 a5 l4, cavL (4, T) l' = (⟨a1, a2, a3, a4, a5⟩, l4) := ⟨_, _, _, _, _, _, rfl⟩
          have hl4 : l4.length ≤ 1000000 := by have := (cavL_len (4, T) l' _ hfl hll).2; rw [hcv] at this; exact this
          obtain ⟨f4, hf4q⟩ : ∃ f4, f4 = (getF l4).1 := ⟨_, rfl⟩
          have hf4 : f4.2.length ≤ 1000000 := by rw [hf4q]; exact getF_len _ _ hl4
          obtain ⟨V, hV⟩ : ∃ V, V = fdV (4, T) := ⟨_, rfl⟩
          obtain ⟨V4, hV4⟩ : ∃ V, V = fdV f4 := ⟨_, rfl⟩
          have hcav := Lib.hid (show ∀ w1, RowAt w1 w.heap.size (w.heap.size + 1) l' → Calls Try.prog 66 #[.pointer (some ⟨w.heap.size + 1, 0, none⟩), .agg V.toArray] w1 fun e w' => e = .returned (.agg #[.bool a1, .string (bstr a2), .int .u64 a3, .string (bstr a4), .string (bstr a5)]) ∧ RowAt w' w.heap.size (w.heap.size + 1) l4 ∧ w1.grownBy w' (some (w.heap.size + 1)) by
            intro w1 h; have := pcaveat_any (w.heap.size + 1) w.heap.size (4, T) l' w1 h (Nat.le_succ _) hll hfl; rw [hcv] at this; rw [hV]; exact this)
          have hnxt := Lib.hid (show ∀ w1, RowAt w1 w.heap.size (w.heap.size + 1) l4 → Calls Try.prog 65 #[.pointer (some ⟨w.heap.size + 1, 0, none⟩)] w1 fun e w' => e = .returned (.agg V4.toArray) ∧ RowAt w' w.heap.size (w.heap.size + 1) (restF l4) ∧ w1.grownBy w' (some (w.heap.size + 1)) by
            intro w1 h; have := hnx.out l4 w1 hl4 h; rw [← hf4q, ← hV4] at this; exact this)
          have hzVl := Lib.hid (show (Try.prog.info? 55).map (·.size) = some V.length by rw [hV]; exact size_ff)
          have hz4 := Lib.hid (show (Try.prog.info? 55).map (·.size) = some V4.toArray.size by rw [hV4]; exact size_ff)
          have hz24 := Lib.hid (show V.toArray.size = V4.toArray.size by rw [hV4, hV]; rfl)
          have ho4 := Lib.hid (show V4.toArray.all (·.oneCell') = true from all_one (fun v hv => fdV_one [f4] v (by rw [hV4] at hv; simpa using hv)))
          have hone : ∀ u ∈ cavV ⟨a1, a2, a3, a4, a5⟩, u.oneCell' = true := fun v hv => cavV_one [⟨a1, a2, a3, a4, a5⟩] v (by simpa using hv)
          have n1 : cs.length + 1 ≤ maxLen := by unfold maxLen; omega
          have n2 : (cs.length + 1) * 64 ≤ 140737488355328 := by omega
          have HS := Lib.hid (show loopL (65 - cs.length) cs (4, T) l' = loopL (65 - (cs ++ [(⟨a1, a2, a3, a4, a5⟩ : Cav)]).length) (cs ++ [⟨a1, a2, a3, a4, a5⟩]) f4 (restF l4) by
            obtain ⟨n, hn⟩ : ∃ n, 65 - cs.length = n + 1 := ⟨64 - cs.length, by omega⟩
            rw [List.length_append, List.length_singleton, show 65 - (cs.length + 1) = n by omega, hn, loopL_go _ _ _ _ rfl, hcv, hf4q])
          have HL0 := Lib.hid (hst.len)
          have HV := Lib.hid hV
          have HV4 := Lib.hid hV4
          have hrg := row_range (Row.drew hst.fld)
          rw [← hV] at hrg
          clear hcv hf4q hV hV4
          go_wp2_with fail
          refine wp_region_noPanic ?_
          refine wp_region_held_drew (S := fun w' => w'.rangeAt g 0 (fdV (4, T))) (by kernel_rfl) (row_range (Row.drew hst.fld)) (fun hHeld => ?_)
          refine rtake 0 _ (some 28) _ rfl rfl (by kernel_rfl) (by kernel_rfl) (by kernel_rfl) (fun _ _ _ h => h) (by rfl) hHeld (by intro w hS; go_simp; try with_reducible rfl) ?_
          try (first | (rw [put_some]; dsimp only [List.set]) | rw [put_none])
          refine rtake 2 _ (some 30) _ rfl rfl (by kernel_rfl) (by kernel_rfl) (by kernel_rfl) (fun _ _ _ h => h) (by rfl) hHeld (by intro w hS; rw [← HV.out] at hS; exact run_load_op 55 (.tmp 5) rfl g 0 rfl V _ hS Try.underlying55 rfl hzVl.out) ?_
          try (first | (rw [put_some]; dsimp only [List.set]) | rw [put_none])
          clear hrg c50 hc64
          refine wpAnyH_ready (rs := [1, 3]) (by kernel_rfl) (by simp) (AllReadyH.cons (o := _) rfl (fun K hK => ?_) (AllReadyH.cons (o := _) rfl (fun K hK => ?_) AllReadyH.nil))
          · go_simp
            refine hK.out _ _ hHeld (fun _ => ?_)
            clear hK K
            try (first | (rw [put_some]; dsimp only [List.set]) | rw [put_none])
            refine wpAnyH_ready (rs := [3]) (by kernel_rfl) (by simp) (AllReadyH.cons (o := _) rfl (fun K hK => ?_) AllReadyH.nil)
            go_simp
            refine (hcav.out _ (hst.row.below ((Below.refl wr.heap.size wr).drew))).mono ?_; rintro e w7 ⟨rfl, hr7, hg7⟩
            have hg7' := grown_trans (grown_of_below ((Below.refl wr.heap.size wr).drew) (some (w.heap.size + 1))) hg7
            have hst7 := hst.next hr7 hg7' hgg
            have r27 := Row.kept r2 hg7' (fun k hk => by cases hk; omega)
            have own7 := ownk_grown own2 hg7' (by omega)
            have ccl7 : w7.cell? ⟨w.heap.size + 2, 2, none⟩ = some (.slice A2 cs.length c2) := by rw [r27.cell]; rfl
            clear hr7 hg7 hg7'
            try go_wp2_with fail
            refine hK.out _ _ (row_range hst7.fld) (fun hHeld' => ?_)
            clear hK K
            try (first | (rw [put_some]; dsimp only [List.set]) | rw [put_none])
            clear hHeld
            have hHeld := hHeld'
            clear hHeld'
            refine wpAnyH_ready (rs := [4]) (by kernel_rfl) (by simp) (AllReadyH.cons (o := _) rfl (fun K hK => ?_) AllReadyH.nil)
            refine step_alloc (some 32) rfl (by rfl) (.slice (some ⟨w7.heap.size, 0, none⟩) 1 1) (.cells #[.bool a1, .string (bstr a2), .int .u64 a3, .string (bstr a4), .string (bstr a5)] 51) (by go_simp; try rfl) ?_; intro w8 hw8 hb8; have hsl8 : Sl w8 (some ⟨w7.heap.size, 0, none⟩) (1 * 5) (cavV ⟨a1, a2, a3, a4, a5⟩) := (by rw [hw8]; exact ⟨Rd.block (Go.heap_alloc_new w7 _), Nat.le_refl _, fun h => by cases h⟩); clear hw8
            have hst8 := hst7.below hb8
            have r28 := r27.later hb8 r27.lt
            have own8 := ownk_later own7 hb8 (Nat.le_refl _)
            have ccl8 : w8.cell? ⟨w.heap.size + 2, 2, none⟩ = some (.slice A2 cs.length c2) := by rw [r28.cell]; rfl
            have hsz8 : g + 1 ≤ w8.heap.size := hst8.fld.lt
            clear hb8
            refine hK.out _ _ (row_range hst8.fld) (fun hHeld' => ?_)
            clear hK K
            try (first | (rw [put_some]; dsimp only [List.set]) | rw [put_none])
            clear hHeld
            have hHeld := hHeld'
            clear hHeld'
            refine wpAnyH_ready (rs := [5]) (by kernel_rfl) (by simp) (AllReadyH.cons (o := _) rfl (fun K hK => ?_) AllReadyH.nil)
            refine step_append_k (some 33) rfl (by rfl) (.tmp 29) (.tmp 32) 23 rfl (g + 1) 51 i0 _ 5 64 Try.underlying23 hi hz0 hz1 (by omega) hz2 rfl _ cs.length (cs.flatMap cavV) rfl own8 (some ⟨w7.heap.size, 0, none⟩) 1 1 (cavV ⟨a1, a2, a3, a4, a5⟩) rfl rfl hsl8 hone n1 n2 hsz8 ?_; intro v9 w9 hown9 hg9; obtain ⟨A9, c9, rfl, _, _⟩ := Sl.of_ownk hown9
            have hne9 : ∀ k, (Value.slice A2 cs.length c2).ownBlock = some k → g + 1 ≤ k := fun k hk => (own8.lt k hk).1
            have r29 := Row.kept r28 hg9 (fun k hk => by have := hne9 k hk; omega)
            have hz9 := r29.free 2
            have ccl9 : w9.cell? ⟨w.heap.size + 2, 2, none⟩ = some (.slice A2 cs.length c2) := by rw [r29.cell]; rfl
            have hst10 := hst8.append ⟨a1, a2, a3, a4, a5⟩ hg9 hne9 r28 hown9 hgg
            have hf9 := row_range (hst8.fld.kept hg9 (fun k hk => by have := hne9 k hk; omega))
            clear hown9 hg9 hne9 r28 own8 hsl8 hst8 ccl8 hst7 r27 own7 ccl7
            refine hK.out _ _ (hf9) (fun hHeld' => ?_)
            clear hK K
            try (first | (rw [put_some]; dsimp only [List.set]) | rw [put_none])
            clear hHeld
            have hHeld := hHeld'
            clear hHeld'
            refine rtake 6 _ (some 34) _ rfl rfl (by kernel_rfl) (by kernel_rfl) (by kernel_rfl) (fun _ _ _ h => h) (by rfl) hHeld (by intro w hS; go_simp; try with_reducible rfl) ?_
            try (first | (rw [put_some]; dsimp only [List.set]) | rw [put_none])
            refine wpAnyH_ready (rs := [7]) (by kernel_rfl) (by simp) (AllReadyH.cons (o := _) rfl (fun K hK => ?_) AllReadyH.nil)
            go_simp
            refine hK.out _ _ (row_range hst10.fld) (fun _ => ?_)
            clear hK K
            try (first | (rw [put_some]; dsimp only [List.set]) | rw [put_none])
            refine wpAnyH_done (by kernel_rfl) ?_ _
            refine NoPanic.normal ?_
            clear hf9 hHeld hz9 ccl9 r29 hst ccl r2 own2
            generalize w9.setCell ⟨w.heap.size + 2, 2, none⟩ (.slice A9 (cs.length + 1) c9) = w10 at *
            go_wp2_with (first
              | (go_at_call 65; refine (hnxt.out _ hst10.row).mono ?_; rintro e w11 ⟨rfl, hr11, hg11⟩; have hst11 := hst10.next hr11 hg11 hgg; have R11 := Lib.hid (show w11.heap[g]? = some (.cells V.toArray 55 (0, 0)) by rw [HV.out]; exact hst11.fld); clear hr11 hg11)
              | (with_reducible refine wpList_store_row rfl 55 (.tmp 5) (.tmp 35) rfl g V4.toArray rfl rfl 55 V.toArray R11.out hz4.out hz24.out ho4.out ?_; refine Hid.out ?_))
            refine Lib.hid ?_
            generalize hw12 : World.setRow _ _ _ = w12
            obtain ⟨r12, hg12⟩ := row_set (xs := V4) (old := V) R11.out hw12
            have hst12 := hst11.field (by rw [HV4.out] at r12; exact r12) hg12 hgg
            clear hw12 r12 hg12 hst11 R11 hst10
            go_wp2_with fail
            go_roundw
            case rel => exact ⟨cs ++ [⟨a1, a2, a3, a4, a5⟩], f4, restF l4, by rw [List.length_append]; exact Nat.succ_le_of_lt (Nat.lt_succ_of_le hcn), restF_len _ _ hl4, hf4, by rw [Hq.out, HS.out], hst12⟩
            case measure => rw [hst12.len, HL0.out]; show 65 - (cs ++ [_]).length < _; rw [List.length_append, List.length_singleton]; omega
          · go_simp
            refine (hcav.out _ (hst.row.below ((Below.refl wr.heap.size wr).drew))).mono ?_; rintro e w7 ⟨rfl, hr7, hg7⟩
            have hg7' := grown_trans (grown_of_below ((Below.refl wr.heap.size wr).drew) (some (w.heap.size + 1))) hg7
            have hst7 := hst.next hr7 hg7' hgg
            have r27 := Row.kept r2 hg7' (fun k hk => by cases hk; omega)
            have own7 := ownk_grown own2 hg7' (by omega)
            have ccl7 : w7.cell? ⟨w.heap.size + 2, 2, none⟩ = some (.slice A2 cs.length c2) := by rw [r27.cell]; rfl
            clear hr7 hg7 hg7'
            try go_wp2_with fail
            refine hK.out _ _ (row_range hst7.fld) (fun hHeld' => ?_)
            clear hK K
            try (first | (rw [put_some]; dsimp only [List.set]) | rw [put_none])
            clear hHeld
            have hHeld := hHeld'
            clear hHeld'
            refine wpAnyH_ready (rs := [1, 4]) (by kernel_rfl) (by simp) (AllReadyH.cons (o := _) rfl (fun K hK => ?_) (AllReadyH.cons (o := _) rfl (fun K hK => ?_) AllReadyH.nil))
            · go_simp
              refine hK.out _ _ hHeld (fun _ => ?_)
              clear hK K
              try (first | (rw [put_some]; dsimp only [List.set]) | rw [put_none])
              refine wpAnyH_ready (rs := [4]) (by kernel_rfl) (by simp) (AllReadyH.cons (o := _) rfl (fun K hK => ?_) AllReadyH.nil)
              refine step_alloc (some 32) rfl (by rfl) (.slice (some ⟨w7.heap.size, 0, none⟩) 1 1) (.cells #[.bool a1, .string (bstr a2), .int .u64 a3, .string (bstr a4), .string (bstr a5)] 51) (by go_simp; try rfl) ?_; intro w8 hw8 hb8; have hsl8 : Sl w8 (some ⟨w7.heap.size, 0, none⟩) (1 * 5) (cavV ⟨a1, a2, a3, a4, a5⟩) := (by rw [hw8]; exact ⟨Rd.block (Go.heap_alloc_new w7 _), Nat.le_refl _, fun h => by cases h⟩); clear hw8
              have hst8 := hst7.below hb8
              have r28 := r27.later hb8 r27.lt
              have own8 := ownk_later own7 hb8 (Nat.le_refl _)
              have ccl8 : w8.cell? ⟨w.heap.size + 2, 2, none⟩ = some (.slice A2 cs.length c2) := by rw [r28.cell]; rfl
              have hsz8 : g + 1 ≤ w8.heap.size := hst8.fld.lt
              clear hb8
              refine hK.out _ _ (row_range hst8.fld) (fun hHeld' => ?_)
              clear hK K
              try (first | (rw [put_some]; dsimp only [List.set]) | rw [put_none])
              clear hHeld
              have hHeld := hHeld'
              clear hHeld'
              refine wpAnyH_ready (rs := [5]) (by kernel_rfl) (by simp) (AllReadyH.cons (o := _) rfl (fun K hK => ?_) AllReadyH.nil)
              refine step_append_k (some 33) rfl (by rfl) (.tmp 29) (.tmp 32) 23 rfl (g + 1) 51 i0 _ 5 64 Try.underlying23 hi hz0 hz1 (by omega) hz2 rfl _ cs.length (cs.flatMap cavV) rfl own8 (some ⟨w7.heap.size, 0, none⟩) 1 1 (cavV ⟨a1, a2, a3, a4, a5⟩) rfl rfl hsl8 hone n1 n2 hsz8 ?_; intro v9 w9 hown9 hg9; obtain ⟨A9, c9, rfl, _, _⟩ := Sl.of_ownk hown9
              have hne9 : ∀ k, (Value.slice A2 cs.length c2).ownBlock = some k → g + 1 ≤ k := fun k hk => (own8.lt k hk).1
              have r29 := Row.kept r28 hg9 (fun k hk => by have := hne9 k hk; omega)
              have hz9 := r29.free 2
              have ccl9 : w9.cell? ⟨w.heap.size + 2, 2, none⟩ = some (.slice A2 cs.length c2) := by rw [r29.cell]; rfl
              have hst10 := hst8.append ⟨a1, a2, a3, a4, a5⟩ hg9 hne9 r28 hown9 hgg
              have hf9 := row_range (hst8.fld.kept hg9 (fun k hk => by have := hne9 k hk; omega))
              clear hown9 hg9 hne9 r28 own8 hsl8 hst8 ccl8 hst7 r27 own7 ccl7
              refine hK.out _ _ (hf9) (fun hHeld' => ?_)
              clear hK K
              try (first | (rw [put_some]; dsimp only [List.set]) | rw [put_none])
              clear hHeld
              have hHeld := hHeld'
              clear hHeld'
              refine rtake 6 _ (some 34) _ rfl rfl (by kernel_rfl) (by kernel_rfl) (by kernel_rfl) (fun _ _ _ h => h) (by rfl) hHeld (by intro w hS; go_simp; try with_reducible rfl) ?_
              try (first | (rw [put_some]; dsimp only [List.set]) | rw [put_none])
              refine wpAnyH_ready (rs := [7]) (by kernel_rfl) (by simp) (AllReadyH.cons (o := _) rfl (fun K hK => ?_) AllReadyH.nil)
              go_simp
              refine hK.out _ _ (row_range hst10.fld) (fun _ => ?_)
              clear hK K
              try (first | (rw [put_some]; dsimp only [List.set]) | rw [put_none])
              refine wpAnyH_done (by kernel_rfl) ?_ _
              refine NoPanic.normal ?_
              clear hf9 hHeld hz9 ccl9 r29 hst ccl r2 own2
              generalize w9.setCell ⟨w.heap.size + 2, 2, none⟩ (.slice A9 (cs.length + 1) c9) = w10 at *
              go_wp2_with (first
                | (go_at_call 65; refine (hnxt.out _ hst10.row).mono ?_; rintro e w11 ⟨rfl, hr11, hg11⟩; have hst11 := hst10.next hr11 hg11 hgg; have R11 := Lib.hid (show w11.heap[g]? = some (.cells V.toArray 55 (0, 0)) by rw [HV.out]; exact hst11.fld); clear hr11 hg11)
                | (with_reducible refine wpList_store_row rfl 55 (.tmp 5) (.tmp 35) rfl g V4.toArray rfl rfl 55 V.toArray R11.out hz4.out hz24.out ho4.out ?_; refine Hid.out ?_))
              refine Lib.hid ?_
              generalize hw12 : World.setRow _ _ _ = w12
              obtain ⟨r12, hg12⟩ := row_set (xs := V4) (old := V) R11.out hw12
              have hst12 := hst11.field (by rw [HV4.out] at r12; exact r12) hg12 hgg
              clear hw12 r12 hg12 hst11 R11 hst10
              go_wp2_with fail
              go_roundw
              case rel => exact ⟨cs ++ [⟨a1, a2, a3, a4, a5⟩], f4, restF l4, by rw [List.length_append]; exact Nat.succ_le_of_lt (Nat.lt_succ_of_le hcn), restF_len _ _ hl4, hf4, by rw [Hq.out, HS.out], hst12⟩
              case measure => rw [hst12.len, HL0.out]; show 65 - (cs ++ [_]).length < _; rw [List.length_append, List.length_singleton]; omega
            · refine step_alloc (some 32) rfl (by rfl) (.slice (some ⟨w7.heap.size, 0, none⟩) 1 1) (.cells #[.bool a1, .string (bstr a2), .int .u64 a3, .string (bstr a4), .string (bstr a5)] 51) (by go_simp; try rfl) ?_; intro w8 hw8 hb8; have hsl8 : Sl w8 (some ⟨w7.heap.size, 0, none⟩) (1 * 5) (cavV ⟨a1, a2, a3, a4, a5⟩) := (by rw [hw8]; exact ⟨Rd.block (Go.heap_alloc_new w7 _), Nat.le_refl _, fun h => by cases h⟩); clear hw8
              have hst8 := hst7.below hb8
              have r28 := r27.later hb8 r27.lt
              have own8 := ownk_later own7 hb8 (Nat.le_refl _)
              have ccl8 : w8.cell? ⟨w.heap.size + 2, 2, none⟩ = some (.slice A2 cs.length c2) := by rw [r28.cell]; rfl
              have hsz8 : g + 1 ≤ w8.heap.size := hst8.fld.lt
              clear hb8
              refine hK.out _ _ (row_range hst8.fld) (fun hHeld' => ?_)
              clear hK K
              try (first | (rw [put_some]; dsimp only [List.set]) | rw [put_none])
              clear hHeld
              have hHeld := hHeld'
              clear hHeld'
              refine wpAnyH_ready (rs := [1]) (by kernel_rfl) (by simp) (AllReadyH.cons (o := _) rfl (fun K hK => ?_) AllReadyH.nil)
              go_simp
              refine hK.out _ _ hHeld (fun _ => ?_)
              clear hK K
              try (first | (rw [put_some]; dsimp only [List.set]) | rw [put_none])
              refine wpAnyH_ready (rs := [5]) (by kernel_rfl) (by simp) (AllReadyH.cons (o := _) rfl (fun K hK => ?_) AllReadyH.nil)
              refine step_append_k (some 33) rfl (by rfl) (.tmp 29) (.tmp 32) 23 rfl (g + 1) 51 i0 _ 5 64 Try.underlying23 hi hz0 hz1 (by omega) hz2 rfl _ cs.length (cs.flatMap cavV) rfl own8 (some ⟨w7.heap.size, 0, none⟩) 1 1 (cavV ⟨a1, a2, a3, a4, a5⟩) rfl rfl hsl8 hone n1 n2 hsz8 ?_; intro v9 w9 hown9 hg9; obtain ⟨A9, c9, rfl, _, _⟩ := Sl.of_ownk hown9
              have hne9 : ∀ k, (Value.slice A2 cs.length c2).ownBlock = some k → g + 1 ≤ k := fun k hk => (own8.lt k hk).1
              have r29 := Row.kept r28 hg9 (fun k hk => by have := hne9 k hk; omega)
              have hz9 := r29.free 2
              have ccl9 : w9.cell? ⟨w.heap.size + 2, 2, none⟩ = some (.slice A2 cs.length c2) := by rw [r29.cell]; rfl
              have hst10 := hst8.append ⟨a1, a2, a3, a4, a5⟩ hg9 hne9 r28 hown9 hgg
              have hf9 := row_range (hst8.fld.kept hg9 (fun k hk => by have := hne9 k hk; omega))
              clear hown9 hg9 hne9 r28 own8 hsl8 hst8 ccl8 hst7 r27 own7 ccl7
              refine hK.out _ _ (hf9) (fun hHeld' => ?_)
              clear hK K
              try (first | (rw [put_some]; dsimp only [List.set]) | rw [put_none])
              clear hHeld
              have hHeld := hHeld'
              clear hHeld'
              refine rtake 6 _ (some 34) _ rfl rfl (by kernel_rfl) (by kernel_rfl) (by kernel_rfl) (fun _ _ _ h => h) (by rfl) hHeld (by intro w hS; go_simp; try with_reducible rfl) ?_
              try (first | (rw [put_some]; dsimp only [List.set]) | rw [put_none])
              refine wpAnyH_ready (rs := [7]) (by kernel_rfl) (by simp) (AllReadyH.cons (o := _) rfl (fun K hK => ?_) AllReadyH.nil)
              go_simp
              refine hK.out _ _ (row_range hst10.fld) (fun _ => ?_)
              clear hK K
              try (first | (rw [put_some]; dsimp only [List.set]) | rw [put_none])
              refine wpAnyH_done (by kernel_rfl) ?_ _
              refine NoPanic.normal ?_
              clear hf9 hHeld hz9 ccl9 r29 hst ccl r2 own2
              generalize w9.setCell ⟨w.heap.size + 2, 2, none⟩ (.slice A9 (cs.length + 1) c9) = w10 at *
              go_wp2_with (first
                | (go_at_call 65; refine (hnxt.out _ hst10.row).mono ?_; rintro e w11 ⟨rfl, hr11, hg11⟩; have hst11 := hst10.next hr11 hg11 hgg; have R11 := Lib.hid (show w11.heap[g]? = some (.cells V.toArray 55 (0, 0)) by rw [HV.out]; exact hst11.fld); clear hr11 hg11)
                | (with_reducible refine wpList_store_row rfl 55 (.tmp 5) (.tmp 35) rfl g V4.toArray rfl rfl 55 V.toArray R11.out hz4.out hz24.out ho4.out ?_; refine Hid.out ?_))
              refine Lib.hid ?_
              generalize hw12 : World.setRow _ _ _ = w12
              obtain ⟨r12, hg12⟩ := row_set (xs := V4) (old := V) R11.out hw12
              have hst12 := hst11.field (by rw [HV4.out] at r12; exact r12) hg12 hgg
              clear hw12 r12 hg12 hst11 R11 hst10
              go_wp2_with fail
              go_roundw
              case rel => exact ⟨cs ++ [⟨a1, a2, a3, a4, a5⟩], f4, restF l4, by rw [List.length_append]; exact Nat.succ_le_of_lt (Nat.lt_succ_of_le hcn), restF_len _ _ hl4, hf4, by rw [Hq.out, HS.out], hst12⟩
              case measure => rw [hst12.len, HL0.out]; show 65 - (cs ++ [_]).length < _; rw [List.length_append, List.length_singleton]; omega
        · have ccl : wr.cell? ⟨w.heap.size + 2, 2, none⟩ = some (.slice A2 cs.length c2) := by rw [r2.cell]; rfl
          have c50 : wr.cell? ⟨g, 0, none⟩ = some (.int .u8 4) := by rw [hst.fld.cell]; rfl
          have hc64 : (64 : Int) < (cs.length : Int) := by omega
          clear hcn
          have hEx := HR.out
          rw [Hq.out, isCav_end (.inr (by omega))] at hEx
          dsimp only at hEx
          clear HR Hq
          obtain ⟨k4, T4, hF4⟩ : ∃ k4 T4, (getF l').1 = (k4, T4) := ⟨_, _, rfl⟩
          have hT4 : T4.length ≤ 1000000 := by have := getF_len l' _ hll; rw [hF4] at this; exact this
          rw [hF4] at hEx
          dsimp only at hEx
          obtain ⟨b, hbq⟩ : ∃ b, b = decide (T = [1]) := ⟨_, rfl⟩
          rw [← hbq] at hEx
          obtain ⟨G, hGq⟩ : ∃ G, G = ofTag T4 := ⟨_, rfl⟩
          rw [← hGq] at hEx
          have hGl : G.length = 32 := by rw [hGq]; exact length_ofTag _
          have hn4 := Lib.hid (show ∀ w1, RowAt w1 w.heap.size (w.heap.size + 1) l' → Calls Try.prog 65 #[.pointer (some ⟨w.heap.size + 1, 0, none⟩)] w1 fun e w' => e = .returned (.agg #[.int .u8 (k4.toNat : Int), .string (bstr T4)]) ∧ RowAt w' w.heap.size (w.heap.size + 1) (restF l') ∧ w1.grownBy w' (some (w.heap.size + 1)) by
            intro w1 h; have := hnx.out l' w1 hll h; rw [hF4] at this; exact this)
          have hflag := Lib.hid (show ∀ w1, Calls Try.prog 50 #[.bool true] w1 fun e w' => e = .returned (.string (bstr [1])) ∧ w' = w1 from fun w1 => pflag_any true w1)
          have htag := Lib.hid (show ∀ A c w1, Sl w1 A c (byts T4) → Calls Try.prog 67 #[.slice A T4.length c] w1 fun e w' => e = .returned (.tuple #[.agg (byts G).toArray, .bool (decide (T4.length = 32))]) ∧ Below w1.heap.size w1 w' from fun A c w1 h => by rw [hGq]; exact tof_any A T4.length c T4 w1 h rfl)
          have hbe : ((bstr T).toList == (bstr [1]).toList) = b := by rw [hbq]; exact bstr_beq T [1]
          have hfd4 := field_ff (k4.toNat : Int) (bstr T4)
          have hc9 : ∀ (w' : World), w'.heap = wr.heap → w'.cell? ⟨g, 1, none⟩ = some (.string (bstr T)) := fun w' h => by
            have h1 : Row w' g 55 (fdV (4, T)) := by unfold Row; rw [h]; exact hst.fld
            rw [h1.cell]; rfl
          have hst9 : RdSt w g { (⟨m, f2, cs, false, List.replicate 32 0⟩ : Tok) with bound := b } (4, T) l' (wr.setCell ⟨w.heap.size + 1 + 1, 3, none⟩ (.bool b)).drew := (hst.bound b hgg).below ((Below.refl _ _).drew)
          have hz9 := (Row.drew r2).free 3
          have cc9 : wr.drew.cell? ⟨w.heap.size + 2, 3, none⟩ = some (.bool false) := by rw [(Row.drew r2).cell]; rfl
          have hS0 : wr.drew.cell? ⟨g, 1, none⟩ = some (.string (bstr T)) := by rw [(Row.drew hst.fld).cell]; rfl
          have hS1 : (wr.setCell ⟨w.heap.size + 1 + 1, 3, none⟩ (.bool b)).drew.cell? ⟨g, 1, none⟩ = some (.string (bstr T)) := by rw [hst9.fld.cell]; rfl
          clear hF4 hbq hGq hnx hc9
          go_wp2_with fail
          refine wp_region_noPanic ?_
          refine wp_region_held_drew (S := fun w' => w'.cell? ⟨g, 1, none⟩ = some (.string (bstr T))) (by kernel_rfl) hS0 (fun hHeld => ?_)
          refine rtake 0 _ (some 36) _ rfl rfl (by kernel_rfl) (by kernel_rfl) (by kernel_rfl) (fun _ _ _ h => h) (by rfl) hHeld (by intro w hS; go_simp; try with_reducible rfl) ?_
          try (first | (rw [put_some]; dsimp only [List.set]) | rw [put_none])
          refine rtake 1 _ (some 37) _ rfl rfl (by kernel_rfl) (by kernel_rfl) (by kernel_rfl) (fun _ _ _ h => h) (by rfl) hHeld (by intro w hS; go_simp; try with_reducible rfl) ?_
          try (first | (rw [put_some]; dsimp only [List.set]) | rw [put_none])
          refine wpAnyH_ready (rs := [2]) (by kernel_rfl) (by simp) (AllReadyH.cons (o := _) rfl (fun K hK => ?_) AllReadyH.nil)
          go_simp
          refine (hflag.out _).mono ?_; rintro e w4 ⟨rfl, rfl⟩
          try go_wp2_with fail
          refine hK.out _ _ hHeld (fun _ => ?_)
          clear hK K
          try (first | (rw [put_some]; dsimp only [List.set]) | rw [put_none])
          refine rtake 3 _ (some 39) _ rfl rfl (by kernel_rfl) (by kernel_rfl) (by kernel_rfl) (fun _ _ _ h => h) (by rfl) hHeld (by intro w hS; go_simp; try with_reducible rfl) ?_
          try (first | (rw [put_some]; dsimp only [List.set]) | rw [put_none])
          refine rtake 4 _ (some 40) _ rfl rfl (by kernel_rfl) (by kernel_rfl) (by kernel_rfl) (fun _ _ _ h => h) (by rfl) hHeld (by intro w hS; go_simp; try with_reducible rfl) ?_
          try (first | (rw [put_some]; dsimp only [List.set]) | rw [put_none])
          refine wpAnyH_ready (rs := [5]) (by kernel_rfl) (by simp) (AllReadyH.cons (o := _) rfl (fun K hK => ?_) AllReadyH.nil)
          go_simp
          refine hK.out _ _ hS1 (fun _ => ?_)
          clear hK K
          try (first | (rw [put_some]; dsimp only [List.set]) | rw [put_none])
          refine wpAnyH_done (by kernel_rfl) ?_ _
          refine NoPanic.normal ?_
          clear hHeld hS0 hS1 hz9 cc9 hflag hbe hst r2 own2 ccl
          generalize (wr.setCell ⟨w.heap.size + 1 + 1, 3, none⟩ (.bool b)).drew = w9 at *
          have hzT := Lib.hid (show (Try.prog.info? 25).map (·.size) = some (byts G).length by rw [length_byts, hGl]; exact size_tag)
          go_wp2_with (first
            | (go_at_call 65; refine (hn4.out _ hst9.row).mono ?_; rintro e w10 ⟨rfl, hr10, hg10⟩; have hst10 := hst9.next hr10 hg10 hgg; clear hr10 hg10)
            | (refine wpList_conv_string rfl (.tmp 43) rfl T4 rfl ?_; intro A6 c6 w11 hsl6 hb6; have hst11 := hst10.below hb6; clear hb6)
            | (go_at_call 67; refine (htag.out _ _ _ hsl6).mono ?_; rintro e w12 ⟨rfl, hb12⟩; have hst12 := hst11.below hb12; clear hb12; obtain ⟨A7, c7, r7, own7⟩ := hst12.tok; have hr7l : 4 + (byts G).length ≤ (tokV ⟨m, f2, cs, b, List.replicate 32 0⟩ A7 c7).length := (by rw [length_byts, hGl]; exact Nat.le_of_eq rfl))
            | (refine wpList_step fun K hK => ?_; refine step_store_row none rfl (by rfl) 25 (.tmp 48) (.tmp 46) rfl (w.heap.size + 2) 4 27 (tokV ⟨m, f2, cs, b, List.replicate 32 0⟩ A7 c7) (byts G) rfl rfl r7 hr7l hzT.out (byts_one G) ?_; intro w13 hr13 hg13; refine hK _ _ ?_; refine Hid.out ?_))
          refine Lib.hid ?_
          rw [tag_splice _ rfl A7 c7 G hGl] at hr13
          have hst13 := hst12.tag G hr13 own7 hg13 hgg
          have own13 := ownk_grown own7 hg13 (by omega)
          dsimp only at hst13 own13
          rw [show ({ key := m, id := f2, cavs := cs, bound := b, tag := G } : Tok) = readL l from hEx.symm] at hst13
          have hcs : (readL l).cavs = cs := by rw [hEx]
          have hVq : tokV ⟨m, f2, cs, b, G⟩ A7 c7 = tokV (readL l) A7 c7 := by rw [hEx]
          obtain ⟨V7, hV7⟩ : ∃ V, V = tokV (readL l) A7 c7 := ⟨_, rfl⟩
          obtain ⟨Z, hZ⟩ : ∃ Z, Z = tokV zeroK none 0 := ⟨_, rfl⟩
          have hl7 : V7.length = 36 := by rw [hV7]; exact length_tokV (readL_ok l) A7 c7
          have hz7 := Lib.hid (show (Try.prog.info? 27).map (·.size) = some V7.toArray.size by rw [List.size_toArray, hl7]; exact size_tok)
          have hzz := Lib.hid (show Z.toArray.size = V7.toArray.size by rw [List.size_toArray, List.size_toArray, hl7, hZ]; rfl)
          have ho7 := Lib.hid (show V7.toArray.all (·.oneCell') = true from all_one (by rw [hV7]; exact tokV_one _ _ _))
          have R7 := Lib.hid (show w13.heap[w.heap.size + 1 + 1]? = some (.cells V7.toArray 27 (0, 0)) by rw [hV7, ← hVq]; exact hr13)
          have RZ := Lib.hid (show w13.heap[w.heap.size]? = some (.cells Z.toArray 27 (0, 0)) by rw [hZ]; exact hst13.res)
          have HV7 := Lib.hid hV7
          clear hr13 hg13 hst12 own7 r7 hr7l hst11 hst10 hst9 hsl6 hVq hV7 hZ hEx hl7 hfd4
          go_wp2_with (first
            | (with_reducible refine wpList_load_row rfl 27 (.tmp 4) rfl (w.heap.size + 1 + 1) rfl 27 V7.toArray (0, 0) _ R7.out Try.underlying27 rfl hz7.out ?_)
            | (with_reducible refine wpList_store_row rfl 27 (.tmp 2) (.tmp 49) rfl w.heap.size V7.toArray rfl rfl 27 Z.toArray RZ.out hz7.out hzz.out ho7.out ?_; refine Hid.out ?_))
          refine Lib.hid ?_
          generalize hw14 : World.setRow _ _ _ = w14
          obtain ⟨r14, hg14⟩ := row_set (xs := V7) (old := Z) RZ.out hw14
          have R14 := Lib.hid (show w14.heap[w.heap.size]? = some (.cells V7.toArray 27 (0, 0)) from r14)
          have own14 := ownk_grown own13 hg14 (by omega)
          have hfr := ownk_fresh own14
          obtain ⟨A8, c8, hv8, _, hsl8⟩ := Sl.of_ownk own14
          injection hv8 with e1 e2 e3
          subst e1 e3
          have hbE := hst13.bel.grown hg14 hst13.bel.size (fun k h => by cases h; exact Nat.le_refl _)
          rw [← hcs] at hsl8
          clear hw14 r14 hg14 own14 own13 RZ R7 hzz ho7 hst13 hcs e2
          go_wp2_with (with_reducible refine bodyPost_ret (results_cell_row rfl _ _ w.heap.size 27 V7.toArray (0, 0) _ rfl R14.out Try.underlying27 rfl hz7.out) rfl ?_)
          exact ⟨A7, c7, by rw [HV7.out], hsl8, (fun a ha => by have := hfr a ha; omega), hbE⟩
      · have y3 : ((x.toNat : Int) == 3) = false := kind_ne x 3 h3
        have y4 : ((x.toNat : Int) == 4) = false := kind_ne x 4 h4
        have hnc : isCav (x, T) = false := by unfold isCav; rw [decide_eq_false h3, decide_eq_false h4]; rfl
        have ccl : wr.cell? ⟨w.heap.size + 2, 2, none⟩ = some (.slice A2 cs.length c2) := by rw [r2.cell]; rfl
        have c50 : wr.cell? ⟨g, 0, none⟩ = some (.int .u8 (x.toNat : Int)) := by rw [hst.fld.cell]; rfl
        clear h3 h4
        have hEx := HR.out
        rw [Hq.out, isCav_end (.inl hnc)] at hEx
        dsimp only at hEx
        clear HR Hq
        obtain ⟨k4, T4, hF4⟩ : ∃ k4 T4, (getF l').1 = (k4, T4) := ⟨_, _, rfl⟩
        have hT4 : T4.length ≤ 1000000 := by have := getF_len l' _ hll; rw [hF4] at this; exact this
        rw [hF4] at hEx
        dsimp only at hEx
        obtain ⟨b, hbq⟩ : ∃ b, b = decide (T = [1]) := ⟨_, rfl⟩
        rw [← hbq] at hEx
        obtain ⟨G, hGq⟩ : ∃ G, G = ofTag T4 := ⟨_, rfl⟩
        rw [← hGq] at hEx
        have hGl : G.length = 32 := by rw [hGq]; exact length_ofTag _
        have hn4 := Lib.hid (show ∀ w1, RowAt w1 w.heap.size (w.heap.size + 1) l' → Calls Try.prog 65 #[.pointer (some ⟨w.heap.size + 1, 0, none⟩)] w1 fun e w' => e = .returned (.agg #[.int .u8 (k4.toNat : Int), .string (bstr T4)]) ∧ RowAt w' w.heap.size (w.heap.size + 1) (restF l') ∧ w1.grownBy w' (some (w.heap.size + 1)) by
          intro w1 h; have := hnx.out l' w1 hll h; rw [hF4] at this; exact this)
        have hflag := Lib.hid (show ∀ w1, Calls Try.prog 50 #[.bool true] w1 fun e w' => e = .returned (.string (bstr [1])) ∧ w' = w1 from fun w1 => pflag_any true w1)
        have htag := Lib.hid (show ∀ A c w1, Sl w1 A c (byts T4) → Calls Try.prog 67 #[.slice A T4.length c] w1 fun e w' => e = .returned (.tuple #[.agg (byts G).toArray, .bool (decide (T4.length = 32))]) ∧ Below w1.heap.size w1 w' from fun A c w1 h => by rw [hGq]; exact tof_any A T4.length c T4 w1 h rfl)
        have hbe : ((bstr T).toList == (bstr [1]).toList) = b := by rw [hbq]; exact bstr_beq T [1]
        have hfd4 := field_ff (k4.toNat : Int) (bstr T4)
        have hc9 : ∀ (w' : World), w'.heap = wr.heap → w'.cell? ⟨g, 1, none⟩ = some (.string (bstr T)) := fun w' h => by
          have h1 : Row w' g 55 (fdV (x, T)) := by unfold Row; rw [h]; exact hst.fld
          rw [h1.cell]; rfl
        have hst9 : RdSt w g { (⟨m, f2, cs, false, List.replicate 32 0⟩ : Tok) with bound := b } (x, T) l' (wr.setCell ⟨w.heap.size + 1 + 1, 3, none⟩ (.bool b)).drew := (hst.bound b hgg).below ((Below.refl _ _).drew)
        have hz9 := (Row.drew r2).free 3
        have cc9 : wr.drew.cell? ⟨w.heap.size + 2, 3, none⟩ = some (.bool false) := by rw [(Row.drew r2).cell]; rfl
        have hS0 : wr.drew.cell? ⟨g, 1, none⟩ = some (.string (bstr T)) := by rw [(Row.drew hst.fld).cell]; rfl
        have hS1 : (wr.setCell ⟨w.heap.size + 1 + 1, 3, none⟩ (.bool b)).drew.cell? ⟨g, 1, none⟩ = some (.string (bstr T)) := by rw [hst9.fld.cell]; rfl
        clear hF4 hbq hGq hnx hc9
        go_wp2_with fail
        refine wp_region_noPanic ?_
        refine wp_region_held_drew (S := fun w' => w'.cell? ⟨g, 1, none⟩ = some (.string (bstr T))) (by kernel_rfl) hS0 (fun hHeld => ?_)
        refine rtake 0 _ (some 36) _ rfl rfl (by kernel_rfl) (by kernel_rfl) (by kernel_rfl) (fun _ _ _ h => h) (by rfl) hHeld (by intro w hS; go_simp; try with_reducible rfl) ?_
        try (first | (rw [put_some]; dsimp only [List.set]) | rw [put_none])
        refine rtake 1 _ (some 37) _ rfl rfl (by kernel_rfl) (by kernel_rfl) (by kernel_rfl) (fun _ _ _ h => h) (by rfl) hHeld (by intro w hS; go_simp; try with_reducible rfl) ?_
        try (first | (rw [put_some]; dsimp only [List.set]) | rw [put_none])
        refine wpAnyH_ready (rs := [2]) (by kernel_rfl) (by simp) (AllReadyH.cons (o := _) rfl (fun K hK => ?_) AllReadyH.nil)
        go_simp
        refine (hflag.out _).mono ?_; rintro e w4 ⟨rfl, rfl⟩
        try go_wp2_with fail
        refine hK.out _ _ hHeld (fun _ => ?_)
        clear hK K
        try (first | (rw [put_some]; dsimp only [List.set]) | rw [put_none])
        refine rtake 3 _ (some 39) _ rfl rfl (by kernel_rfl) (by kernel_rfl) (by kernel_rfl) (fun _ _ _ h => h) (by rfl) hHeld (by intro w hS; go_simp; try with_reducible rfl) ?_
        try (first | (rw [put_some]; dsimp only [List.set]) | rw [put_none])
        refine rtake 4 _ (some 40) _ rfl rfl (by kernel_rfl) (by kernel_rfl) (by kernel_rfl) (fun _ _ _ h => h) (by rfl) hHeld (by intro w hS; go_simp; try with_reducible rfl) ?_
        try (first | (rw [put_some]; dsimp only [List.set]) | rw [put_none])
        refine wpAnyH_ready (rs := [5]) (by kernel_rfl) (by simp) (AllReadyH.cons (o := _) rfl (fun K hK => ?_) AllReadyH.nil)
        go_simp
        refine hK.out _ _ hS1 (fun _ => ?_)
        clear hK K
        try (first | (rw [put_some]; dsimp only [List.set]) | rw [put_none])
        refine wpAnyH_done (by kernel_rfl) ?_ _
        refine NoPanic.normal ?_
        clear hHeld hS0 hS1 hz9 cc9 hflag hbe hst r2 own2 ccl
        generalize (wr.setCell ⟨w.heap.size + 1 + 1, 3, none⟩ (.bool b)).drew = w9 at *
        have hzT := Lib.hid (show (Try.prog.info? 25).map (·.size) = some (byts G).length by rw [length_byts, hGl]; exact size_tag)
        go_wp2_with (first
          | (go_at_call 65; refine (hn4.out _ hst9.row).mono ?_; rintro e w10 ⟨rfl, hr10, hg10⟩; have hst10 := hst9.next hr10 hg10 hgg; clear hr10 hg10)
          | (refine wpList_conv_string rfl (.tmp 43) rfl T4 rfl ?_; intro A6 c6 w11 hsl6 hb6; have hst11 := hst10.below hb6; clear hb6)
          | (go_at_call 67; refine (htag.out _ _ _ hsl6).mono ?_; rintro e w12 ⟨rfl, hb12⟩; have hst12 := hst11.below hb12; clear hb12; obtain ⟨A7, c7, r7, own7⟩ := hst12.tok; have hr7l : 4 + (byts G).length ≤ (tokV ⟨m, f2, cs, b, List.replicate 32 0⟩ A7 c7).length := (by rw [length_byts, hGl]; exact Nat.le_of_eq rfl))
          | (refine wpList_step fun K hK => ?_; refine step_store_row none rfl (by rfl) 25 (.tmp 48) (.tmp 46) rfl (w.heap.size + 2) 4 27 (tokV ⟨m, f2, cs, b, List.replicate 32 0⟩ A7 c7) (byts G) rfl rfl r7 hr7l hzT.out (byts_one G) ?_; intro w13 hr13 hg13; refine hK _ _ ?_; refine Hid.out ?_))
        refine Lib.hid ?_
        rw [tag_splice _ rfl A7 c7 G hGl] at hr13
        have hst13 := hst12.tag G hr13 own7 hg13 hgg
        have own13 := ownk_grown own7 hg13 (by omega)
        dsimp only at hst13 own13
        rw [show ({ key := m, id := f2, cavs := cs, bound := b, tag := G } : Tok) = readL l from hEx.symm] at hst13
        have hcs : (readL l).cavs = cs := by rw [hEx]
        have hVq : tokV ⟨m, f2, cs, b, G⟩ A7 c7 = tokV (readL l) A7 c7 := by rw [hEx]
        obtain ⟨V7, hV7⟩ : ∃ V, V = tokV (readL l) A7 c7 := ⟨_, rfl⟩
        obtain ⟨Z, hZ⟩ : ∃ Z, Z = tokV zeroK none 0 := ⟨_, rfl⟩
        have hl7 : V7.length = 36 := by rw [hV7]; exact length_tokV (readL_ok l) A7 c7
        have hz7 := Lib.hid (show (Try.prog.info? 27).map (·.size) = some V7.toArray.size by rw [List.size_toArray, hl7]; exact size_tok)
        have hzz := Lib.hid (show Z.toArray.size = V7.toArray.size by rw [List.size_toArray, List.size_toArray, hl7, hZ]; rfl)
        have ho7 := Lib.hid (show V7.toArray.all (·.oneCell') = true from all_one (by rw [hV7]; exact tokV_one _ _ _))
        have R7 := Lib.hid (show w13.heap[w.heap.size + 1 + 1]? = some (.cells V7.toArray 27 (0, 0)) by rw [hV7, ← hVq]; exact hr13)
        have RZ := Lib.hid (show w13.heap[w.heap.size]? = some (.cells Z.toArray 27 (0, 0)) by rw [hZ]; exact hst13.res)
        have HV7 := Lib.hid hV7
        clear hr13 hg13 hst12 own7 r7 hr7l hst11 hst10 hst9 hsl6 hVq hV7 hZ hEx hl7 hfd4
        go_wp2_with (first
          | (with_reducible refine wpList_load_row rfl 27 (.tmp 4) rfl (w.heap.size + 1 + 1) rfl 27 V7.toArray (0, 0) _ R7.out Try.underlying27 rfl hz7.out ?_)
          | (with_reducible refine wpList_store_row rfl 27 (.tmp 2) (.tmp 49) rfl w.heap.size V7.toArray rfl rfl 27 Z.toArray RZ.out hz7.out hzz.out ho7.out ?_; refine Hid.out ?_))
        refine Lib.hid ?_
        generalize hw14 : World.setRow _ _ _ = w14
        obtain ⟨r14, hg14⟩ := row_set (xs := V7) (old := Z) RZ.out hw14
        have R14 := Lib.hid (show w14.heap[w.heap.size]? = some (.cells V7.toArray 27 (0, 0)) from r14)
        have own14 := ownk_grown own13 hg14 (by omega)
        have hfr := ownk_fresh own14
        obtain ⟨A8, c8, hv8, _, hsl8⟩ := Sl.of_ownk own14
        injection hv8 with e1 e2 e3
        subst e1 e3
        have hbE := hst13.bel.grown hg14 hst13.bel.size (fun k h => by cases h; exact Nat.le_refl _)
        rw [← hcs] at hsl8
        clear hw14 r14 hg14 own14 own13 RZ R7 hzz ho7 hst13 hcs e2
        go_wp2_with (with_reducible refine bodyPost_ret (results_cell_row rfl _ _ w.heap.size 27 V7.toArray (0, 0) _ rfl R14.out Try.underlying27 rfl hz7.out) rfl ?_)
        exact ⟨A7, c7, by rw [HV7.out], hsl8, (fun a ha => by have := hfr a ha; omega), hbE⟩
end Go.Proofs.Ythiebbhooigogaa
