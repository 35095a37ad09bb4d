/- LAYER 3, DigestParts: the walk of the law. -/
import Derived.Test.YtcgnljjdoinepaaDoorDt
import Derived.Test.YtcgnljjdoinepaaDoorZ
namespace Go.Proofs.YtcgnljjdoinepaaDoor
open Go Go.RowKit

theorem Sl.take {w : World} {A : Option Addr} {c k : Nat} {xs : List Value} (h : Sl w A c xs) : Sl w A c (xs.take k) := by
  have e : xs = xs.take k ++ xs.drop k := (List.take_append_drop k xs).symm
  rw [e] at h
  exact h.pre
/-- A slice's part 'b[i:j]': nil let in. -/
theorem cut_run (A : Option Addr) (c : Nat) (l : List UInt8) (w0 : World) (h : Sl w0 A c (byts l)) (i j : Nat) (hi : i ≤ j) (hj : j ≤ l.length) :
    ∃ A' : Option Addr, (∀ w, (Instr.sliceAt 24 (.slice A l.length c) (some (.int .i64 i)) (some (.int .i64 j)) none).run Tryd.prog w = .ok (.slice A' (j - i) (c - i)) w) ∧
      (∀ w, j = l.length → (Instr.sliceAt 24 (.slice A l.length c) (some (.int .i64 i)) none none).run Tryd.prog w = .ok (.slice A' (j - i) (c - i)) w) ∧
      Sl w0 A' (c - i) (byts ((l.drop i).take (j - i))) := by
  have hr := h.room
  rw [length_byts] at hr
  cases A with
  | none =>
    have hc := h.bare rfl
    subst hc
    have hl : l.length = 0 := by omega
    obtain rfl : l = [] := List.eq_nil_of_length_eq_zero hl
    have ej : j = 0 := by simpa using hj
    have ei : i = 0 := by omega
    subst ej ei
    clear hr hl hi hj
    refine ⟨none, fun w => ?_, fun w hx => ?_, ?_⟩
    · clear h; go_simp
    · clear h hx; go_simp
    · exact h
  | some a =>
    refine ⟨some (if c = i then a else a.add i), fun w => ?_, fun w he => ?_, ?_⟩
    · have h1 : (i : Int) ≤ (j : Int) := by omega
      have h2 : (j : Int) ≤ (c : Int) := by omega
      clear h hi hj hr
      go_simp
      split <;> rfl
    · have h3 : (i : Int) ≤ (l.length : Int) := by omega
      have h2 : (l.length : Int) ≤ (c : Int) := by omega
      clear h hi hj hr
      subst he
      generalize l.length = n at *
      go_simp
      split <;> rfl
    · have eb : byts ((l.drop i).take (j - i)) = ((byts l).drop i).take (j - i) := by unfold byts; rw [List.map_take, List.map_drop]
      rw [eb]
      by_cases h0 : 0 < l.length
      · obtain ⟨b, o, he, _⟩ := h.rd.get (i := 0) (by rw [length_byts]; exact h0)
        cases he
        rw [Addr.add_lit]
        exact (h.from (by rw [length_byts]; omega) rfl).take
      · obtain rfl : l = [] := List.eq_nil_of_length_eq_zero (by omega)
        exact ⟨.inl (by simp [byts]), by simp [byts], fun h => by cases h⟩
theorem write_at (g n : Nat) (l b : List UInt8) (A : Option Addr) (c : Nat) (w : World) (hT : Cube w) (hd : Dgt w g l) (hs : Sl w A c (byts b)) (hA : 0 < b.length → ∀ a, A = some a → a.block ≠ g) (hn : n = b.length) (hm : l.length + b.length ≤ 4611686018427387904) :
    Calls Tryd.prog 12 #[.pointer (some ⟨g, 0, none⟩), .slice A n c] w fun e w' => e = .returned (.tuple #[]) ∧ Dgt w' g (l ++ b) ∧ w.grownBy w' (some g) := by
  subst hn
  exact write_any g l b A c w hT hd hs hA hm
theorem infoSlice : (Tryd.prog.info? 24).map (fun i => (i.zero, i.size, i.bytes)) = some (some (.slice none 0 0), 1, 24) := by kernel_rfl
/-- A part alone, in a list of its own. -/
theorem parts_one {w : World} {A : Option Addr} {c : Nat} {l : List UInt8} (h : Sl w A c (byts l)) : Parts (w.alloc (.cells #[.slice A l.length c] 24)) (some ⟨w.heap.size, 0, none⟩) 1 [(A, c, l)] := by
  have r := Row.new w 24 [.slice A l.length c]
  refine ⟨⟨Rd.row (ys := []) (by rw [List.append_nil]; exact r), by simp, fun h => by cases h⟩, fun p hp => ?_⟩
  obtain rfl : p = (A, c, l) := by simpa using hp
  exact h.later (Nat.le_refl _) ((Below.refl _ w).alloc (Nat.le_refl _) _)
theorem flat_one (A : Option Addr) (c : Nat) (l : List UInt8) : flat [(A, c, l)] = l := by unfold flat; simp
theorem flat_snoc (ps : List Part) (A : Option Addr) (c : Nat) (l : List UInt8) : flat (ps ++ [(A, c, l)]) = flat ps ++ l := by unfold flat; simp
theorem parts_all (ps : List Part) : ∀ v ∈ ps.map partV, v.oneCell' = true := by
  intro v hv
  obtain ⟨_, _, rfl⟩ := List.mem_map.1 hv
  rfl
theorem take_more (l : List UInt8) (i j : Nat) (h : i ≤ j) : l.take i ++ (l.drop i).take (j - i) = l.take j := by
  rw [← List.take_add, show i + (j - i) = j by omega]
theorem index_bytes (A : Option Addr) (b o n c k : Nat) (hA : A = some ⟨b, o, none⟩) (hk : k < n) (w : World) :
    (Instr.indexAt 24 (.slice A n c) (.int .i64 k)).run Tryd.prog w = .ok (.pointer (some ⟨b, o + k, none⟩)) w := by
  subst hA
  have h : (k : Int) < (n : Int) := by omega
  go_simp
set_option maxRecDepth 20000 in
set_option maxHeartbeats 1000000 in
theorem parts_walk (A : Option Addr) (c : Nat) (l : List UInt8) (A1 : Option Addr) (c1 : Nat) (l1 : List UInt8) (w : World) (hT : Tabs w) (hs : Sl w A c (byts l)) (hs1 : Sl w A1 c1 (byts l1)) (hl : l.length ≤ 9223372036854775807) (hl1 : l1.length ≤ 9223372036854775807) :
    Calls Tryd.prog 5 #[.slice A l.length c, .slice A1 l1.length c1] w fun e w' => e = .returned (.bool true) ∧ Below w.heap.size w w' := by
  obtain ⟨i0, hi, hz0, hz1, hz2⟩ := info_parts infoSlice
  by_cases h1 : 2000 < l.length
  · have h1' : decide ((2000 : Int) < (l.length : Int)) = true := by simp; omega
    go_enter Tryd.func5, Tryd.ntmps5
    go_wp2_with (go_at_call 6; refine (dalive_any _ hT).mono ?_; rintro e w1 ⟨rfl, hb1⟩)
    go_ret
    exact ⟨rfl, hb1⟩
  have h1' : decide ((2000 : Int) < (l.length : Int)) = false := by simp; omega
  by_cases h2 : 200 < l1.length
  · have h2' : decide ((200 : Int) < (l1.length : Int)) = true := by simp; omega
    go_enter Tryd.func5, Tryd.ntmps5
    go_wp2_with (go_at_call 6; refine (dalive_any _ hT).mono ?_; rintro e w1 ⟨rfl, hb1⟩)
    go_ret
    exact ⟨rfl, hb1⟩
  have h2' : decide ((200 : Int) < (l1.length : Int)) = false := by simp; omega
  have k1 : l.length ≤ 2000 := by omega
  have k2 : l1.length ≤ 200 := by omega
  clear h1 h2
  go_enter Tryd.func5, Tryd.ntmps5
  go_wp2_with (first
    | (go_at_call 6; refine (dalive_any _ hT).mono ?_; rintro e w1 ⟨rfl, hb1⟩)
    | (go_at_call 10; refine (new_any _ (hT.later hb1 (Nat.le_refl _))).mono ?_; rintro e w2 ⟨g, rfl, hg2, hd2, hb2⟩))
  have hown0 : (w2.alloc (.cells #[] 24)).ownsRow w2.heap.size 24 1 (.slice (some ⟨w2.heap.size, 0, none⟩) 0 0) 0 [] := World.ownsRow_lit w2 #[] 0 (Nat.le_refl _) (by unfold maxLen; omega) rfl
  have hbA := below_step hb1 hb2
  have hb0 := hbA.alloc hbA.size (.cells #[] 24)
  have hd0 := hd2.later ((Below.refl w2.heap.size w2).alloc (Nat.le_refl _) (.cells #[] 24)) hd2.lt
  have hgw : w.heap.size ≤ g := Nat.le_trans hb1.size hg2
  have hg3 := hd2.lt
  clear hd2 hb1 hb2 hg2 h1' h2'
  go_loopw [6, 7, 27] (fun at_ v i wr => ∃ (k a : Nat) (ps : List Part), k ≤ l1.length ∧ i = .int .i64 k ∧ a ≤ l.length ∧ at_ = .int .i64 a ∧ Dgt wr g (l.take a) ∧ ps.length = k ∧ flat ps = l.take a ∧ wr.ownsRow w2.heap.size 24 1 v k (ps.map partV) ∧ (∀ p ∈ ps, Sl w p.1 p.2.1 (byts p.2.2)) ∧ Below w.heap.size w wr ∧ w2.heap.size ≤ wr.heap.size) (fun _ _ i _ => l1.length - (intOf i).toNat)
  case atStart => exact ⟨0, 0, [], by omega, rfl, by omega, rfl, hd0, rfl, rfl, hown0, (fun p hp => by cases hp), hb0, by rw [World.size_alloc]; omega⟩
  case round =>
    clear hown0 hb0 hd0 hbA
    obtain ⟨k, a, ps, hk, rfl, ha, rfl, hd, hpk, hpf, hown, hpe, hb, hwb'⟩ := hrel
    by_cases hlt : k < l1.length
    · obtain ⟨b, o, hA1, hbl, _⟩ := hs1.rd.get (i := 0) (by rw [length_byts]; omega)
      have hix := index_bytes A1 b o l1.length c1 k hA1 hlt
      have hck : wr.cell? ⟨b, o + k, none⟩ = some (.int .u8 ((l1.getD k 0).toNat : Int)) := by
        obtain ⟨b', o', he, _, hc⟩ := hs1.rd.get (i := k) (by rw [length_byts]; exact hlt)
        rw [hA1] at he; cases he
        rw [hb.cell (p := ⟨b, o + k, none⟩) hbl, hc, get_byts _ _ hlt]
      have hn2 := byte_bd (l1.getD k 0)
      generalize (l1.getD k 0).toNat = n at *
      have hw1 : IntKind.i64.wrap (n : Int) = (n : Int) := by rw [IntKind.wrap_i64]; omega
      have hw2 : IntKind.i64.wrap ((a : Int) + (n : Int)) = (a : Int) + (n : Int) := by rw [IntKind.wrap_i64]; omega
      have HA1 := Lib.hid hA1
      have HPK := Lib.hid hpk
      have HPF := Lib.hid hpf
      clear hA1 hpk hpf
      have hn1 := Lib.hid (show k + 1 ≤ maxLen by unfold maxLen; omega)
      have hn3 := Lib.hid (show (k + 1) * 24 ≤ 140737488355328 by omega)
      have hwb : w2.heap.size ≤ wr.heap.size := hwb'
      -- ROUND-A
      by_cases htn : a + n ≤ l.length
      · obtain ⟨t, ht⟩ : ∃ t, t = a + n := ⟨_, rfl⟩
        have hcast : (a : Int) + (n : Int) = (t : Int) := by omega
        have hat : a ≤ t := by omega
        have htl : t ≤ l.length := by omega
        have htI : (t : Int) ≤ (l.length : Int) := by omega
        rw [hcast] at hw2
        clear ht htn
        obtain ⟨A2, hcut, _, hsc⟩ := cut_run A c l w hs a t hat htl
        have hscr := hsc.later (Nat.le_refl _) hb
        obtain ⟨B, hBq⟩ : ∃ B, B = (l.drop a).take (t - a) := ⟨_, rfl⟩
        rw [← hBq] at hsc hscr
        have hBl : t - a = B.length := by rw [hBq, List.length_take, List.length_drop]; omega
        have HB := Lib.hid hBq
        have HBL := Lib.hid hBl
        have hml : (l.take a).length + B.length ≤ 4611686018427387904 := by rw [List.length_take]; omega
        have hPV := Lib.hid (show [Value.slice A2 (t - a) (c - a)] = [partV (A2, c - a, B)] by rw [hBl]; rfl)
        clear hBq hBl
        go_wp2_with (first
          | (go_at_call 12; refine (write_at g (t - a) (l.take a) B A2 (c - a) _ (hT.cu.later hb (Nat.le_refl _)) hd hscr (fun h a ha => by have := hsc.block_lt (by rw [length_byts]; exact h) ha; omega) HBL.out hml).mono ?_; rintro e w3 ⟨rfl, hd3, hg3'⟩; have hown3 := own_grown hown hg3' hg3; have hb3 := hb.grown hg3' hb.size (fun k h => by cases h; exact hgw); have hown3a := hown3.alloc (.cells #[.slice A2 (t - a) (c - a)] 24); have hb3a := hb3.alloc hb3.size (.cells #[.slice A2 (t - a) (c - a)] 24); have hd3a := hd3.later ((Below.refl w3.heap.size w3).alloc (Nat.le_refl _) (.cells #[.slice A2 (t - a) (c - a)] 24)) hd3.lt; have hsz3 := Nat.le_trans hwb hg3'.size)
          | (at_builtin; refine wpList_append_own _ rfl (.tmp 44) (.tmp 49) 22 rfl w2.heap.size 24 i0 _ 1 24 Tryd.underlying22 hi hz0 hz1 hz2 rfl (by omega) _ k (ps.map partV) rfl hown3a ⟨w3.heap.size, 0, none⟩ 1 1 [.slice A2 (t - a) (c - a)] rfl rfl (cells_new _ _ _) (by rw [hPV.out]; exact parts_all [_]) hn1.out hn3.out (by rw [World.size_alloc]; omega) ?_; intro v8 w8 hown8 hg8 _; have hb8 : Below w.heap.size w w8 := hb3a.grown hg8 hb3a.size (fun k hk => by have := (hown3a.lt k hk).1; omega); have hd8 := hd3a.kept hg8 (fun k hk => by have := (hown3a.lt k hk).1; omega); have hsz8 : w2.heap.size ≤ w8.heap.size := Nat.le_trans hsz3 (by have := hg8.size; rw [World.size_alloc] at this; omega)))
        rw [hPV.out, ← List.map_singleton, ← List.map_append] at hown8
        rw [HB.out, take_more l a t hat] at hd8
        clear hown3 hown3a hb3 hb3a hd3 hd3a hg8 hg3' hscr hcut hix hck hd hown hb
        go_roundw
        case rel =>
          refine ⟨k + 1, t, ps ++ [(A2, c - a, B)], by omega, by go_num, htl, rfl, hd8, by rw [List.length_append, HPK.out]; rfl, by rw [flat_snoc, HPF.out, HB.out, take_more l a t hat], hown8, ?_, hb8, hsz8⟩
          intro p hp
          rcases List.mem_append.1 hp with h | h
          · exact hpe p h
          · rw [List.mem_singleton] at h; subst h; exact hsc
        case measure => simp [intOf]; omega
      · have hat : a ≤ l.length := ha
        have htl : l.length ≤ l.length := Nat.le_refl _
        have htI : (l.length : Int) < (a : Int) + (n : Int) := by omega
        clear htn
        obtain ⟨A2, hcut, _, hsc⟩ := cut_run A c l w hs a l.length hat htl
        have hscr := hsc.later (Nat.le_refl _) hb
        obtain ⟨B, hBq⟩ : ∃ B, B = (l.drop a).take (l.length - a) := ⟨_, rfl⟩
        rw [← hBq] at hsc hscr
        have hBl : l.length - a = B.length := by rw [hBq, List.length_take, List.length_drop]; omega
        have HB := Lib.hid hBq
        have HBL := Lib.hid hBl
        have hml : (l.take a).length + B.length ≤ 4611686018427387904 := by rw [List.length_take]; omega
        have hPV := Lib.hid (show [Value.slice A2 (l.length - a) (c - a)] = [partV (A2, c - a, B)] by rw [hBl]; rfl)
        clear hBq hBl
        go_wp2_with (first
          | (go_at_call 12; refine (write_at g (l.length - a) (l.take a) B A2 (c - a) _ (hT.cu.later hb (Nat.le_refl _)) hd hscr (fun h a ha => by have := hsc.block_lt (by rw [length_byts]; exact h) ha; omega) HBL.out hml).mono ?_; rintro e w3 ⟨rfl, hd3, hg3'⟩; have hown3 := own_grown hown hg3' hg3; have hb3 := hb.grown hg3' hb.size (fun k h => by cases h; exact hgw); have hown3a := hown3.alloc (.cells #[.slice A2 (l.length - a) (c - a)] 24); have hb3a := hb3.alloc hb3.size (.cells #[.slice A2 (l.length - a) (c - a)] 24); have hd3a := hd3.later ((Below.refl w3.heap.size w3).alloc (Nat.le_refl _) (.cells #[.slice A2 (l.length - a) (c - a)] 24)) hd3.lt; have hsz3 := Nat.le_trans hwb hg3'.size)
          | (at_builtin; refine wpList_append_own _ rfl (.tmp 44) (.tmp 49) 22 rfl w2.heap.size 24 i0 _ 1 24 Tryd.underlying22 hi hz0 hz1 hz2 rfl (by omega) _ k (ps.map partV) rfl hown3a ⟨w3.heap.size, 0, none⟩ 1 1 [.slice A2 (l.length - a) (c - a)] rfl rfl (cells_new _ _ _) (by rw [hPV.out]; exact parts_all [_]) hn1.out hn3.out (by rw [World.size_alloc]; omega) ?_; intro v8 w8 hown8 hg8 _; have hb8 : Below w.heap.size w w8 := hb3a.grown hg8 hb3a.size (fun k hk => by have := (hown3a.lt k hk).1; omega); have hd8 := hd3a.kept hg8 (fun k hk => by have := (hown3a.lt k hk).1; omega); have hsz8 : w2.heap.size ≤ w8.heap.size := Nat.le_trans hsz3 (by have := hg8.size; rw [World.size_alloc] at this; omega)))
        rw [hPV.out, ← List.map_singleton, ← List.map_append] at hown8
        rw [HB.out, take_more l a l.length hat] at hd8
        clear hown3 hown3a hb3 hb3a hd3 hd3a hg8 hg3' hscr hcut hix hck hd hown hb
        go_roundw
        case rel =>
          refine ⟨k + 1, l.length, ps ++ [(A2, c - a, B)], by omega, by go_num, htl, rfl, hd8, by rw [List.length_append, HPK.out]; rfl, by rw [flat_snoc, HPF.out, HB.out, take_more l a l.length hat], hown8, ?_, hb8, hsz8⟩
          intro p hp
          rcases List.mem_append.1 hp with h | h
          · exact hpe p h
          · rw [List.mem_singleton] at h; subst h; exact hsc
        case measure => simp [intOf]; omega
      -- ROUND-Z
    · have ek : k = l1.length := by omega
      obtain ⟨A2, _, hcut0, hsc⟩ := cut_run A c l w hs a l.length ha (Nat.le_refl _)
      have hcut := fun w => hcut0 w rfl
      have hscr := hsc.later (Nat.le_refl _) hb
      obtain ⟨B, hBq⟩ : ∃ B, B = (l.drop a).take (l.length - a) := ⟨_, rfl⟩
      rw [← hBq] at hsc hscr
      have hBl : l.length - a = B.length := by rw [hBq, List.length_take, List.length_drop]; omega
      have hall : l.take a ++ B = l := by rw [hBq, take_more l a l.length ha, List.take_of_length_le (Nat.le_refl _)]
      have HB := Lib.hid hall
      have HBL := Lib.hid hBl
      have hml : (l.take a).length + B.length ≤ 4611686018427387904 := by rw [List.length_take]; omega
      have hPV := Lib.hid (show [Value.slice A2 (l.length - a) (c - a)] = [partV (A2, c - a, B)] by rw [hBl]; rfl)
      have hn1 := Lib.hid (show k + 1 ≤ maxLen by unfold maxLen; omega)
      have hn3 := Lib.hid (show (k + 1) * 24 ≤ 140737488355328 by omega)
      have hge : ¬ ((k : Int) < (l1.length : Int)) := by omega
      have hflat := Lib.hid (show flat (ps ++ [(A2, c - a, B)]) = l by rw [flat_snoc, hpf, hall])
      have hpl := Lib.hid (show (ps ++ [(A2, c - a, B)]).length = k + 1 by rw [List.length_append, hpk]; rfl)
      have hpe2 : ∀ p ∈ ps ++ [(A2, c - a, B)], Sl w p.1 p.2.1 (byts p.2.2) := by
        intro p hp
        rcases List.mem_append.1 hp with h | h
        · exact hpe p h
        · rw [List.mem_singleton] at h; subst h; exact hsc
      obtain ⟨V, hV⟩ : ∃ V, V = byts (shaL l) := ⟨_, rfl⟩
      obtain ⟨j0, hj, _, _, _⟩ := info_parts infoByte
      have hE : ∀ w, (Op.equalIn 10000 26 (.agg V.toArray) (.agg V.toArray)).run Tryd.prog w = .ok true w := by
        intro w
        rw [hV, run_eq_bytes 26 32 j0 Tryd.underlying26 hj (shaL l) (shaL l) rfl rfl w]; simp
      have hsum := Lib.hid (show ∀ w', Cube w' → Dgt w' g l → Calls Tryd.prog 13 #[.pointer (some ⟨g, 0, none⟩)] w' fun e w'' => e = .returned (.agg V.toArray) ∧ Below w'.heap.size w' w'' from fun w' h1 h2 => by rw [hV]; exact sum_any g l w' h1 h2 (by omega))
      have hof1 := Lib.hid (show ∀ w', Below w.heap.size w w' → Calls Tryd.prog 7 #[.slice (some ⟨w'.heap.size, 0, none⟩) 1 1] (w'.alloc (.cells #[.slice A l.length c] 24)) fun e w'' => e = .returned (.agg V.toArray) ∧ Below (w'.alloc (.cells #[.slice A l.length c] 24)).heap.size (w'.alloc (.cells #[.slice A l.length c] 24)) w'' from fun w' hb' => by
        have h := of_any _ 1 1 [(A, c, l)] _ (hT.later (hb'.alloc hb'.size (.cells #[.slice A l.length c] 24)) (Nat.le_refl _)) (parts_one (hs.later (Nat.le_refl _) hb')) rfl (by rw [flat_one]; omega) (by simp)
        rw [flat_one, ← hV] at h
        exact h)
      have hof2 := Lib.hid (show ∀ w' A8 c8, Below w.heap.size w w' → Sl w' A8 c8 ((ps ++ [(A2, c - a, B)]).map partV) → Calls Tryd.prog 7 #[.slice A8 (k + 1) c8] w' fun e w'' => e = .returned (.agg V.toArray) ∧ Below w'.heap.size w' w'' from fun w' A8 c8 hb' hs8 => by
        have h := of_any A8 (k + 1) c8 (ps ++ [(A2, c - a, B)]) w' (hT.later hb' (Nat.le_refl _)) ⟨hs8, fun p hp => (hpe2 p hp).later (Nat.le_refl _) hb'⟩ hpl.out.symm (by rw [hflat.out]; omega) (by rw [hpl.out]; omega)
        rw [hflat.out, ← hV] at h
        exact h)
      have tok1 : True := trivial
      have tok2 : True := trivial
      clear hV hBq hBl hpf hpk hpe2 hcut0 ek hlt hall
      go_wp2_with (first
        | (go_at_call 12; refine (write_at g (l.length - a) (l.take a) B A2 (c - a) _ (hT.cu.later hb (Nat.le_refl _)) hd hscr (fun h a ha => by have := hsc.block_lt (by rw [length_byts]; exact h) ha; omega) HBL.out hml).mono ?_; rintro e w3 ⟨rfl, hd3, hg3'⟩; have hown3 := own_grown hown hg3' hg3; have hb3 := hb.grown hg3' hb.size (fun k h => by cases h; exact hgw); have hown3a := hown3.alloc (.cells #[.slice A2 (l.length - a) (c - a)] 24); have hb3a := hb3.alloc hb3.size (.cells #[.slice A2 (l.length - a) (c - a)] 24); have hd3a := hd3.later ((Below.refl w3.heap.size w3).alloc (Nat.le_refl _) (.cells #[.slice A2 (l.length - a) (c - a)] 24)) hd3.lt; have hsz3 := Nat.le_trans hwb' hg3'.size)
        | (at_builtin; refine wpList_append_own _ rfl (.tmp 58) (.tmp 62) 22 rfl w2.heap.size 24 i0 _ 1 24 Tryd.underlying22 hi hz0 hz1 hz2 rfl (by omega) _ k (ps.map partV) rfl hown3a ⟨w3.heap.size, 0, none⟩ 1 1 [.slice A2 (l.length - a) (c - a)] rfl rfl (cells_new _ _ _) (by rw [hPV.out]; exact parts_all [_]) hn1.out hn3.out (by rw [World.size_alloc]; omega) ?_; intro v8 w8 hown8 hg8 _; have hb8 : Below w.heap.size w w8 := hb3a.grown hg8 hb3a.size (fun k hk => by have := (hown3a.lt k hk).1; omega); have hd8 := hd3a.kept hg8 (fun k hk => by have := (hown3a.lt k hk).1; omega); rw [hPV.out, ← List.map_singleton, ← List.map_append] at hown8; rw [HB.out] at hd8; obtain ⟨A8, c8, rfl, _, hsl8⟩ := Sl.of_own hown8; clear hown8 hg8 hown3 hown3a hb3 hb3a hd3 hd3a hg3' hown hd hb)
        | (go_at_call 13; refine (hsum.out _ (hT.cu.later hb8 (Nat.le_refl _)) hd8).mono ?_; rintro e w9 ⟨rfl, hb9⟩; have hb9' := hb8.trans (hb9.mono hb8.size))
        | (go_at_call 7; have _t := tok1; refine (hof1.out w9 hb9').mono ?_; rintro e w10 ⟨rfl, hb10⟩; clear tok1; have hb10' := (hb9'.alloc hb9'.size _).trans (hb10.mono (hb9'.alloc hb9'.size _).size); have hbx := ((Below.refl w9.heap.size w9).alloc (Nat.le_refl _) (.cells #[.slice A l.length c] 24)).trans (hb10.mono (by rw [World.size_alloc]; omega)))
        | (go_at_call 7; have _t := tok2; refine (hof2.out w10 A8 c8 hb10' (hsl8.later (Nat.le_refl _) (below_step hb9 hbx))).mono ?_; rintro e w11 ⟨rfl, hb11⟩; clear tok2; have hb11' := hb10'.trans (hb11.mono hb10'.size))
        | (go_at_call 7; refine (hof1.out w11 hb11').mono ?_; rintro e w12 ⟨rfl, hb12⟩; have hb12' := (hb11'.alloc hb11'.size _).trans (hb12.mono (hb11'.alloc hb11'.size _).size)))
      go_ret
      exact ⟨rfl, hb12'⟩
end Go.Proofs.YtcgnljjdoinepaaDoor
