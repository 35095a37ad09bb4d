/- LAYER 3, DigestWrites: the walk of the law. -/
import Derived.Test.YtcgnljjdoinepaaDoorL3Sums
import Derived.Test.YtcgnljjdoinepaaDoorCv
namespace Go.Proofs.YtcgnljjdoinepaaDoor
open Go Go.RowKit

/-- A slice below a bound reads as it did, where nothing below that bound has turned. -/
theorem Sl.under {w w' : World} {A : Option Addr} {c B : Nat} {xs : List Value} (h : Sl w A c xs) (hb : Below B w w') (hlt : 0 < xs.length → ∀ a, A = some a → a.block < B) : Sl w' A c xs := by
  refine ⟨?_, h.room, h.bare⟩
  rcases h.rd with hn | ⟨b, o, hA, hl, hc⟩
  · exact .inl hn
  · by_cases h0 : 0 < xs.length
    · subst hA
      refine .inr ⟨b, o, rfl, Nat.lt_of_lt_of_le hl hb.size, fun i hi => ?_⟩
      rw [hb.cell (p := ⟨b, o + i, none⟩) (hlt h0 ⟨b, o, none⟩ rfl)]; exact hc i hi
    · exact .inl (List.eq_nil_of_length_eq_zero (by omega))
theorem write_n (g n : Nat) (l b : List UInt8) (A : Option Addr) (c : Nat) (w : World) (hT : Cube w) (hd : Dgt w g l) (hs : Sl w A c (byts b)) (hA : 0 < b.length → ∀ a, A = some a → a.block ≠ g) (hn : n = b.length) (hm : l.length + b.length ≤ 4611686018427387904) :
    Calls Tryd.prog 12 #[.pointer (some ⟨g, 0, none⟩), .slice A n c] w fun e w' => e = .returned (.tuple #[]) ∧ Dgt w' g (l ++ b) ∧ w.grownBy w' (some g) := by
  subst hn
  exact write_any g l b A c w hT hd hs hA hm
theorem sl_three (w : World) (C : Array Value) (hC : C = (byts [1, 2, 3]).toArray) : Sl (w.alloc (.cells C 5)) (some ⟨w.heap.size, 0, none⟩) 3 (byts [1, 2, 3]) := by
  subst hC
  exact ⟨Rd.row (ys := []) (by rw [List.append_nil]; exact Row.new w 5 (byts [1, 2, 3])), by simp [length_byts], fun h => by cases h⟩
theorem index_own (A : Option Addr) (g n c j : Nat) (hA : A = some ⟨g, 0, none⟩) (hj : j < n) (w : World) :
    (Instr.indexAt 24 (.slice A n c) (.int .i64 j)).run Tryd.prog w = .ok (.pointer (some ⟨g, j, none⟩)) w := by
  subst hA
  have h : (j : Int) < (n : Int) := by omega
  go_simp
theorem u8_next (x : UInt8) : ∃ y : UInt8, IntKind.u8.wrap ((x.toNat : Int) + 1) = (y.toNat : Int) := by
  refine ⟨UInt8.ofNat (x.toNat + 1), ?_⟩
  rw [UInt8.toNat_ofNat', IntKind.wrap_u8]; omega
theorem byts_set (ys : List UInt8) (j : Nat) (y : UInt8) : (byts ys).set j (.int .u8 (y.toNat : Int)) = byts (ys.set j y) := by
  unfold byts; rw [List.map_set]
/-- Two new rows, each written whole. -/
theorem store2 {w w4 : World} {A B : Array Value} {t u : TypeId} {X Y : List Value} (h : ((((w.alloc (.cells A t)).alloc (.cells B u)).setRow w.heap.size X.toArray).setRow (w.heap.size + 1) Y.toArray) = w4) :
    Row w4 w.heap.size t X ∧ Row w4 (w.heap.size + 1) u Y ∧ Below w.heap.size w w4 := by
  subst h
  have h1 : (((w.alloc (.cells A t)).alloc (.cells B u)).setRow w.heap.size X.toArray).heap[w.heap.size + 1]? = some (.cells B u) := Eq.trans (setRow_other _ _ _ _ (by omega)) (heap_alloc2_new w _ _)
  have h0 : Row (((w.alloc (.cells A t)).alloc (.cells B u)).setRow w.heap.size X.toArray) w.heap.size t X := setRow_heap _ _ _ _ _ _ (heap_alloc2_old w _ _)
  refine ⟨?_, setRow_heap _ _ _ _ _ _ h1, below_setRow (below_setRow (((Below.refl _ w).alloc (Nat.le_refl _) _).alloc (by rw [World.size_alloc]; omega) _) (Nat.le_refl _) _) (by omega) _⟩
  unfold Row at h0 ⊢
  rw [setRow_other _ _ _ _ (by omega)]; exact h0
theorem second_new (w : World) (A B : Array Value) (t u : TypeId) (cs : Array Value) : (((w.alloc (.cells A t)).alloc (.cells B u)).setRow w.heap.size cs).heap[w.heap.size + 1]? = some (.cells B u) :=
  Eq.trans (setRow_other _ _ _ _ (by omega)) (heap_alloc2_new w _ _)
theorem row_range {w : World} {g : Nat} {t : TypeId} {xs : List Value} (h : Row w g t xs) : w.rangeAt g 0 xs := by
  have := range_of_row (A := []) (C := []) (by rw [List.append_nil]; exact h : Row w g t ([] ++ (xs ++ [])))
  exact this
set_option maxRecDepth 100000 in
set_option maxHeartbeats 4000000 in
theorem writes_walk (A : Option Addr) (n c : Nat) (ps : List Part) (w : World) (hT : Tabs w) (hp : Parts w A c ps) (hn : n = ps.length) (hpl : ps.length ≤ 9223372036854775807) (hpe : ∀ p ∈ ps, p.2.2.length ≤ 9223372036854775807) :
    Calls Tryd.prog 4 #[.slice A n c] w fun e w' => e = .returned (.bool true) ∧ Below w.heap.size w w' := by
  subst hn
  obtain ⟨i0, hi, hz0, hz1, hz2⟩ := info_parts infoByte
  by_cases h12 : 12 < ps.length
  · go_enter Tryd.func4, Tryd.ntmps4
    go_wp2_with (go_at_call 6; refine (dalive_any _ hT).mono ?_; rintro e w1 ⟨rfl, hb1⟩)
    go_ret
    exact ⟨rfl, hb1⟩
  have h12' : ps.length ≤ 12 := by omega
  clear h12
  go_enter Tryd.func4, Tryd.ntmps4
  go_wp2_with (first
    | (go_at_call 6; refine (dalive_any _ hT).mono ?_; rintro e w1 ⟨rfl, hb1⟩)
    | (go_at_call 10; refine (new_any _ (hT.later hb1 (Nat.le_refl _))).mono ?_; rintro e w2 ⟨g, rfl, hg2, hd2, hb2⟩))
  have hbA := below_step hb1 hb2
  have hb0 := hbA.alloc hbA.size (.cells #[] 5)
  have hd0 := hd2.later ((Below.refl w2.heap.size w2).alloc (Nat.le_refl _) (.cells #[] 5)) hd2.lt
  have hgw : w.heap.size ≤ g := Nat.le_trans hb1.size hg2
  have hs0 : Sl (w2.alloc (.cells #[] 5)) (some ⟨w2.heap.size, 0, none⟩) 0 (byts []) := ⟨.inl rfl, Nat.le_refl _, fun h => by cases h⟩
  clear hd2 hb1 hb2 hg2 hbA
  go_loopw [4, 24] (fun v i wr => ∃ (k : Nat) (A4 : Option Addr) (c4 : Nat), k ≤ ps.length ∧ i = .int .i64 k ∧ v = .slice A4 (flat (ps.take k)).length c4 ∧ Sl wr A4 c4 (byts (flat (ps.take k))) ∧ (0 < (flat (ps.take k)).length → ∀ a, A4 = some a → a.block ≠ g) ∧ Dgt wr g (flat (ps.take k)) ∧ (flat (ps.take k)).length ≤ 150 * k ∧ Below w.heap.size w wr) (fun _ i _ => ps.length - (intOf i).toNat)
  case atStart => exact ⟨0, some ⟨w2.heap.size, 0, none⟩, 0, by omega, rfl, rfl, hs0, fun h => by simp [flat] at h, hd0, by simp [flat], hb0⟩
  case round =>
    clear hs0 hb0 hd0
    obtain ⟨k, A4, c4, hk, rfl, rfl, hs4, hA4, hd, hF, hb⟩ := hrel
    by_cases hlt : k < ps.length
    · obtain ⟨b, o, hA, _, _⟩ := hp.sl.rd.get (i := 0) (by rw [List.length_map]; omega)
      have hix := index_parts A b o ps.length c k hA hlt
      have hps := hp.later (Nat.le_refl _) hb
      rw [hA] at hps
      have hck := hps.get k hlt
      have hsw := hp.each ps[k] (List.getElem_mem hlt)
      have hle := hpe ps[k] (List.getElem_mem hlt)
      have HS := Lib.hid (flat_succ ps k hlt)
      unfold partV at hck
      obtain ⟨⟨Ak, ck, lk⟩, hpk⟩ : ∃ p, p = ps[k] := ⟨_, rfl⟩
      rw [← hpk] at hck hsw HS hle
      dsimp only at hck hsw HS hle
      have HA := Lib.hid hA
      clear hpk hps hA
      generalize flat (ps.take k) = F at *
      by_cases h150 : 150 < lk.length
      · go_wp2_with fail
        go_ret
        exact ⟨rfl, hb⟩
      · have h150' : lk.length ≤ 150 := by omega
        have hFb : F.length ≤ 1800 := by omega
        clear h150
        have hgr := hd.lt
        have tok1 : True := trivial
        have n1 : 0 + lk.length ≤ maxLen := by unfold maxLen; omega
        have n2 : (0 + lk.length) * 1 ≤ 140737488355328 := by omega
        go_wp2_with (first
          | (go_at_call 11; refine (clone_any g F _ hd).mono ?_; rintro e w3 ⟨gc, rfl, hgc, hdc, hb3⟩)
          | (go_at_call 12; have _t := tok1; refine (write_n gc 3 F [1, 2, 3] (some ⟨w3.heap.size, 0, none⟩) 3 _ ((hT.cu.later (hb.trans (hb3.mono hb.size)) (Nat.le_refl _)).later ((Below.refl _ w3).alloc (Nat.le_refl _) _) (Nat.le_refl _)) (hdc.later ((Below.refl _ w3).alloc (Nat.le_refl _) _) hdc.lt) (sl_three w3 _ rfl) (fun _ a ha => by cases ha; have := hdc.lt; show w3.heap.size ≠ gc; omega) rfl (by show F.length + 3 ≤ _; omega)).mono ?_; rintro e w4 ⟨rfl, hd4c, hg4⟩; clear tok1; have hbr4 := (hb3.alloc hb3.size _).grown hg4 (by rw [World.size_alloc]; have := hb3.size; omega) (fun k h => by cases h; exact hgc); have hbw4 := hb.trans (hbr4.mono hb.size); have hown4 : (w4.alloc (.cells #[] 5)).ownsRow w4.heap.size 5 1 (.slice (some ⟨w4.heap.size, 0, none⟩) 0 0) 0 [] := World.ownsRow_lit w4 #[] 0 (Nat.le_refl _) (by unfold maxLen; omega) rfl; have hb4a := (Below.refl w4.heap.size w4).alloc (Nat.le_refl _) (.cells #[] 5); have hsk := (hsw.later (Nat.le_refl _) hbw4).later (Nat.le_refl _) hb4a)
          | (at_builtin; refine wpList_append_sl rfl (.tmp 38) (.tmp 39) 24 rfl w4.heap.size 5 i0 _ 1 Tryd.underlying24 hi hz0 hz1 hz2 rfl _ 0 [] rfl hown4 Ak lk.length ck (byts lk) rfl (length_byts _).symm hsk (byts_one _) n1 n2 hb4a.size ?_; intro v5 w5 hown5 hg5; have hb5 : Below w4.heap.size w4 w5 := hb4a.grown hg5 hb4a.size (fun k hk => (hown4.lt k hk).1); rw [Nat.zero_add, List.nil_append] at hown5; obtain ⟨A5, c5, rfl, _, hsl5⟩ := Sl.of_own hown5)
          | (go_at_call 12; refine (write_n g lk.length F lk A5 c5 _ ((hT.cu.later hbw4 (Nat.le_refl _)).later hb5 (Nat.le_refl _)) ((hd.later hbr4 hgr).later hb5 (Nat.lt_of_lt_of_le hgr hbr4.size)) hsl5 (fun _ a ha => own_apart hown5 (Nat.lt_of_lt_of_le hgr hbr4.size) a ha) rfl (by omega)).mono ?_; rintro e w6 ⟨rfl, hd6, hg6⟩))
        have hgl4 := Nat.lt_of_lt_of_le hgr hbr4.size
        have hcl4 := hd4c.lt
        have hbr5 := hbr4.trans (hb5.mono hbr4.size)
        have hown6 := own_grown hown5 hg6 hgl4
        have hd6c := (hd4c.later hb5 hcl4).grown hg6 (by omega)
        have hs6 := (hs4.later (Nat.le_refl _) hbr5).apart hg6 (fun h a ha => hA4 (by rw [length_byts] at h; exact h) a ha)
        have hbw6 := (hb.trans (hbr5.mono hb.size)).grown hg6 (Nat.le_trans hb.size hbr5.size) (fun k h => by cases h; exact hgw)
        have hA4l : 0 < (byts F).length → ∀ a, A4 = some a → a.block < w4.heap.size := fun h a ha => Nat.lt_of_lt_of_le (hs4.block_lt h ha) hbr4.size
        have hle46 : w4.heap.size ≤ w6.heap.size := Nat.le_trans hb5.size hg6.size
        obtain ⟨wo, rfl⟩ : ∃ wo : World, wo = wr := ⟨_, rfl⟩
        clear hg6 hsl5 hown5 hg5 hb5 hsk hb4a hown4 hbw4 hg4 hd4c hdc hb3 hd hs4 hbr4 hbr5 hck hb
        go_loopw [46] (fun i wq => ∃ (j : Nat) (ys : List UInt8), j ≤ lk.length ∧ i = .int .i64 j ∧ ys.length = lk.length ∧ wq.ownsRow w4.heap.size 5 1 (.slice A5 lk.length c5) lk.length (byts ys) ∧ Below w4.heap.size w6 wq) (fun i _ => lk.length - (intOf i).toNat)
        case atStart => exact ⟨0, lk, by omega, rfl, rfl, hown6, Below.refl _ _⟩
        case round =>
          clear hown6
          obtain ⟨j, ys, hj, rfl, hyl, hown, hbq⟩ := hrel
          by_cases hltj : j < lk.length
          · obtain ⟨g5, cap5, he, _, hgl5⟩ := hown.form (by omega)
            injection he with he1 he2 he3
            have hixj := index_own A5 g5 lk.length c5 j he1 hltj
            rw [he1, he3] at hown
            obtain ⟨zs, hrow⟩ := Row.of_own hown
            have cj : wr.cell? ⟨g5, j, none⟩ = some (.int .u8 ((ys.getD j 0).toNat : Int)) := by
              rw [hrow.cell, List.getElem?_append_left (by rw [length_byts]; omega), get_byts _ _ (by omega)]
            have fj := hrow.free j
            obtain ⟨y, hy⟩ := u8_next (ys.getD j 0)
            generalize (ys.getD j 0).toNat = x at *
            have H1 := Lib.hid he1
            have H3 := Lib.hid he3
            clear he1 he2 he3 hrow
            have hyl' := Lib.hid hyl
            clear hyl
            go_wp2_with fail
            go_roundw
            case rel =>
              refine ⟨j + 1, ys.set j y, by omega, by go_num, by rw [List.length_set]; exact hyl'.out, ?_, hbq.setCell (by have := (hown.lt g5 rfl).1; exact this) _⟩
              have h := own_set hown j (.int .u8 (y.toNat : Int))
              rw [byts_set] at h
              rw [H1.out, H3.out]; exact h
            case measure => simp [intOf]; omega
          · have hd7 := hd6.later hbq hgl4
            have hd7c := hd6c.later hbq hcl4
            have hs7 := hs6.under hbq hA4l
            have hbw7 := hbw6.trans (hbq.mono (by have := hbw6.size; omega))
            obtain ⟨w7, rfl⟩ : ∃ w7 : World, w7 = wr := ⟨_, rfl⟩
            have hown7 : (w7.alloc (.cells #[] 5)).ownsRow w7.heap.size 5 1 (.slice (some ⟨w7.heap.size, 0, none⟩) 0 0) 0 [] := World.ownsRow_lit w7 #[] 0 (Nat.le_refl _) (by unfold maxLen; omega) rfl
            have hb7a := (Below.refl w7.heap.size w7).alloc (Nat.le_refl _) (.cells #[] 5)
            have hs7a := hs7.later (Nat.le_refl _) hb7a
            have m1 : 0 + F.length ≤ maxLen := by unfold maxLen; omega
            have m2 : (0 + F.length) * 1 ≤ 140737488355328 := by omega
            have m3 : F.length + 3 ≤ maxLen := by unfold maxLen; omega
            have m4 : (F.length + 3) * 1 ≤ 140737488355328 := by omega
            have m5 : F.length + lk.length ≤ maxLen := by unfold maxLen; omega
            have m6 : (F.length + lk.length) * 1 ≤ 140737488355328 := by omega
            obtain ⟨H, hH⟩ : ∃ H, H = F ++ [1, 2, 3] := ⟨_, rfl⟩
            obtain ⟨G, hG⟩ : ∃ G, G = F ++ lk := ⟨_, rfl⟩
            have hHl : F.length + 3 = H.length := by rw [hH, List.length_append]; rfl
            have hGl : F.length + lk.length = G.length := by rw [hG, List.length_append]
            have hHb : H.length ≤ 5000 := by omega
            have hGb : G.length ≤ 5000 := by omega
            have bH := Lib.hid (show byts F ++ byts [1, 2, 3] = byts H by rw [hH, byts_append])
            have bG := Lib.hid (show byts F ++ byts lk = byts G by rw [hG, byts_append])
            have HHL := Lib.hid hHl
            have HGL := Lib.hid hGl
            have HG := Lib.hid hG
            rw [← hG] at hd7
            rw [← hH] at hd7c
            clear hG hH hHl hGl hd6 hd6c hs6 hown hbw6
            obtain ⟨X, hX⟩ : ∃ X, X = byts (shaL G) := ⟨_, rfl⟩
            obtain ⟨Y, hY⟩ : ∃ Y, Y = byts (shaL H) := ⟨_, rfl⟩
            have hsum1 := Lib.hid (show ∀ w', Cube w' → Dgt w' g G → Calls Tryd.prog 13 #[.pointer (some ⟨g, 0, none⟩)] w' fun e w'' => e = .returned (.agg X.toArray) ∧ Below w'.heap.size w' w'' from fun w' h1 h2 => by rw [hX]; exact sum_any g G w' h1 h2 (by omega))
            have hsum2 := Lib.hid (show ∀ w', Cube w' → Dgt w' gc H → Calls Tryd.prog 13 #[.pointer (some ⟨gc, 0, none⟩)] w' fun e w'' => e = .returned (.agg Y.toArray) ∧ Below w'.heap.size w' w'' from fun w' h1 h2 => by rw [hY]; exact sum_any gc H w' h1 h2 (by omega))
            have hXl : X.length = 32 := by rw [hX]; exact store_tag
            have hYl : Y.length = 32 := by rw [hY]; exact store_tag
            have hone1 := Lib.hid (all_one (show ∀ v ∈ X, v.oneCell' = true by rw [hX]; exact byts_one _))
            have hone2 := Lib.hid (all_one (show ∀ v ∈ Y, v.oneCell' = true by rw [hY]; exact byts_one _))
            have hsz1 := Lib.hid (show (Tryd.prog.info? 26).map (·.size) = some X.toArray.size by rw [size_tag, List.size_toArray, hXl])
            have hsz2 := Lib.hid (show (Tryd.prog.info? 26).map (·.size) = some Y.toArray.size by rw [size_tag, List.size_toArray, hYl])
            have h321 := Lib.hid (show 32 = X.toArray.size by rw [List.size_toArray, hXl])
            have h322 := Lib.hid (show 32 = Y.toArray.size by rw [List.size_toArray, hYl])
            have hszL := Lib.hid (show (Tryd.prog.info? 26).map (·.size) = some X.length by rw [size_tag, hXl])
            have HX := Lib.hid hX
            have HY := Lib.hid hY
            have tok2 : True := trivial
            clear hX hY hXl hYl n1 n2
            go_wp2_with (first
              | (at_builtin; refine wpList_append_sl rfl (.tmp 56) (.tmp 57) 24 rfl w7.heap.size 5 i0 _ 1 Tryd.underlying24 hi hz0 hz1 hz2 rfl _ 0 [] rfl hown7 A4 F.length c4 (byts F) rfl (length_byts _).symm hs7a (byts_one _) m1 m2 hb7a.size ?_; intro v8 w8 hown8 hg8; have hb8 : Below w7.heap.size w7 w8 := hb7a.grown hg8 hb7a.size (fun k hk => (hown7.lt k hk).1); rw [Nat.zero_add, List.nil_append] at hown8; have hown8a := hown8.alloc (.cells #[.int .u8 1, .int .u8 2, .int .u8 3] 5); have hb8a := hb8.alloc hb8.size (.cells #[.int .u8 1, .int .u8 2, .int .u8 3] 5); clear hg8)
              | (at_builtin; refine wpList_append_sl rfl (.tmp 58) (.tmp 59) 24 rfl w7.heap.size 5 i0 _ 1 Tryd.underlying24 hi hz0 hz1 hz2 rfl _ F.length (byts F) rfl hown8a (some ⟨w8.heap.size, 0, none⟩) 3 3 (byts [1, 2, 3]) rfl rfl (sl_three w8 _ rfl) (byts_one _) m3 m4 hb8a.size ?_; intro v9 w9 hown9 hg9; have hb9 : Below w7.heap.size w7 w9 := hb8a.grown hg9 hb8a.size (fun k hk => (hown8a.lt k hk).1); rw [bH.out] at hown9; obtain ⟨A9, c9, rfl, _, hsl9⟩ := Sl.of_own hown9; have hcv9 := conv_bytes hsl9 (F.length + 3) HHL.out; have hown9b : (w9.alloc (.cells #[] 5)).ownsRow w9.heap.size 5 1 (.slice (some ⟨w9.heap.size, 0, none⟩) 0 0) 0 [] := World.ownsRow_lit w9 #[] 0 (Nat.le_refl _) (by unfold maxLen; omega) rfl; have hb9a := (Below.refl w9.heap.size w9).alloc (Nat.le_refl _) (.cells #[] 5); have hs9a := (hs7.later (Nat.le_refl _) hb9).later (Nat.le_refl _) hb9a; clear hg9 hown8a hown8 hown7 hb8a hsl9 hown9)
              | (at_builtin; refine wpList_append_sl rfl (.tmp 62) (.tmp 63) 24 rfl w9.heap.size 5 i0 _ 1 Tryd.underlying24 hi hz0 hz1 hz2 rfl _ 0 [] rfl hown9b A4 F.length c4 (byts F) rfl (length_byts _).symm hs9a (byts_one _) m1 m2 hb9a.size ?_; intro v10 w10 hown10 hg10; have hb10 : Below w9.heap.size w9 w10 := hb9a.grown hg10 hb9a.size (fun k hk => (hown9b.lt k hk).1); rw [Nat.zero_add, List.nil_append] at hown10; have hsk10 := (((hsw.later (Nat.le_refl _) hbw7).later (Nat.le_refl _) hb9).later (Nat.le_refl _) hb10); clear hg10 hcv9)
              | (at_builtin; refine wpList_append_sl rfl (.tmp 64) (.tmp 65) 24 rfl w9.heap.size 5 i0 _ 1 Tryd.underlying24 hi hz0 hz1 hz2 rfl _ F.length (byts F) rfl hown10 Ak lk.length ck (byts lk) rfl (length_byts _).symm hsk10 (byts_one _) m5 m6 hb10.size ?_; intro v11 w11 hown11 hg11; have hb11 : Below w9.heap.size w9 w11 := hb10.grown hg11 hb10.size (fun k hk => (hown10.lt k hk).1); rw [bG.out, HGL.out] at hown11; obtain ⟨A11, c11, rfl, _, hsl11⟩ := Sl.of_own hown11; have hne11 : ∀ a, A11 = some a → a.block ≠ g := fun a ha => own_apart hown11 (by have e1 := hbq.size; have e2 := hb9.size; omega) a ha; have hb711 := below_step hb9 hb11; have hbw11 := hbw7.trans (hb711.mono hbw7.size); have hd11 := hd7.later hb711 hd7.lt; have hd11c := hd7c.later hb711 hd7c.lt; clear hg11 hown10 hb10 hsk10 hs9a hb9a hown9b hs7a)
              | (go_at_call 13; have _t := tok2; refine (hsum1.out w11 (hT.cu.later hbw11 (Nat.le_refl _)) hd11).mono ?_; rintro e w12 ⟨rfl, hb12⟩; clear tok2; have hbw12 := hbw11.trans (hb12.mono hbw11.size); have hd12 := hd11.later hb12 hd11.lt; have hd12c := hd11c.later hb12 hd11c.lt)
              | (go_at_call 13; refine (hsum2.out w12 (hT.cu.later hbw12 (Nat.le_refl _)) hd12c).mono ?_; rintro e w13 ⟨rfl, hb13⟩)
              | (with_reducible refine wpList_store_row rfl 26 (.tmp 11) (.tmp 68) rfl w13.heap.size X.toArray rfl rfl 26 _ (heap_alloc2_old w13 _ _) hsz1.out (Eq.trans (by kernel_rfl) h321.out) hone1.out ?_)
              | (with_reducible refine wpList_store_row rfl 26 (.tmp 12) (.tmp 70) rfl (w13.heap.size + 1) Y.toArray rfl rfl 26 _ (second_new w13 _ _ _ _ _) hsz2.out (Eq.trans (by kernel_rfl) h322.out) hone2.out ?_; refine Hid.out ?_))
            refine Lib.hid ?_
            generalize hw14 : World.setRow (World.setRow _ _ _) _ _ = w14
            obtain ⟨rx, ry, hb14⟩ := store2 (X := X) (Y := Y) hw14
            have hb1114 : Below w11.heap.size w11 w14 := below_step (below_step hb12 hb13) hb14
            have hbw14 := hbw11.trans (hb1114.mono hbw11.size)
            have hd14 := hd11.later hb1114 hd11.lt
            have hd14c := hd11c.later hb1114 hd11c.lt
            have hslX : Sl w14 (some ⟨w13.heap.size, 0, none⟩) 32 (byts (shaL G)) := by
              rw [← HX.out]
              exact ⟨Rd.row (ys := []) (by rw [List.append_nil]; exact rx), by rw [HX.out, length_byts]; exact Nat.le_refl _, fun h => by cases h⟩
            have hslY : Sl w14 (some ⟨w13.heap.size + 1, 0, none⟩) 32 (byts (shaL H)) := by
              rw [← HY.out]
              exact ⟨Rd.row (ys := []) (by rw [List.append_nil]; exact ry), by rw [HY.out, length_byts]; exact Nat.le_refl _, fun h => by cases h⟩
            have hcvX := conv_later hslX 32 rfl
            have hcvY0 := Lib.hid hslY
            have hslG14 := hsl11.later (Nat.le_refl _) hb1114
            have hslG := hslG14.later (Nat.le_refl _) ((Below.refl w14.heap.size w14).drew)
            obtain ⟨j0, hj0, _, _, _⟩ := info_parts infoByte
            have hE : ∀ w, (Op.equalIn 10000 26 (.agg X.toArray) (.agg X.toArray)).run Tryd.prog w = .ok true w := by
              intro w
              rw [HX.out, run_eq_bytes 26 32 j0 Tryd.underlying26 hj0 (shaL G) (shaL G) rfl rfl w]; simp
            have hG2 := Lib.hid (show G.length ≤ 35184372088832 by omega)
            have hH2 := Lib.hid (show H.length ≤ 35184372088832 by omega)
            have hwG : IntKind.u64.wrap (G.length : Int) = (G.length : Int) := by rw [IntKind.wrap_u64]; omega
            have hwH : IntKind.u64.wrap (H.length : Int) = (H.length : Int) := by rw [IntKind.wrap_u64]; omega
            have hbs := size_bstr H
            clear hw14 hd11 hd11c hd12 hd12c hb12 hb13 hb14 hbw12 hown11 hbw11 hb711 hb11 hb9 hb8 hd7 hd7c hs7 hsl11 hslX hslY hb7a hbq hbw7 hix hsum2 hyl
            go_wp2_with fail
            refine wp_region_noPanic ?_
            refine wp_region_held_drew (S := fun w' => Below w14.heap.size w14 w') (by kernel_rfl) ((Below.refl _ _).drew) (fun hHeld => ?_)
            have hAll := hHeld
            refine rtake 0 _ (some 71) _ rfl rfl (by kernel_rfl) (by kernel_rfl) (by kernel_rfl) (fun _ _ _ h => h) (by rfl) hHeld (by intro w hS; go_simp; try with_reducible rfl) ?_
            try (rw [put_some]; dsimp only [List.set])
            refine rtake 1 _ (some 72) _ rfl rfl (by kernel_rfl) (by kernel_rfl) (by kernel_rfl) (fun _ _ _ h => h) (by rfl) hHeld (by intro w hS; go_simp; try with_reducible rfl) ?_
            try (rw [put_some]; dsimp only [List.set])
            refine rtake 2 _ (some 73) _ rfl rfl (by kernel_rfl) (by kernel_rfl) (by kernel_rfl) (fun _ _ _ h => h) (by rfl) hHeld (by intro w hS; go_simp; try with_reducible rfl) ?_
            try (rw [put_some]; dsimp only [List.set])
            refine wpAnyH_ready (rs := [3]) (by kernel_rfl) (by simp) (AllReadyH.cons (o := _) rfl (fun K hK => ?_) AllReadyH.nil)
            go_simp
            refine (rof_any A11 G.length c11 G _ hslG rfl hG2.out).mono ?_; rintro e w15 ⟨v15, rfl, hown15, hb15⟩; obtain ⟨A15, c15, rfl, _, hsl15⟩ := Sl.of_own hown15; have hcv15 := conv_later hsl15 _ rfl; clear hown15
            try go_wp2_with fail
            refine hK.out _ _ (below_step hHeld hb15) (fun _ => ?_)
            clear hK K
            try (rw [put_some]; dsimp only [List.set])
            have hAll := below_step hAll hb15
            refine wpAnyH_narrow (S' := fun w' => Below w15.heap.size w15 w') (fun _ h => below_step (below_step hHeld hb15) h) _ _ _ _ ?_
            clear hHeld
            have hHeld : Below w15.heap.size w15 w15 := Below.refl _ _
            refine rtake 4 _ (some 75) _ rfl rfl (by kernel_rfl) (by kernel_rfl) (by kernel_rfl) (fun _ _ _ h => h) (by rfl) hHeld (by intro w hS; go_simp; try with_reducible rfl) ?_
            try (rw [put_some]; dsimp only [List.set])
            refine rtake 5 _ (some 76) _ rfl rfl (by kernel_rfl) (by kernel_rfl) (by kernel_rfl) (fun _ _ _ h => h) (by rfl) hHeld (by intro w hS; go_simp; try with_reducible rfl) ?_
            try (rw [put_some]; dsimp only [List.set])
            refine rtake 6 _ (some 77) _ rfl rfl (by kernel_rfl) (by kernel_rfl) (by kernel_rfl) (fun _ _ _ h => h) (by rfl) hHeld (by intro w hS; go_simp; try with_reducible rfl) ?_
            try (rw [put_some]; dsimp only [List.set])
            refine rtake 7 _ (some 78) _ rfl rfl (by kernel_rfl) (by kernel_rfl) (by kernel_rfl) (fun _ _ _ h => h) (by rfl) hHeld (by intro w hS; go_simp; try with_reducible rfl) ?_
            try (rw [put_some]; dsimp only [List.set])
            refine rtake 9 _ (some 80) _ rfl rfl (by kernel_rfl) (by kernel_rfl) (by kernel_rfl) (fun _ _ _ h => h) (by rfl) hHeld (by intro w hS; exact run_load_op 26 (.tmp 11) rfl w13.heap.size 0 rfl X _ (row_range ((rx.later hAll rx.lt).later hS (rx.later hAll rx.lt).lt)) Tryd.underlying26 rfl hszL.out) ?_
            try (rw [put_some]; dsimp only [List.set])
            refine wpAnyH_ready (rs := [8]) (by kernel_rfl) (by simp) (AllReadyH.cons (o := _) rfl (fun K hK => ?_) AllReadyH.nil)
            go_simp
            refine (hsum1.out w15 (hT.cu.later (hbw14.trans (hAll.mono hbw14.size)) (Nat.le_refl _)) (hd14.later hAll hd14.lt)).mono ?_; rintro e w16 ⟨rfl, hb16⟩
            try go_wp2_with fail
            refine hK.out _ _ (below_step hHeld hb16) (fun _ => ?_)
            clear hK K
            try (rw [put_some]; dsimp only [List.set])
            have hAll := below_step hAll hb16
            refine wpAnyH_narrow (S' := fun w' => Below w16.heap.size w16 w') (fun _ h => below_step (below_step hHeld hb16) h) _ _ _ _ ?_
            clear hHeld
            have hHeld : Below w16.heap.size w16 w16 := Below.refl _ _
            refine rtake 10 _ (some 81) _ rfl rfl (by kernel_rfl) (by kernel_rfl) (by kernel_rfl) (fun _ _ _ h => h) (by rfl) hHeld (by intro w hS; go_simp; try with_reducible rfl) ?_
            try (rw [put_some]; dsimp only [List.set])
            refine rtake 11 _ (some 82) _ rfl rfl (by kernel_rfl) (by kernel_rfl) (by kernel_rfl) (fun _ _ _ h => h) (by rfl) hHeld (by intro w hS; go_simp; try with_reducible rfl) ?_
            try (rw [put_some]; dsimp only [List.set])
            refine rtake 12 _ (some 83) _ rfl rfl (by kernel_rfl) (by kernel_rfl) (by kernel_rfl) (fun _ _ _ h => h) (by rfl) hHeld (by intro w hS; go_simp; try with_reducible rfl) ?_
            try (rw [put_some]; dsimp only [List.set])
            refine rtake 13 _ (some 84) _ rfl rfl (by kernel_rfl) (by kernel_rfl) (by kernel_rfl) (fun _ _ _ h => h) (by rfl) hHeld (by intro w hS; go_simp; try with_reducible rfl) ?_
            try (rw [put_some]; dsimp only [List.set])
            refine rtake 15 _ (some 86) _ rfl rfl (by kernel_rfl) (by kernel_rfl) (by kernel_rfl) (fun _ _ _ h => h) (by rfl) hHeld (by intro w hS; go_simp; try with_reducible rfl) ?_
            try (rw [put_some]; dsimp only [List.set])
            refine rtake 16 _ (some 87) _ rfl rfl (by kernel_rfl) (by kernel_rfl) (by kernel_rfl) (fun _ _ _ h => h) (by rfl) hHeld (by intro w hS; go_simp; try with_reducible rfl) ?_
            try (rw [put_some]; dsimp only [List.set])
            refine rtake 17 _ (some 88) _ rfl rfl (by kernel_rfl) (by kernel_rfl) (by kernel_rfl) (fun _ _ _ h => h) (by rfl) hHeld (by intro w hS; go_simp; try with_reducible rfl) ?_
            try (rw [put_some]; dsimp only [List.set])
            refine wpAnyH_ready (rs := [14]) (by kernel_rfl) (by simp) (AllReadyH.cons (o := _) rfl (fun K hK => ?_) AllReadyH.nil)
            go_simp
            refine (len_any g G _ (hd14.later hAll hd14.lt)).mono ?_; rintro e w' ⟨rfl, rfl⟩
            try go_wp2_with fail
            refine hK.out _ _ hHeld (fun _ => ?_)
            clear hK K
            try (rw [put_some]; dsimp only [List.set])
            refine rtake 18 _ (some 89) _ rfl rfl (by kernel_rfl) (by kernel_rfl) (by kernel_rfl) (fun _ _ _ h => h) (by rfl) hHeld (by intro w hS; go_simp; try with_reducible rfl) ?_
            try (rw [put_some]; dsimp only [List.set])
            refine rtake 19 _ (some 90) _ rfl rfl (by kernel_rfl) (by kernel_rfl) (by kernel_rfl) (fun _ _ _ h => h) (by rfl) hHeld (by intro w hS; go_simp; try with_reducible rfl) ?_
            try (rw [put_some]; dsimp only [List.set])
            refine rtake 20 _ (some 91) _ rfl rfl (by kernel_rfl) (by kernel_rfl) (by kernel_rfl) (fun _ _ _ h => h) (by rfl) hHeld (by intro w hS; go_simp; try with_reducible rfl) ?_
            try (rw [put_some]; dsimp only [List.set])
            refine rtake 21 _ (some 92) _ rfl rfl (by kernel_rfl) (by kernel_rfl) (by kernel_rfl) (fun _ _ _ h => h) (by rfl) hHeld (by intro w hS; go_simp; try with_reducible rfl) ?_
            try (rw [put_some]; dsimp only [List.set])
            have hcvY := conv_later (hcvY0.out.later (Nat.le_refl _) hAll) 32 rfl
            refine rtake 22 _ (some 93) _ rfl rfl (by kernel_rfl) (by kernel_rfl) (by kernel_rfl) (fun _ _ _ h => h) (by rfl) hHeld (by intro w hS; go_simp; try with_reducible rfl) ?_
            try (rw [put_some]; dsimp only [List.set])
            refine rtake 23 _ (some 94) _ rfl rfl (by kernel_rfl) (by kernel_rfl) (by kernel_rfl) (fun _ _ _ h => h) (by rfl) hHeld (by intro w hS; go_simp; try with_reducible rfl) ?_
            try (rw [put_some]; dsimp only [List.set])
            refine wpAnyH_ready (rs := [24]) (by kernel_rfl) (by simp) (AllReadyH.cons (o := _) rfl (fun K hK => ?_) AllReadyH.nil)
            refine step_conv_string (some 95) rfl (by rfl) (.tmp 94) rfl H rfl ?_; intro A17 c17 w17 hsl17 hb17
            refine hK.out _ _ (below_step hHeld hb17) (fun _ => ?_)
            clear hK K
            try (rw [put_some]; dsimp only [List.set])
            have hAll := below_step hAll hb17
            refine wpAnyH_narrow (S' := fun w' => Below w17.heap.size w17 w') (fun _ h => below_step (below_step hHeld hb17) h) _ _ _ _ ?_
            clear hHeld
            have hHeld : Below w17.heap.size w17 w17 := Below.refl _ _
            refine wpAnyH_ready (rs := [25]) (by kernel_rfl) (by simp) (AllReadyH.cons (o := _) rfl (fun K hK => ?_) AllReadyH.nil)
            go_simp
            refine (rof_any A17 H.length c17 H _ hsl17 rfl hH2.out).mono ?_; rintro e w18 ⟨v18, rfl, hown18, hb18⟩; obtain ⟨A18, c18, rfl, _, hsl18⟩ := Sl.of_own hown18; have hcv18 := conv_later hsl18 _ rfl; clear hown18
            try go_wp2_with fail
            refine hK.out _ _ (below_step hHeld hb18) (fun _ => ?_)
            clear hK K
            try (rw [put_some]; dsimp only [List.set])
            have hAll := below_step hAll hb18
            refine wpAnyH_narrow (S' := fun w' => Below w18.heap.size w18 w') (fun _ h => below_step (below_step hHeld hb18) h) _ _ _ _ ?_
            clear hHeld
            have hHeld : Below w18.heap.size w18 w18 := Below.refl _ _
            refine rtake 26 _ (some 97) _ rfl rfl (by kernel_rfl) (by kernel_rfl) (by kernel_rfl) (fun _ _ _ h => h) (by rfl) hHeld (by intro w hS; go_simp; try with_reducible rfl) ?_
            try (rw [put_some]; dsimp only [List.set])
            refine rtake 27 _ (some 98) _ rfl rfl (by kernel_rfl) (by kernel_rfl) (by kernel_rfl) (fun _ _ _ h => h) (by rfl) hHeld (by intro w hS; go_simp; try with_reducible rfl) ?_
            try (rw [put_some]; dsimp only [List.set])
            refine rtake 28 _ (some 99) _ rfl rfl (by kernel_rfl) (by kernel_rfl) (by kernel_rfl) (fun _ _ _ h => h) (by rfl) hHeld (by intro w hS; go_simp; try with_reducible rfl) ?_
            try (rw [put_some]; dsimp only [List.set])
            refine rtake 29 _ (some 100) _ rfl rfl (by kernel_rfl) (by kernel_rfl) (by kernel_rfl) (fun _ _ _ h => h) (by rfl) hHeld (by intro w hS; go_simp; try with_reducible rfl) ?_
            try (rw [put_some]; dsimp only [List.set])
            refine rtake 30 _ (some 101) _ rfl rfl (by kernel_rfl) (by kernel_rfl) (by kernel_rfl) (fun _ _ _ h => h) (by rfl) hHeld (by intro w hS; go_simp; try with_reducible rfl) ?_
            try (rw [put_some]; dsimp only [List.set])
            refine rtake 32 _ (some 103) _ rfl rfl (by kernel_rfl) (by kernel_rfl) (by kernel_rfl) (fun _ _ _ h => h) (by rfl) hHeld (by intro w hS; go_simp; try with_reducible rfl) ?_
            try (rw [put_some]; dsimp only [List.set])
            refine rtake 33 _ (some 104) _ rfl rfl (by kernel_rfl) (by kernel_rfl) (by kernel_rfl) (fun _ _ _ h => h) (by rfl) hHeld (by intro w hS; go_simp; try with_reducible rfl) ?_
            try (rw [put_some]; dsimp only [List.set])
            refine rtake 34 _ (some 105) _ rfl rfl (by kernel_rfl) (by kernel_rfl) (by kernel_rfl) (fun _ _ _ h => h) (by rfl) hHeld (by intro w hS; go_simp; try with_reducible rfl) ?_
            try (rw [put_some]; dsimp only [List.set])
            refine wpAnyH_ready (rs := [31]) (by kernel_rfl) (by simp) (AllReadyH.cons (o := _) rfl (fun K hK => ?_) AllReadyH.nil)
            go_simp
            refine (len_any gc H _ (hd14c.later hAll hd14c.lt)).mono ?_; rintro e w' ⟨rfl, rfl⟩
            try go_wp2_with fail
            refine hK.out _ _ hHeld (fun _ => ?_)
            clear hK K
            try (rw [put_some]; dsimp only [List.set])
            refine rtake 35 _ (some 106) _ rfl rfl (by kernel_rfl) (by kernel_rfl) (by kernel_rfl) (fun _ _ _ h => h) (by rfl) hHeld (by intro w hS; go_simp; try with_reducible rfl) ?_
            try (rw [put_some]; dsimp only [List.set])
            refine rtake 36 _ (some 107) _ rfl rfl (by kernel_rfl) (by kernel_rfl) (by kernel_rfl) (fun _ _ _ h => h) (by rfl) hHeld (by intro w hS; go_simp; try with_reducible rfl) ?_
            try (rw [put_some]; dsimp only [List.set])
            refine wpAnyH_done (by kernel_rfl) ?_ _
            refine NoPanic.normal ?_
            have hbw18 := hbw14.trans (hAll.mono hbw14.size)
            have hs18 := hslG14.later (Nat.le_refl _) hAll
            have hd18 := hd14.later hAll hd14.lt
            rw [HG.out, ← HS.out] at hs18 hd18
            have eGl : G.length = (flat (ps.take (k + 1))).length := by rw [HG.out, HS.out]
            have hF18 : (flat (ps.take (k + 1))).length ≤ 150 * (k + 1) := by rw [HS.out, List.length_append]; omega
            have EG := Lib.hid eGl
            clear eGl hAll hHeld hE hcvX hcvY hcv15 hcv18 hwG hwH hbs hsum1 hslG hsl15 hsl17 hsl18 hb15 hb16 hb17 hb18 rx ry
            go_wp2_with fail
            go_roundw
            case rel => exact ⟨k + 1, A11, c11, by omega, by go_num, by rw [EG.out], hs18, fun _ => hne11, hd18, hF18, hbw18⟩
            case measure => simp [intOf]; omega
    · go_wp2
      go_ret
      exact ⟨rfl, hb⟩
end Go.Proofs.YtcgnljjdoinepaaDoor
