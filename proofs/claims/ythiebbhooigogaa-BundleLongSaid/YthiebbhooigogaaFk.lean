/- LAYER 9: package field: Put, Get, All, Join. -/
import Derived.Test.YthiebbhooigogaaA9
import Derived.Test.YthiebbhooigogaaVk
import Derived.Lib.AppendStr
namespace Go.Proofs.Ythiebbhooigogaa
open Go Go.RowKit

/-- 'append' onto a slice with no spare room, nil let in: a new block. -/
theorem run_append_copy {P : Program} (w : World) (t ty e : TypeId) (i : TypeInfo) (z : Value) (k bytes : Nat) (ht : P.underlying t = some (.slice e)) (hi : P.info? e = some i) (hz : i.zero = some z)
    (hsize : i.size = k) (hk : 0 < k) (hby : i.bytes = bytes) (hzs : z.cells.size = k) (A0 : Option Addr) (n : Nat) (xs : List Value) (hxs : xs.length = n * k) (hsx : Sl w A0 (n * k) xs)
    (A : Option Addr) (m c : Nat) (news : List Value) (hm : news.length = m * k) (h0 : 0 < m) (hsl : Sl w A (c * k) news) (h1 : ∀ u ∈ news, u.oneCell' = true)
    (h63 : n + m ≤ maxLen) (hbytes : (n + m) * bytes ≤ 140737488355328) :
    ∃ v' w', (Builtin.append_ #[t, t] ty #[.slice A0 n n, .slice A m c]).run P w = .ok v' w' ∧ w'.ownsRow w.heap.size e k v' (n + m) (xs ++ news) ∧ Below w.heap.size w w' := by
  cases A0 with
  | none =>
    have hn : n = 0 := by
      rcases Nat.mul_eq_zero.1 (hsx.bare rfl) with h | h
      · exact h
      · omega
    subst hn
    obtain rfl : xs = [] := List.eq_nil_of_length_eq_zero (by omega)
    obtain ⟨v', w', hr, h2, h3⟩ := run_append_k (P := P) w w.heap.size t ty e i z k bytes ht hi hz hsize hk hby hzs (.slice none 0 0) 0 [] (World.ownsRow_nil w _ e k) A m c news hm hsl h1 h63 hbytes (Nat.le_refl _)
    exact ⟨v', w', hr, h2, below_of_grown h3⟩
  | some ad =>
    subst hsize hby
    obtain ⟨b', o', rfl, _, _⟩ := hsl.rd.get (i := 0) (by rw [hm]; exact Nat.mul_pos h0 hk)
    have hr := run_append_grow (P := P) (w := w) t ty e i z ht hi hz ad n n xs hxs hsx.rd.at_add ⟨b', o', none⟩ m c news hm hsl.rd.at_add (by omega) (by unfold maxLen at h63; omega) (growslice_fits (by omega) hbytes)
    have hge := grownCap_ge w (n + m) n e
    have hcm : grownCap w (n + m) n e ≤ maxLen := grownCap_le_maxLen w (n + m) n e h63
    have hlen : (xs ++ news).length = (n + m) * i.size := by rw [List.length_append, hxs, hm, Nat.add_mul]
    refine ⟨_, _, hr, ⟨hlen, .inr ⟨w.heap.size, _, _, rfl, Nat.le_refl _, heap_alloc_new w.drew _, hge, hcm, ?_, ?_⟩⟩, ((Below.refl _ w).drew).alloc (Nat.le_refl _) _⟩
    · simp only [Array.size_append, List.size_toArray, size_zeroCells, hzs, hxs, hm, ← Nat.add_mul]
      congr 1
      omega
    · simp only [Array.toList_append, List.append_assoc]
      rw [← List.append_assoc, ← hlen]
      exact List.take_left
theorem step_append_copy {P : Program} {w : World} {ops : Array Oper} {o : Oper} {a : Act} {K : Act → World → Prop} {Q : Exit → Act → World → Prop} {E : Prop} (dst : Option Tmp) (hdst : o.dst = dst) (hgd : Region.wanted o (yielded ops a.tmps) = true) (s x : Operand) (t : TypeId)
    (ho : o.op = .call { callee := .builtin .append, args := #[s, x], argTypes := #[t, t] })
    (e : TypeId) (i : TypeInfo) (z : Value) (k bytes : Nat) (ht : P.underlying t = some (.slice e)) (hi : P.info? e = some i) (hz : i.zero = some z)
    (hsize : i.size = k) (hk : 0 < k) (hby : i.bytes = bytes) (hzs : z.cells.size = k)
    (A0 : Option Addr) (n : Nat) (xs : List Value) (hs : a.eval s = .slice A0 n n) (hxs : xs.length = n * k) (hsx : Sl w A0 (n * k) xs)
    (A : Option Addr) (m c : Nat) (news : List Value) (hx : a.eval x = .slice A m c) (hm : news.length = m * k) (h0 : 0 < m) (hsl : Sl w A (c * k) news) (h1 : ∀ u ∈ news, u.oneCell' = true)
    (h63 : n + m ≤ maxLen) (hbytes : (n + m) * bytes ≤ 140737488355328)
    (h : ∀ v' w', w'.ownsRow w.heap.size e k v' (n + m) (xs ++ news) → Below w.heap.size w w' → K (a.put dst v') w') :
    if Region.wanted o (yielded ops a.tmps) = true then Oper.wp P o a w K Q else E := by
  subst hdst
  rw [if_pos hgd]
  obtain ⟨v', w', hrun, h2, h3⟩ := run_append_copy (P := P) w t o.type e i z k bytes ht hi hz hsize hk hby hzs A0 n xs hxs hsx A m c news hm h0 hsl h1 h63 hbytes
  unfold Oper.wp execOp
  simp only [ho, resolve, invoke, builtin, Sem.run_bind, Sem.run_pure, Result.andThen_ok, List.map_toArray, List.map_cons, List.map_nil, hs, hx, hrun]
  exact h v' w' h2 h3
theorem strCells_b (l : List UInt8) : Lib.strCells (bstr l) = byts l := by unfold Lib.strCells bstr byts; simp
/-- Results: a struct that lies in memory, and two slots. -/
theorem results_row_tmp2 {P : Program} {fn : Func} {p u u2 : Tmp} {ty : TypeId} (h : fn.results = #[.cell p ty, .tmp u, .tmp u2]) (tmps : Array Value) (w : World) (g : Nat) (t : TypeId) (cs : Array Value) (fr : Nat × Nat) (d : TypeDesc)
    (hp : tmps.getD p undef = .pointer (some ⟨g, 0, none⟩)) (hg : w.heap[g]? = some (.cells cs t fr))
    (hu : P.underlying ty = some d) (hd : (match d with | .struct _ | .array _ _ => true | _ => false) = true) (hi : (P.info? ty).map (·.size) = some cs.size) (v v2 : Value) (hv : tmps.getD u undef = v) (hv2 : tmps.getD u2 undef = v2) :
    (results fn tmps).run P w = .ok (.tuple #[.agg cs, v, v2]) w := by
  have e : (results fn tmps).run P w = ((asAddr (tmps.getD p undef)).run P w).andThen fun a w1 => ((loadVar ty a).run P w1).andThen fun q w2 => .ok (.tuple #[q, tmps.getD u undef, tmps.getD u2 undef]) w2 := by
    simp only [results, h]
    simp [Sem.run_bind, Result.andThen]
  rw [e, hp, hv, hv2]
  simp [asAddr, Result.andThen, run_loadVar_row w g t ty cs fr d hg hu hd hi]
theorem size_ff : (Try.prog.info? 55).map (·.size) = some 2 := by kernel_rfl
theorem index_ff (A : Option Addr) (b o n c k : Nat) (hA : A = some ⟨b, o, none⟩) (hk : k < n) (w : World) :
    (Instr.indexAt 57 (.slice A n c) (.int .i64 k)).run Try.prog w = .ok (.pointer (some ⟨b, o + k * 2, none⟩)) w := by
  subst hA
  have h : (k : Int) < (n : Int) := by omega
  go_simp
theorem info_ff : ∃ i, Try.prog.info? 55 = some i ∧ i.zero = some (.agg #[.int .u8 0, .string { data := #[] }]) ∧ i.size = 2 ∧ i.bytes = 24 := by
  have h : (Try.prog.info? 55).map (fun i => (i.zero, i.size, i.bytes)) = some (some (.agg #[.int .u8 0, .string { data := #[] }]), 2, 24) := by kernel_rfl
  cases hq : Try.prog.info? 55 with
  | none => rw [hq] at h; cases h
  | some i =>
    rw [hq] at h
    simp only [Option.map_some, Option.some.injEq, Prod.mk.injEq] at h
    exact ⟨i, rfl, h.1, h.2.1, h.2.2⟩
/-- A slice's beginning, with no spare room. -/
theorem cut3_run (A : Option Addr) (n c : Nat) (hn : n ≤ c) (hA : A = none → c = 0) (w : World) :
    (Instr.sliceAt 31 (.slice A n c) none (some (.int .i64 n)) (some (.int .i64 n))).run Try.prog w = .ok (.slice A n n) w := by
  have h : (n : Int) ≤ (c : Int) := by omega
  cases A with
  | none =>
    have hc := hA rfl
    subst hc
    obtain rfl : n = 0 := by omega
    clear h hn hA
    go_simp
  | some a =>
    clear hA hn
    go_simp
/-- A slice's beginning. -/
theorem cuthead_run (A : Option Addr) (n c m : Nat) (hm : m ≤ c) (hA : A = none → c = 0) (w : World) :
    (Instr.sliceAt 31 (.slice A n c) none (some (.int .u64 m)) none).run Try.prog w = .ok (.slice A m c) w := by
  have h : (m : Int) ≤ (c : Int) := by omega
  cases A with
  | none =>
    have hc := hA rfl
    subst hc
    obtain rfl : m = 0 := by omega
    clear h hm hA
    go_simp
  | some a =>
    clear hA hm
    go_simp
set_option maxRecDepth 20000 in
set_option maxHeartbeats 2000000 in
theorem fput_any (A : Option Addr) (n c : Nat) (l : List UInt8) (f : Fd) (hf : f.2.length ≤ 1000000) (w : World) (hs : Sl w A c (byts l)) (hn : n = l.length) (hl : l.length ≤ 1000000) :
    Calls Try.prog 34 #[.slice A n c, .agg (fdV f).toArray] w (GaveBytes (l ++ fieldL f) w) := by
  subst hn
  obtain ⟨x, s⟩ := f
  dsimp only at hf
  obtain ⟨i0, hi, hz0, hz1, hz2⟩ := info_parts infoByte
  have hlL := length_varL s.length
  obtain ⟨L, hL⟩ : ∃ L, L = varL s.length := ⟨_, rfl⟩
  rw [← hL] at hlL
  have hz := size_bstr s
  have hwz : IntKind.u64.wrap (s.length : Int) = (s.length : Int) := by rw [IntKind.wrap_u64]; omega
  have hvp := Lib.hid (show ∀ w1, Calls Try.prog 51 #[.slice none 0 0, .int .u64 s.length] w1 (GaveBytes L w1) by
    intro w1
    have h := vput_any none 0 0 [] s.length (by omega) w1 ⟨.inl rfl, Nat.le_refl _, fun _ => rfl⟩ rfl (by simp)
    rw [List.nil_append] at h
    rw [hL]
    exact h)
  have hF := Lib.hid (show l ++ fieldL (x, s) = (l ++ [x]) ++ L ++ s by rw [hL]; unfold fieldL; simp)
  have HLL := Lib.hid (show L.length = (byts L).length from (length_byts L).symm)
  have hroom := hs.room
  rw [length_byts] at hroom
  have hs1 : Sl w A (l.length * 1) (byts l) := by
    rw [Nat.mul_one]
    refine ⟨hs.rd, by rw [length_byts]; exact Nat.le_refl _, fun h => ?_⟩
    have := hs.bare h
    omega
  have hcut := cut3_run A l.length c hroom hs.bare
  have hl1 : (byts l).length = l.length * 1 := by rw [length_byts, Nat.mul_one]
  have n1 : l.length + 1 ≤ maxLen := by unfold maxLen; omega
  have n2 : (l.length + 1) * 1 ≤ 140737488355328 := by omega
  have m1 : l.length + 1 + L.length ≤ maxLen := by unfold maxLen; omega
  have m2 : (l.length + 1 + L.length) * 1 ≤ 140737488355328 := by omega
  have p1 : l.length + 1 + L.length + (bstr s).size ≤ maxLen := by rw [hz]; unfold maxLen; omega
  have p2 : l.length + 1 + L.length + (bstr s).size ≤ 140737488355328 := by rw [hz]; omega
  have tok1 : True := trivial
  have HL1 := Lib.hid hl1
  clear hL hlL hs hl1
  go_enter Try.func34, Try.ntmps34
  go_wp2_with fail
  generalize hw3 : World.alloc w _ = w3
  have hr : Row w3 w.heap.size 55 (fdV (x, s)) := by rw [← hw3]; exact Row.new w _ (fdV (x, s))
  have hb3 : Below w.heap.size w w3 := by rw [← hw3]; exact (Below.refl _ w).alloc (Nat.le_refl _) _
  have hs3 := hs1.later (Nat.le_refl _) hb3
  clear hw3 hs1
  have hcA : ∀ w', Below w3.heap.size w3 w' → w'.cell? ⟨w.heap.size, 0, none⟩ = some (.int .u8 (x.toNat : Int)) := fun w' h => by rw [(hr.later h hr.lt).cell]; rfl
  refine wp_region_noPanic ?_
  refine wp_region_held_drew (S := fun w' => Below w3.heap.size w3 w') (by kernel_rfl) ((Below.refl _ _).drew) (fun hHeld => ?_)
  have hB := hHeld
  refine rtake 0 _ (some 6) _ rfl rfl (by kernel_rfl) (by kernel_rfl) (by kernel_rfl) (fun _ _ _ h => h) (by rfl) hHeld (by intro w hS; go_simp; try with_reducible rfl) ?_
  try (first | (rw [put_some]; dsimp only [List.set]) | rw [put_none])
  refine rtake 1 _ (some 7) _ rfl rfl (by kernel_rfl) (by kernel_rfl) (by kernel_rfl) (fun _ _ _ h => h) (by rfl) hHeld (by intro w hS; go_simp; try with_reducible rfl) ?_
  try (first | (rw [put_some]; dsimp only [List.set]) | rw [put_none])
  refine rtake 2 _ (some 8) _ rfl rfl (by kernel_rfl) (by kernel_rfl) (by kernel_rfl) (fun _ _ _ h => h) (by rfl) hHeld (by intro w hS; go_simp; try with_reducible rfl) ?_
  try (first | (rw [put_some]; dsimp only [List.set]) | rw [put_none])
  refine rtake 3 _ (some 9) _ rfl rfl (by kernel_rfl) (by kernel_rfl) (by kernel_rfl) (fun _ _ _ h => h) (by rfl) hHeld (by intro w hS; go_simp; try with_reducible rfl) ?_
  try (first | (rw [put_some]; dsimp only [List.set]) | rw [put_none])
  refine rtake 4 _ (some 10) _ rfl rfl (by kernel_rfl) (by kernel_rfl) (by kernel_rfl) (fun _ _ _ h => h) (by rfl) hHeld (by intro w hS; go_simp; try with_reducible rfl) ?_
  try (first | (rw [put_some]; dsimp only [List.set]) | rw [put_none])
  refine rtake 5 _ (some 11) _ rfl rfl (by kernel_rfl) (by kernel_rfl) (by kernel_rfl) (fun _ _ _ h => h) (by rfl) hHeld (by intro w hS; go_simp; try with_reducible rfl) ?_
  try (first | (rw [put_some]; dsimp only [List.set]) | rw [put_none])
  refine rtake 6 _ (some 12) _ rfl rfl (by kernel_rfl) (by kernel_rfl) (by kernel_rfl) (fun _ _ _ h => h) (by rfl) hHeld (by intro w hS; go_simp; try with_reducible rfl) ?_
  try (first | (rw [put_some]; dsimp only [List.set]) | rw [put_none])
  refine rtake 7 _ (some 13) _ rfl rfl (by kernel_rfl) (by kernel_rfl) (by kernel_rfl) (fun _ _ _ h => h) (by rfl) hHeld (by intro w hS; go_simp; try with_reducible rfl) ?_
  try (first | (rw [put_some]; dsimp only [List.set]) | rw [put_none])
  refine wpAnyH_ready (rs := [8]) (by kernel_rfl) (by simp) (AllReadyH.cons (o := _) rfl (fun K hK => ?_) AllReadyH.nil)
  refine step_alloc (some 14) rfl (by rfl) (.slice (some ⟨w3.heap.size, 0, none⟩) 1 1) (.cells (byts [x]).toArray 5) (by go_simp; try rfl) ?_; intro ww38 hw hqw38; have hsl8 : Sl ww38 (some ⟨w3.heap.size, 0, none⟩) (1 * 1) (byts [x]) := (by rw [hw]; exact ⟨Rd.row (ys := []) (by rw [List.append_nil]; exact Row.new w3.drew 5 (byts [x])), Nat.le_refl _, fun h => by cases h⟩); clear hw
  refine hK.out _ _ (hHeld.trans (hqw38.mono hHeld.size)) (fun hHeld' => ?_)
  clear hK K
  try (first | (rw [put_some]; dsimp only [List.set]) | rw [put_none])
  have hB := below_step hB hqw38
  have hB8 : Below ww38.heap.size ww38 ww38 := Below.refl _ _
  refine wpAnyH_narrow (S' := fun w' => Below ww38.heap.size ww38 w') (fun _ h => (hHeld.trans (hqw38.mono hHeld.size)).trans (h.mono (hHeld.trans (hqw38.mono hHeld.size)).size)) _ _ _ _ ?_
  clear hHeld
  have hHeld : Below ww38.heap.size ww38 ww38 := Below.refl _ _
  refine wpAnyH_ready (rs := [9]) (by kernel_rfl) (by simp) (AllReadyH.cons (o := _) rfl (fun K hK => ?_) AllReadyH.nil)
  refine step_append_copy (some 15) rfl (by rfl) (.tmp 11) (.tmp 14) 31 rfl 5 i0 _ 1 1 Try.underlying31 hi hz0 hz1 (by omega) hz2 rfl A l.length (byts l) rfl HL1.out (hs3.later (Nat.le_refl _) hB) (some ⟨w3.heap.size, 0, none⟩) 1 1 (byts [x]) rfl rfl (by omega) (hsl8.later (Nat.le_refl _) hB8) (byts_one _) n1 n2 ?_; intro v9 ww39 hown9 hqw39; rw [← byts_append] at hown9; have hq9 := Lib.hid (show w3.heap.size ≤ ww38.heap.size from hB.size)
  refine hK.out _ _ (hHeld.trans (hqw39.mono hHeld.size)) (fun hHeld' => ?_)
  clear hK K
  try (first | (rw [put_some]; dsimp only [List.set]) | rw [put_none])
  have hB := below_step hB hqw39
  have hB8 := below_step hB8 hqw39
  have hB9 : Below ww39.heap.size ww39 ww39 := Below.refl _ _
  refine wpAnyH_narrow (S' := fun w' => Below ww39.heap.size ww39 w') (fun _ h => (hHeld.trans (hqw39.mono hHeld.size)).trans (h.mono (hHeld.trans (hqw39.mono hHeld.size)).size)) _ _ _ _ ?_
  clear hHeld
  have hHeld : Below ww39.heap.size ww39 ww39 := Below.refl _ _
  refine rtake 10 _ (some 5) _ rfl rfl (by kernel_rfl) (by kernel_rfl) (by kernel_rfl) (fun _ _ _ h => h) (by rfl) hHeld (by intro w hS; go_simp; try with_reducible rfl) ?_
  try (first | (rw [put_some]; dsimp only [List.set]) | rw [put_none])
  refine wpAnyH_done (by kernel_rfl) ?_ _
  refine NoPanic.normal ?_
  have hown9 := own_mono (own_later hown9 hB9 (Nat.le_refl _)) hq9.out
  have hbE := hb3.trans (hB.mono hb3.size)
  have r9 := hr.later hB hr.lt
  clear hHeld hsl8 hB8 hs3 hcut hcA
  have hcB : ww39.cell? ⟨w.heap.size, 1, none⟩ = some (.string (bstr s)) := by rw [r9.cell]; rfl
  go_wp2_with (first
    | (go_at_call 51; refine (hvp.out _).mono ?_; rintro e w5 ⟨v5, rfl, hown5, hb5⟩; obtain ⟨A5, c5, rfl, _, hsl5⟩ := Sl.of_own hown5; have hown9b := own_later hown9 hb5 (Nat.le_refl _); have hB5 := below_step hB hb5; clear hown5)
    | (at_builtin; have _t := tok1; refine wpList_append_sl rfl (.tmp 16) (.tmp 21) 31 rfl w3.heap.size 5 i0 _ 1 Try.underlying31 hi hz0 hz1 hz2 rfl _ (l.length + 1) (byts (l ++ [x])) rfl hown9b A5 L.length c5 (byts L) rfl HLL.out hsl5 (byts_one _) m1 m2 hB5.size ?_; intro v6 w6 hown6 hg6; have hB6 : Below w3.heap.size w3 w6 := hB5.grown hg6 hB5.size (fun k hk => (hown9b.lt k hk).1); have hcB6 : w6.cell? ⟨w.heap.size, 1, none⟩ = some (.string (bstr s)) := (by rw [(hr.later hB6 hr.lt).cell]; rfl); clear tok1 hg6 hown9b hsl5)
    | (at_builtin; refine Lib.wpList_append_own_string _ rfl (.tmp 23) (.tmp 25) 31 9 rfl w3.heap.size 5 i0 Try.underlying31 Try.underlying9 hi hz0 hz1 hz2 _ (l.length + 1 + L.length) (byts (l ++ [x]) ++ byts L) rfl hown6 (bstr s) rfl p1 p2 hB6.size ?_; intro v7 w7 hown7 hg7 _; have hB7 : Below w3.heap.size w3 w7 := hB6.grown hg7 hB6.size (fun k hk => (hown6.lt k hk).1)))
  go_ret
  refine ⟨_, rfl, ?_, hb3.trans (hB7.mono hb3.size)⟩
  have e1 : byts (l ++ [x]) ++ byts L ++ byts s = byts (l ++ [x] ++ L ++ s) := by simp only [byts_append]
  have e2 : l.length + 1 + L.length + s.length = (l ++ [x] ++ L ++ s).length := by simp only [List.length_append, List.length_cons, List.length_nil]
  rw [strCells_b, e1, hz, e2] at hown7
  rw [hF.out]
  exact own_mono hown7 hb3.size
set_option maxRecDepth 20000 in
set_option maxHeartbeats 2000000 in
theorem fget_any (A : Option Addr) (n c : Nat) (l : List UInt8) (w : World) (hs : Sl w A c (byts l)) (hn : n = l.length) (hl : l.length ≤ 1000000) :
    Calls Try.prog 55 #[.slice A n c] w fun e w' => e = .returned (.tuple #[.agg (fdV (getF l).1).toArray, .int .i64 (getF l).2, .bool (decide (0 < (getF l).2))]) ∧ Below w.heap.size w w' := by
  subst hn
  have hb0 := (Below.refl w.heap.size w).alloc (Nat.le_refl _) (.cells #[.int .u8 0, .string { data := #[] }] 55)
  have r0 : Row (w.alloc (.cells #[.int .u8 0, .string { data := #[] }] 55)) w.heap.size 55 [.int .u8 0, .string { data := #[] }] := Row.new w 55 [.int .u8 0, .string { data := #[] }]
  by_cases h1 : l.length = 0
  · have hG := Lib.hid (show getF l = ((0, []), 0) by unfold getF; rw [if_pos (by omega)])
    rw [h1]
    have R0 := Lib.hid (show (w.alloc (.cells #[.int .u8 0, .string { data := #[] }] 55)).heap[w.heap.size]? = some (.cells #[.int .u8 0, .string { data := #[] }] 55 (0, 0)) from r0)
    clear r0 hs hl h1
    go_enter Try.func55, Try.ntmps55
    go_wp2_with (with_reducible refine wpList_store_row rfl 55 (.tmp 2) (.tmp 11) rfl w.heap.size #[.int .u8 0, .string { data := #[] }] rfl rfl 55 _ R0.out (by kernel_rfl) (by rfl) (by kernel_rfl) ?_; refine Hid.out ?_)
    refine Lib.hid ?_
    generalize hw5 : World.setRow _ _ _ = w5
    obtain ⟨r5, hb5⟩ := row_new_set (xs := [.int .u8 0, .string { data := #[] }]) hw5
    have R5 := Lib.hid (show w5.heap[w.heap.size]? = some (.cells #[.int .u8 0, .string { data := #[] }] 55 (0, 0)) from r5)
    clear hw5 r5 R0
    go_wp2_with fail
    exact ⟨rfl, _, results_row_tmp2 rfl _ _ w.heap.size 55 _ (0, 0) _ rfl R5.out Try.underlying55 rfl (by kernel_rfl) _ _ rfl rfl, by rw [hG.out]; rfl, hb5⟩
  obtain ⟨b, o, rfl, _, _⟩ := hs.rd.get (i := 0) (by rw [length_byts]; omega)
  have hs0 := hs.later (Nat.le_refl _) hb0
  have hroom := hs.room
  rw [length_byts] at hroom
  obtain ⟨A1, -, hcut1, hsl1⟩ := cut_run (some ⟨b, o, none⟩) c l _ hs0 1 l.length (by omega) (Nat.le_refl _)
  replace hcut1 := fun w => hcut1 w rfl
  rw [show ((1 : Nat) : Int) = 1 from rfl] at hcut1
  rw [List.take_of_length_le (by rw [List.length_drop]; exact Nat.le_refl _)] at hsl1
  obtain ⟨G, hGq⟩ : ∃ G, G = getL (l.drop 1) := ⟨_, rfl⟩
  have hback := getL_back (l.drop 1)
  obtain ⟨g, k⟩ := G
  have hk10 : k ≤ 10 ∧ (k = 0 → g = 0) ∧ k ≤ l.length - 1 ∧ g < 18446744073709551616 := by
    rcases hback with h0 | ⟨p1, p2, p3, p4, _⟩
    · rw [← hGq] at h0
      injection h0 with e1 e2
      subst e1 e2
      omega
    · rw [← hGq] at p1 p2 p3 p4
      rw [List.length_drop] at p2
      dsimp only at p1 p2 p3 p4
      refine ⟨p3, fun hk => ?_, p2, p4⟩
      subst hk
      omega
  have hGd : getF l = if k = 0 ∨ l.length - 1 - k < g then ((0, []), 0) else ((l.getD 0 0, (l.drop (1 + k)).take g), 1 + k + g) := by
    unfold getF
    by_cases h2 : l.length < 2
    · rw [if_pos h2, if_pos (.inl (by omega))]
    · rw [if_neg h2, ← hGq]
  have hget := Lib.hid (show ∀ w1, Sl w1 A1 (c - 1) (byts (l.drop 1)) → Calls Try.prog 60 #[.slice A1 (l.length - 1) (c - 1)] w1 fun e w' => e = .returned (.tuple #[.int .u64 g, .int .i64 k]) ∧ Below w1.heap.size w1 w' by
    intro w1 h
    have h := vget_any A1 (l.length - 1) (c - 1) (l.drop 1) w1 h (by rw [List.length_drop]) (by rw [List.length_drop]; omega)
    rw [← hGq] at h
    exact h)
  clear hback hGq
  obtain ⟨A2, -, hcut2, hsl2⟩ := cut_run (some ⟨b, o, none⟩) c l _ hs (1 + k) l.length (by omega) (Nat.le_refl _)
  replace hcut2 := fun w => hcut2 w rfl
  rw [List.take_of_length_le (by rw [List.length_drop]; exact Nat.le_refl _)] at hsl2
  rw [show ((1 + k : Nat) : Int) = 1 + (k : Int) by omega] at hcut2
  obtain ⟨q2, hq2⟩ : ∃ q, q = l.length - (1 + k) := ⟨_, rfl⟩
  rw [← hq2] at hcut2
  have hwk : IntKind.i64.wrap (1 + (k : Int)) = 1 + (k : Int) := by rw [IntKind.wrap_i64]; omega
  have hkb : (k : Int) ≤ 10 := by omega
  obtain ⟨c2, hc2⟩ : ∃ q, q = c - (1 + k) := ⟨_, rfl⟩
  rw [← hc2] at hcut2 hsl2
  have hqc : q2 ≤ c2 := by omega
  have hq2l : (q2 : Int) ≤ 1000000 := by omega
  have hwq : IntKind.u64.wrap (q2 : Int) = (q2 : Int) := by rw [IntKind.wrap_u64]; omega
  have hlpos : ¬ (l.length : Int) = 0 := by omega
  have HC := Lib.hid hc2
  clear hc2
  by_cases hbad : k = 0 ∨ q2 < g
  · have hG := Lib.hid (hGd.trans (if_pos (by rcases hbad with h | h; exact .inl h; exact .inr (by omega))))
    clear hGd hs
    by_cases h0 : k = 0
    · have hk0 : ((k : Int) == 0) = true := by rw [h0]; rfl
      clear hk10 hbad hq2 h0
      go_enter Try.func55, Try.ntmps55
      go_wp2_with (first
        | (go_at_call 60; refine (hget.out _ hsl1).mono ?_; rintro e w3 ⟨rfl, hb3⟩; have hbw3 := hb0.trans (hb3.mono hb0.size); have r3 := r0.later hb3 r0.lt; have R3 := Lib.hid (show w3.heap[w.heap.size]? = some (.cells #[.int .u8 0, .string { data := #[] }] 55 (0, 0)) from r3))
        | (with_reducible refine wpList_store_row rfl 55 (.tmp 2) (.tmp 31) rfl w.heap.size #[.int .u8 0, .string { data := #[] }] rfl rfl 55 _ R3.out (by kernel_rfl) (by rfl) (by kernel_rfl) ?_; refine Hid.out ?_))
      refine Lib.hid ?_
      generalize hw5 : World.setRow _ _ _ = w5
      obtain ⟨r5, hg5⟩ := row_set (xs := [.int .u8 0, .string { data := #[] }]) r3 hw5
      have hb5 := hbw3.grown hg5 hbw3.size (fun k h => by cases h; exact Nat.le_refl _)
      have R5 := Lib.hid (show w5.heap[w.heap.size]? = some (.cells #[.int .u8 0, .string { data := #[] }] 55 (0, 0)) from r5)
      clear hw5 r5 hg5 R3 r3
      go_wp2_with fail
      exact ⟨rfl, _, results_row_tmp2 rfl _ _ w.heap.size 55 _ (0, 0) _ rfl R5.out Try.underlying55 rfl (by kernel_rfl) _ _ rfl rfl, by rw [hG.out]; rfl, hb5⟩
    · have hk0 : ((k : Int) == 0) = false := by rw [beq_eq_false_iff_ne]; omega
      have hb' : (q2 : Int) < (g : Int) := by omega
      clear hk10 hbad h0 hq2
      go_enter Try.func55, Try.ntmps55
      go_wp2_with (first
        | (go_at_call 60; refine (hget.out _ hsl1).mono ?_; rintro e w3 ⟨rfl, hb3⟩; have hbw3 := hb0.trans (hb3.mono hb0.size); have r3 := r0.later hb3 r0.lt; have R3 := Lib.hid (show w3.heap[w.heap.size]? = some (.cells #[.int .u8 0, .string { data := #[] }] 55 (0, 0)) from r3))
        | (with_reducible refine wpList_store_row rfl 55 (.tmp 2) (.tmp 31) rfl w.heap.size #[.int .u8 0, .string { data := #[] }] rfl rfl 55 _ R3.out (by kernel_rfl) (by rfl) (by kernel_rfl) ?_; refine Hid.out ?_))
      refine Lib.hid ?_
      generalize hw5 : World.setRow _ _ _ = w5
      obtain ⟨r5, hg5⟩ := row_set (xs := [.int .u8 0, .string { data := #[] }]) r3 hw5
      have hb5 := hbw3.grown hg5 hbw3.size (fun k h => by cases h; exact Nat.le_refl _)
      have R5 := Lib.hid (show w5.heap[w.heap.size]? = some (.cells #[.int .u8 0, .string { data := #[] }] 55 (0, 0)) from r5)
      clear hw5 r5 hg5 R3 r3
      go_wp2_with fail
      exact ⟨rfl, _, results_row_tmp2 rfl _ _ w.heap.size 55 _ (0, 0) _ rfl R5.out Try.underlying55 rfl (by kernel_rfl) _ _ rfl rfl, by rw [hG.out]; rfl, hb5⟩
  have hbad' : ¬ k = 0 ∧ g ≤ q2 := by omega
  have hG := Lib.hid (hGd.trans (if_neg (by omega)))
  have hb' : ¬ (q2 : Int) < (g : Int) := by omega
  have hb2' : (g : Int) ≤ (q2 : Int) := by omega
  have hk0 : ((k : Int) == 0) = false := by rw [beq_eq_false_iff_ne]; omega
  have hhead := fun w => cuthead_run A2 q2 c2 g (by omega) hsl2.bare w
  obtain ⟨T, hT⟩ : ∃ T, T = (l.drop (1 + k)).take g := ⟨_, rfl⟩
  have hsT : Sl w A2 c2 (byts T) := by
    rw [hT, show byts ((l.drop (1 + k)).take g) = (byts (l.drop (1 + k))).take g by unfold byts; rw [List.map_take]]
    exact hsl2.take
  have hTl : g = T.length := by rw [hT, List.length_take, List.length_drop]; omega
  obtain ⟨x, hx⟩ : ∃ x, x = l.getD 0 0 := ⟨_, rfl⟩
  rw [← hx, ← hT] at hG
  have hwg : IntKind.i64.wrap (g : Int) = (g : Int) := by rw [IntKind.wrap_i64]; omega
  have hgl : (g : Int) ≤ 1000000 := by omega
  have hwt : IntKind.i64.wrap (1 + (k : Int) + (g : Int)) = 1 + (k : Int) + (g : Int) := by rw [IntKind.wrap_i64]; omega
  have hpos : 0 < l.length := by omega
  have hcell : w.cell? ⟨b, o, none⟩ = some (.int .u8 (x.toNat : Int)) := by
    obtain ⟨b', o', he, _, hc⟩ := hs.rd.get (i := 0) (by rw [length_byts]; omega)
    cases he
    rw [Nat.add_zero] at hc
    rw [hc, get_byts _ _ (by omega), ← hx]
  have hix := index_bytes (some ⟨b, o, none⟩) b o l.length c 0 rfl hpos
  have hbl := sl_lt hs (by rw [length_byts]; omega)
  have HTl := Lib.hid hTl
  clear hx hTl hk10 hGd hbad hT hq2 hsl2
  have hone := Lib.hid (show ∀ v ∈ fdV (x, T), v.oneCell' = true from fun v hv => fdV_one [(x, T)] v (by simpa using hv))
  have hszl := Lib.hid (show (Try.prog.info? 55).map (·.size) = some (fdV (x, T)).length from size_ff)
  have hfit := Lib.hid (show 0 + (fdV (x, T)).length ≤ ([.int .u8 0, .string { data := #[] }] : List Value).length from Nat.le_refl _)
  go_enter Try.func55, Try.ntmps55
  go_wp2_with (go_at_call 60; refine (hget.out _ hsl1).mono ?_; rintro e w5 ⟨rfl, hb3⟩; have hbw5 := hb0.trans (hb3.mono hb0.size); have r3 := r0.later hb3 r0.lt)
  have hne : w.heap.size ≠ b := by omega
  have hcell5 : ∀ w', w5.grownBy w' (some w.heap.size) → w'.cell? ⟨b, o, none⟩ = some (.int .u8 (x.toNat : Int)) := fun w' h => by
    rw [h.cell_far _ (Nat.lt_of_lt_of_le hbl hbw5.size) (fun e => hne (by injection e with e; exact e.symm)), hbw5.cell (p := ⟨b, o, none⟩) hbl]
    exact hcell
  have hcv5 := conv_grown (g := w.heap.size) (hsT.later (Nat.le_refl _) hbw5) g HTl.out (fun h a ha => by have := hsT.block_lt (by rw [length_byts]; exact h) ha; omega)
  clear hget hs0 hsl1 hcell hs hsT r0 hb0
  refine wp_region_noPanic ?_
  refine wp_region_held_drew (S := fun w' => World.grownBy w5 w' (some (w.heap.size))) (by kernel_rfl) (grown_of_below (Below.refl _ _).drew _) (fun hHeld => ?_)
  have hAll := hHeld
  refine rtake 0 _ (some 32) _ rfl rfl (by kernel_rfl) (by kernel_rfl) (by kernel_rfl) (fun _ _ _ h => h) (by rfl) hHeld (by intro w hS; go_simp; try with_reducible rfl) ?_
  try (first | (rw [put_some]; dsimp only [List.set]) | rw [put_none])
  refine rtake 1 _ (some 33) _ rfl rfl (by kernel_rfl) (by kernel_rfl) (by kernel_rfl) (fun _ _ _ h => h) (by rfl) hHeld (by intro w hS; go_simp; try with_reducible rfl) ?_
  try (first | (rw [put_some]; dsimp only [List.set]) | rw [put_none])
  refine rtake 2 _ (some 34) _ rfl rfl (by kernel_rfl) (by kernel_rfl) (by kernel_rfl) (fun _ _ _ h => h) (by rfl) hHeld (by intro w hS; go_simp; try with_reducible rfl) ?_
  try (first | (rw [put_some]; dsimp only [List.set]) | rw [put_none])
  refine rtake 3 _ (some 35) _ rfl rfl (by kernel_rfl) (by kernel_rfl) (by kernel_rfl) (fun _ _ _ h => h) (by rfl) hHeld (by intro w hS; go_simp; try with_reducible rfl) ?_
  try (first | (rw [put_some]; dsimp only [List.set]) | rw [put_none])
  refine rtake 4 _ (some 36) _ rfl rfl (by kernel_rfl) (by kernel_rfl) (by kernel_rfl) (fun _ _ _ h => h) (by rfl) hHeld (by intro w hS; go_simp; try with_reducible rfl) ?_
  try (first | (rw [put_some]; dsimp only [List.set]) | rw [put_none])
  refine rtake 5 _ (some 37) _ rfl rfl (by kernel_rfl) (by kernel_rfl) (by kernel_rfl) (fun _ _ _ h => h) (by rfl) hHeld (by intro w hS; go_simp; try with_reducible rfl) ?_
  try (first | (rw [put_some]; dsimp only [List.set]) | rw [put_none])
  refine rtake 6 _ (some 38) _ rfl rfl (by kernel_rfl) (by kernel_rfl) (by kernel_rfl) (fun _ _ _ h => h) (by rfl) hHeld (by intro w hS; go_simp; try with_reducible rfl) ?_
  try (first | (rw [put_some]; dsimp only [List.set]) | rw [put_none])
  refine rtake 7 _ (some 39) _ rfl rfl (by kernel_rfl) (by kernel_rfl) (by kernel_rfl) (fun _ _ _ h => h) (by rfl) hHeld (by intro w hS; go_simp; try with_reducible rfl) ?_
  try (first | (rw [put_some]; dsimp only [List.set]) | rw [put_none])
  refine rtake 8 _ (some 40) _ rfl rfl (by kernel_rfl) (by kernel_rfl) (by kernel_rfl) (fun _ _ _ h => h) (by rfl) hHeld (by intro w hS; go_simp; try with_reducible rfl) ?_
  try (first | (rw [put_some]; dsimp only [List.set]) | rw [put_none])
  refine rtake 9 _ (some 41) _ rfl rfl (by kernel_rfl) (by kernel_rfl) (by kernel_rfl) (fun _ _ _ h => h) (by rfl) hHeld (by intro w hS; go_simp; try with_reducible rfl) ?_
  try (first | (rw [put_some]; dsimp only [List.set]) | rw [put_none])
  refine rtake 10 _ (some 42) _ rfl rfl (by kernel_rfl) (by kernel_rfl) (by kernel_rfl) (fun _ _ _ h => h) (by rfl) hHeld (by intro w hS; go_simp; try with_reducible rfl) ?_
  try (first | (rw [put_some]; dsimp only [List.set]) | rw [put_none])
  refine rtake 11 _ (some 43) _ rfl rfl (by kernel_rfl) (by kernel_rfl) (by kernel_rfl) (fun _ _ _ h => h) (by rfl) hHeld (by intro w hS; go_simp; try with_reducible rfl) ?_
  try (first | (rw [put_some]; dsimp only [List.set]) | rw [put_none])
  refine rtake 12 _ (some 44) _ rfl rfl (by kernel_rfl) (by kernel_rfl) (by kernel_rfl) (fun _ _ _ h => h) (by rfl) hHeld (by intro w hS; go_simp; try with_reducible rfl) ?_
  try (first | (rw [put_some]; dsimp only [List.set]) | rw [put_none])
  refine wpAnyH_ready (rs := [13]) (by kernel_rfl) (by simp) (AllReadyH.cons (o := _) rfl (fun K hK => ?_) AllReadyH.nil)
  refine step_store_row none rfl (by rfl) 55 (.tmp 2) (.tmp 39) rfl w.heap.size 0 55 _ (fdV (x, T)) rfl rfl (r3.drew) hfit.out hszl.out hone.out ?_; intro w9 r9 hg9
  refine hK.out _ _ (grown_trans hHeld hg9) (fun _ => ?_)
  clear hK K
  try (first | (rw [put_some]; dsimp only [List.set]) | rw [put_none])
  have hAll := grown_trans hAll hg9
  refine wpAnyH_narrow (S' := fun w' => World.grownBy w9 w' (some (w.heap.size))) (fun _ h => grown_trans (grown_trans hHeld hg9) h) _ _ _ _ ?_
  clear hHeld
  have hHeld : World.grownBy w9 w9 (some (w.heap.size)) := grown_refl _ _
  refine rtake 14 _ (some 3) _ rfl rfl (by kernel_rfl) (by kernel_rfl) (by kernel_rfl) (fun _ _ _ h => h) (by rfl) hHeld (by intro w hS; go_simp; try with_reducible rfl) ?_
  try (first | (rw [put_some]; dsimp only [List.set]) | rw [put_none])
  refine rtake 15 _ (some 4) _ rfl rfl (by kernel_rfl) (by kernel_rfl) (by kernel_rfl) (fun _ _ _ h => h) (by rfl) hHeld (by intro w hS; go_simp; try with_reducible rfl) ?_
  try (first | (rw [put_some]; dsimp only [List.set]) | rw [put_none])
  refine wpAnyH_done (by kernel_rfl) ?_ _
  refine NoPanic.normal ?_
  have r9 : Row w9 w.heap.size 55 (fdV (x, T)) := r9
  have hb9 := hbw5.grown hAll hbw5.size (fun k h => by cases h; exact Nat.le_refl _)
  have R9 := Lib.hid (show w9.heap[w.heap.size]? = some (.cells (fdV (x, T)).toArray 55 (0, 0)) from r9)
  clear hcell5 hcv5 r9 hg9 r3 hAll hHeld
  go_wp2_with fail
  exact ⟨rfl, _, results_row_tmp2 rfl _ _ w.heap.size 55 _ (0, 0) _ rfl R9.out Try.underlying55 rfl size_ff _ _ rfl rfl, by rw [hG.out, decide_eq_true (show 0 < 1 + k + g by omega)]; rfl, hb9⟩
set_option maxRecDepth 20000 in
set_option maxHeartbeats 2000000 in
theorem fall_any (A : Option Addr) (n c : Nat) (l : List UInt8) (w : World) (hs : Sl w A c (byts l)) (hn : n = l.length) (hl : l.length ≤ 1000000) :
    Calls Try.prog 37 #[.slice A n c] w fun e w' => ∃ A' c', e = .returned (.tuple #[.slice A' (allD l).length c', .bool (allF l).isSome]) ∧ Sl w' A' (c' * 2) ((allD l).flatMap fdV) ∧ Below w.heap.size w w' := by
  subst hn
  obtain ⟨i0, hi, hz0, hz1, hz2⟩ := info_ff
  have hown0 : w.ownsRow w.heap.size 55 2 (.slice none 0 0) 0 (([] : List Fd).flatMap fdV) := World.ownsRow_nil w _ _ _
  have hb0 := Below.refl w.heap.size w
  go_enter Try.func37, Try.ntmps37
  go_wp2_with fail
  go_loopw [0, 4] (fun sb v wr => ∃ (A0 : Option Addr) (n0 c0 p : Nat) (ds : List Fd), p ≤ l.length ∧ n0 = l.length - p ∧ ds.length ≤ p ∧ sb = .slice A0 n0 c0 ∧ Sl w A0 c0 (byts (l.drop p)) ∧ wr.ownsRow w.heap.size 55 2 v ds.length (ds.flatMap fdV) ∧ allF l = (allF (l.drop p)).map (ds ++ ·) ∧ Below w.heap.size w wr) (fun sb _ _ => match sb with | .slice _ n _ => n | _ => 0)
  case atStart => exact ⟨A, l.length, c, 0, [], by omega, by omega, Nat.le_refl _, rfl, hs, hown0, by simp, hb0⟩
  case round =>
    clear hown0 hb0 hs
    obtain ⟨A0, n0, c0, p, ds, hp, hn0, hdp, rfl, hsl, hown, hA, hb⟩ := hrel
    have hDl : n0 = (l.drop p).length := by rw [List.length_drop]; exact hn0
    have HDr := Lib.hid (fun m : Nat => List.drop_drop (l := l) (i := m) (j := p))
    have hLp := Lib.hid (show n0 + p = l.length by omega)
    obtain ⟨D, hD⟩ : ∃ D, D = l.drop p := ⟨_, rfl⟩
    rw [← hD] at hsl hA HDr hDl
    have HD := Lib.hid hD
    clear hD
    by_cases hlt : 0 < n0
    · have hlt' : (0 : Int) < (n0 : Int) := by omega
      have hn0b : n0 ≤ 1000000 := by omega
      have hsr := hsl.later (Nat.le_refl _) hb
      have hback := getF_back D
      have hne : D ≠ [] := List.ne_nil_of_length_pos (by omega)
      have hA0 := fun h => hA.trans (by rw [allF_none _ hne h])
      have hA1 := fun h => hA.trans (by rw [allF_step _ hne h])
      rw [← hDl] at hback
      obtain ⟨G, hGq⟩ : ∃ G, G = getF D := ⟨_, rfl⟩
      obtain ⟨⟨x, T⟩, m⟩ := G
      obtain ⟨V, hV⟩ : ∃ V, V = fdV (x, T) := ⟨_, rfl⟩
      have hget := Lib.hid (show Calls Try.prog 55 #[.slice A0 n0 c0] wr fun e w' => e = .returned (.tuple #[.agg V.toArray, .int .i64 m, .bool (decide (0 < m))]) ∧ Below wr.heap.size wr w' by
        have h := fget_any A0 n0 c0 D wr hsr hDl (by omega)
        rw [← hGq] at h
        rw [hV]
        exact h)
      rw [← hGq] at hback hA0 hA1
      dsimp only at hback hA0 hA1
      have HDl := Lib.hid hDl
      have HN0 := Lib.hid (show n0 = l.length - p from hn0)
      have Hp := Lib.hid hp
      have Hdp := Lib.hid hdp
      clear hGq hA hne hDl hn0 hsr hp
      have hone := Lib.hid (show V.toArray.all (·.oneCell') = true from all_one (fun v hv => fdV_one [(x, T)] v (by rw [hV] at hv; simpa using hv)))
      have hone2 := Lib.hid (show ∀ v ∈ V, v.oneCell' = true from fun v hv => fdV_one [(x, T)] v (by rw [hV] at hv; simpa using hv))
      have hszV := Lib.hid (show (Try.prog.info? 55).map (·.size) = some V.toArray.size by rw [hV]; exact size_ff)
      have hV2 := Lib.hid (show (2 : Nat) = V.toArray.size by rw [hV]; rfl)
      have HV := Lib.hid hV
      have HB := Lib.hid hback
      clear hV hback
      go_wp2_with (first
        | (go_at_call 55; refine hget.out.mono ?_; rintro e w5 ⟨rfl, hb5⟩; have hown5 := ownk_later hown hb5 (Nat.le_refl _); have hbw5 := hb.trans (hb5.mono hb.size))
        | (with_reducible refine wpList_store_row rfl 55 (.tmp 5) (.tmp 14) rfl w5.heap.size V.toArray rfl rfl 55 _ (heap_alloc_new w5 _) hszV.out (Eq.trans (by kernel_rfl) hV2.out) hone.out ?_; refine Hid.out ?_))
      refine Lib.hid ?_
      generalize hw6 : World.setRow _ _ _ = w6
      obtain ⟨r6, hb6⟩ := row_new_set (xs := V) hw6
      have R6 := Lib.hid (show w6.heap[w5.heap.size]? = some (.cells V.toArray 55 (0, 0)) from r6)
      have hown6 := ownk_later hown5 hb6 (Nat.le_refl _)
      have hbw6 := hbw5.trans (hb6.mono hbw5.size)
      clear hw6 r6 hb6 hown5 hown
      by_cases hm0 : m = 0
      · have hN := hA0 hm0
        have hq : decide (0 < m) = false := by rw [hm0]; rfl
        have HN := Lib.hid (show allF l = none from hN)
        clear hA0 hA1 hN hm0
        go_wp2
        go_ret2
        refine ⟨none, 0, ?_, ?_, hbw6⟩
        · unfold allD; rw [HN.out]; rfl
        · unfold allD; rw [HN.out]; exact ⟨.inl rfl, Nat.le_refl _, fun _ => rfl⟩
      · have hN := hA1 hm0
        have hq : decide (0 < m) = true := decide_eq_true (by omega)
        have HN := Lib.hid hN
        have hmb : 2 ≤ m ∧ m ≤ n0 := by
          rcases HB.out with h | ⟨h1, h2, _⟩
          · injection h with _ h; omega
          · exact ⟨h1, h2⟩
        obtain ⟨A1, -, hcut, hsl1⟩ := cut_run A0 c0 D w hsl m D.length (by have := HDl.out; omega) (Nat.le_refl _)
        replace hcut := fun w => hcut w rfl
        rw [List.take_of_length_le (by rw [List.length_drop]; exact Nat.le_refl _)] at hsl1
        rw [← HDl.out] at hcut
        obtain ⟨n3, hn3⟩ : ∃ q, q = n0 - m := ⟨_, rfl⟩
        obtain ⟨c3, hc3⟩ : ∃ q, q = c0 - m := ⟨_, rfl⟩
        rw [← hn3, ← hc3] at hcut
        rw [← hc3] at hsl1
        have n1 : ds.length + 1 ≤ maxLen := by have := Hp.out; have := Hdp.out; unfold maxLen; omega
        have n2 : (ds.length + 1) * 24 ≤ 140737488355328 := by have := Hp.out; have := Hdp.out; omega
        have hF := Lib.hid (show (ds ++ [(x, T)]).flatMap fdV = ds.flatMap fdV ++ [Value.int .u8 (x.toNat : Int), .string (bstr T)] by rw [List.flatMap_append]; rfl)
        have hV3 : V = [Value.int .u8 (x.toNat : Int), .string (bstr T)] := HV.out
        subst hV3
        have hs7 : Sl (w6.alloc (.cells #[Value.int .u8 (x.toNat : Int), .string (bstr T)] 55)) (some ⟨w6.heap.size, 0, none⟩) (1 * 2) [Value.int .u8 (x.toNat : Int), .string (bstr T)] := ⟨Rd.row (ys := []) (by rw [List.append_nil]; exact Row.new w6 _ [Value.int .u8 (x.toNat : Int), .string (bstr T)]), Nat.le_refl _, fun h => by cases h⟩
        have hown7 := ownk_later hown6 ((Below.refl w6.heap.size w6).alloc (Nat.le_refl _) (.cells #[Value.int .u8 (x.toNat : Int), .string (bstr T)] 55)) (Nat.le_refl _)
        have hb7 := hbw6.alloc hbw6.size (.cells #[Value.int .u8 (x.toNat : Int), .string (bstr T)] 55)
        have HM := Lib.hid (show n3 = n0 - m ∧ n3 < n0 ∧ 2 ≤ m ∧ m ≤ n0 from ⟨hn3, by omega, hmb⟩)
        have hmn : (m : Int) ≤ (n0 : Int) := by omega
        clear hA0 hA1 hN hm0 hget hone HB hown6 HV hn3 hc3 hmb
        go_wp2_with (first
          | (with_reducible refine wpList_load_row rfl 55 (.tmp 5) rfl w5.heap.size rfl 55 _ (0, 0) _ R6.out Try.underlying55 rfl hszV.out ?_)
          | (at_builtin; refine wpList_append_k rfl (.tmp 19) (.tmp 21) 57 rfl w.heap.size 55 i0 _ 2 24 Try.underlying57 hi hz0 hz1 (by omega) hz2 rfl _ ds.length (ds.flatMap fdV) rfl hown7 (some ⟨w6.heap.size, 0, none⟩) 1 1 [Value.int .u8 (x.toNat : Int), .string (bstr T)] rfl rfl hs7 hone2.out n1 n2 hb7.size ?_; intro v8 w8 hown8 hg8; have hb8 : Below w.heap.size w w8 := hb7.grown hg8 hb7.size (fun k hk => (hown7.lt k hk).1)))
        rw [← hF.out] at hown8
        go_roundw
        case rel =>
          have h1 := HM.out
          have h2 := HN0.out
          have h3 := Hp.out
          have h4 := Hdp.out
          refine ⟨A1, n3, c3, p + m, ds ++ [(x, T)], by omega, by omega, by rw [List.length_append]; simp; omega, rfl, ?_, ?_, ?_, hb8⟩
          · rw [← HDr.out]; exact hsl1
          · rw [List.length_append]; exact hown8
          · rw [HN.out, HDr.out, Option.map_map]
            congr 1
            funext q
            simp
        case measure => exact HM.out.2.1
    · have HN := Lib.hid (show allF l = some ds by
        have e : D = [] := List.eq_nil_of_length_eq_zero (by omega)
        rw [hA, e, allF_nil]; simp)
      obtain ⟨A', c', rfl, _, hslR⟩ := Sl.of_ownk hown
      have hlt' : ¬ (0 : Int) < (n0 : Int) := by omega
      clear hA hlt hown hn0 hDl hp hdp
      go_wp2
      go_ret2
      refine ⟨A', c', ?_, ?_, hb⟩
      · unfold allD; rw [HN.out]; rfl
      · unfold allD; rw [HN.out]; exact hslR
set_option maxRecDepth 20000 in
set_option maxHeartbeats 2000000 in
theorem fjoin_any (A : Option Addr) (n c : Nat) (fs : List Fd) (w : World) (hs : Sl w A (c * 2) (fs.flatMap fdV)) (hn : n = fs.length) (hm : (joinL fs).length ≤ 1000000) :
    Calls Try.prog 20 #[.slice A n c] w (GaveBytes (joinL fs) w) := by
  subst hn
  obtain ⟨i0, hi, hz0, hz1, hz2⟩ := info_parts infoByte
  have hln := joinL_len fs
  have hown0 : w.ownsRow w.heap.size 5 1 (.slice none 0 0) 0 [] := World.ownsRow_nil w _ _ _
  have hb0 := Below.refl w.heap.size w
  go_enter Try.func20, Try.ntmps20
  go_wp2_with fail
  go_loopw [3, 8] (fun v i wr => ∃ k : Nat, k ≤ fs.length ∧ i = .int .i64 k ∧ wr.ownsRow w.heap.size 5 1 v (joinL (fs.take k)).length (byts (joinL (fs.take k))) ∧ Below w.heap.size w wr) (fun _ i _ => fs.length - (intOf i).toNat)
  case atStart => exact ⟨0, by omega, rfl, hown0, hb0⟩
  case round =>
    clear hown0 hb0
    obtain ⟨k, hk, rfl, hown, hb⟩ := hrel
    by_cases hlt : k < fs.length
    · obtain ⟨f, hf⟩ : ∃ f, fs[k]? = some f := ⟨_, List.getElem?_eq_getElem hlt⟩
      obtain ⟨b, o, rfl, hb0, hr0⟩ := hs.rd.get (i := 0) (by rw [length_fdsV]; omega)
      clear hb0 hr0
      have hix := index_ff (some ⟨b, o, none⟩) b o fs.length c k rfl hlt
      have hrg := (hs.later (Nat.le_refl _) hb).thing (k := 2) (fun _ _ => rfl) k f hf
      have HS := Lib.hid (joinL_succ fs k f hf)
      have hjl : (joinL (fs.take (k + 1))).length ≤ (joinL fs).length := by
        have e : fs = fs.take (k + 1) ++ fs.drop (k + 1) := (List.take_append_drop (k + 1) fs).symm
        conv => rhs; rw [e]
        rw [joinL_append, List.length_append]; omega
      rw [HS.out, List.length_append] at hjl
      have hfl := length_fieldL f
      have hby := Lib.hid (show ∀ w1, Calls Try.prog 34 #[.slice none 0 0, .agg (fdV f).toArray] w1 (GaveBytes (fieldL f) w1) by
        intro w1
        have h := fput_any none 0 0 [] f (by omega) w1 ⟨.inl rfl, Nat.le_refl _, fun _ => rfl⟩ rfl (by simp)
        rw [List.nil_append] at h
        exact h)
      have hzf := Lib.hid (show (Try.prog.info? 55).map (·.size) = some (fdV f).length from size_ff)
      have hzf2 := Lib.hid (show (Try.prog.info? 55).map (·.size) = some (fdV f).toArray.size from size_ff)
      have hof := Lib.hid (show (fdV f).toArray.all (·.oneCell') = true from all_one (fun v hv => fdV_one [f] v (by simpa using hv)))
      obtain ⟨V, hV⟩ : ∃ V, V = fdV f := ⟨_, rfl⟩
      rw [← hV] at hrg hby hzf hzf2 hof
      have hV2 := Lib.hid (show (2 : Nat) = V.toArray.size by rw [hV]; rfl)
      clear hV
      generalize joinL (fs.take k) = F at *
      have n1 : F.length + (fieldL f).length ≤ maxLen := by unfold maxLen; omega
      have n2 : (F.length + (fieldL f).length) * 1 ≤ 140737488355328 := by omega
      generalize fieldL f = G at *
      have HG := Lib.hid (show G.length = (byts G).length from (length_byts G).symm)
      clear hfl hf
      go_wp2_with (first
        | (with_reducible refine wpList_load_mid rfl 55 (.tmp 10) rfl b (o + k * 2) rfl V _ hrg Try.underlying55 rfl hzf.out ?_)
        | (with_reducible refine wpList_store_row rfl 55 (.tmp 5) (.tmp 11) rfl wr.heap.size V.toArray rfl rfl 55 _ (heap_alloc_new wr _) hzf2.out (Eq.trans (by kernel_rfl) hV2.out) hof.out ?_; refine Hid.out ?_))
      refine Lib.hid ?_
      generalize hw5 : World.setRow _ _ _ = w5
      obtain ⟨r5, hb5⟩ := row_new_set (xs := V) hw5
      have R5 := Lib.hid (show w5.heap[wr.heap.size]? = some (.cells V.toArray 55 (0, 0)) from r5)
      have hown5 := own_later hown hb5 (Nat.le_refl _)
      have hbw5 := hb.trans (hb5.mono hb.size)
      clear hw5 r5 hb5 hown
      go_wp2_with (first
        | (with_reducible refine wpList_load_row rfl 55 (.tmp 5) rfl wr.heap.size rfl 55 V.toArray (0, 0) _ R5.out Try.underlying55 rfl hzf2.out ?_)
        | (go_at_call 34; refine (hby.out _).mono ?_; rintro e w6 ⟨v6, rfl, hown6, hb6⟩; obtain ⟨A6, c6, rfl, _, hsl6⟩ := Sl.of_own hown6; have hownF := own_later hown5 hb6 (Nat.le_refl _); have hbw6 := hbw5.trans (hb6.mono hbw5.size); clear hown6 hb6)
        | (at_builtin; refine wpList_append_sl rfl (.tmp 12) (.tmp 14) 31 rfl w.heap.size 5 i0 _ 1 Try.underlying31 hi hz0 hz1 hz2 rfl _ F.length (byts F) rfl hownF A6 G.length c6 (byts G) rfl HG.out hsl6 (byts_one _) n1 n2 hbw6.size ?_; intro v7 w7 hown7 hg7; have hbw7 : Below w.heap.size w w7 := hbw6.grown hg7 hbw6.size (fun k hk => (hownF.lt k hk).1)))
      rw [← byts_append, ← List.length_append, ← HS.out] at hown7
      go_roundw
      case rel => exact ⟨k + 1, by omega, by go_num, hown7, hbw7⟩
      case measure => simp [intOf]; omega
    · obtain rfl : k = fs.length := by omega
      rw [List.take_length] at hown
      clear hlt hk hs
      generalize fs.length = n at *
      go_wp2
      go_ret
      exact ⟨_, rfl, hown, hb⟩
end Go.Proofs.Ythiebbhooigogaa
