import Derived.Test.YtjieebmcbpdeiaaGreatDoorRaac
import Derived.Test.YtjieebmcbpdeiaaGreatDoorRaaa
namespace Go.Proofs.YtjieebmcbpdeiaaGreatDoor
set_option maxRecDepth 100000
open Go Go.RowKit
set_option maxHeartbeats 2000000 in
theorem rsplit_any (s : List UInt8) (x : UInt8) (hs : s.length ≤ 1000) (w : World) :
  Calls Tryz.prog 159 #[.string (bstr s), .int .u8 (x.toNat : Int)] w fun e w' => ∃ v, e = .returned v ∧ w'.ownsRow w.heap.size 9 1 v (splitL x s).length (strsV (splitL x s)) ∧ Below w.heap.size w w' := by
 obtain ⟨i0, hi, hz0, hz1, hz2⟩ := info_parts infoStr
 have hz := size_bstr s
 have hown0 : (w.alloc (.cells #[] 9)).ownsRow w.heap.size 9 1 (.slice (some ⟨w.heap.size, 0, none⟩) 0 0) 0 (strsV []) := World.ownsRow_lit w (e := 9) (size := 1) #[] 0 (Nat.le_refl _) (by unfold maxLen; omega) rfl
 have hb0 : Below w.heap.size w (w.alloc (.cells #[] 9)) := (Below.refl _ w).alloc (Nat.le_refl _) _
 go_enter Tryz.func159, Tryz.ntmps159
 go_wp2
 go_loopw [5, 6, 7] (fun v f i wr => ∃ (out : List (List UInt8)) (g k : Nat), k ≤ s.length + 1 ∧ g ≤ k ∧ i = .int .i64 k ∧ f = .int .i64 g ∧ wr.ownsRow w.heap.size 9 1 v out.length (strsV out) ∧ Below w.heap.size w wr ∧ out.length ≤ k ∧
   (k ≤ s.length ∧ out ++ splitL x (s.drop g) = splitL x s ∧ (∀ c ∈ (s.drop g).take (k - g), c ≠ x) ∨ k = s.length + 1 ∧ out = splitL x s)) (fun _ _ i _ => s.length + 1 - (intOf i).toNat)
 case atStart => exact ⟨[], 0, 0, by omega, by omega, rfl, rfl, hown0, hb0, by simp, .inl ⟨by omega, rfl, by simp⟩⟩
 case round =>
  clear hown0 hb0
  obtain ⟨out, g, k, hk, hg, rfl, rfl, hown, hb, hol, hcase⟩ := hrel
  by_cases hlt : k ≤ s.length
  ·obtain ⟨-, hsp, hno⟩ : k ≤ s.length ∧ out ++ splitL x (s.drop g) = splitL x s ∧ (∀ c ∈ (s.drop g).take (k - g), c ≠ x) := by
    rcases hcase with h | ⟨h, _⟩
    ·exact h
    ·omega
   have hlt' : (k : Int) ≤ (s.length : Int) := by omega
   have hg' : (g : Int) ≤ (k : Int) := by omega
   have hex := extract_bstr12 s g k
   have hbs := hb.size
   have n1 : out.length + 1 ≤ maxLen := by unfold maxLen; omega
   have n2 : (out.length + 1) * 16 ≤ 140737488355328 := by omega
   by_cases he : k = s.length
   ·have heb : ((k : Int) == (s.length : Int)) = true := by rw [he]; exact beq_self_eq_true _
    have HF := Lib.hid (show out ++ [(s.drop g).take (k - g)] = splitL x s by
     have e : (s.drop g).take (k - g) = s.drop g := by rw [List.take_of_length_le]; rw [List.length_drop]; omega
     rw [e] at hno ⊢
     rw [← hsp, splitL_end x _ hno])
    have HK := Lib.hid he
    generalize (s.drop g).take (k - g) = p at *
    clear hcase hsp hno he
    have hslp : Sl (wr.alloc (.cells #[.string (bstr p)] 9)) (some ⟨wr.heap.size, 0, none⟩) 1 (strsV [p]) := sl_made (strsV [p]) rfl 1 rfl
    have howna := hown.alloc (.cells #[.string (bstr p)] 9)
    have hbe := hb.alloc hb.size (.cells #[.string (bstr p)] 9)
    go_wp2_with (at_builtin; refine wpList_append_sl rfl (.tmp 26) (.tmp 31) 23 rfl w.heap.size 9 i0 _ 16 Tryz.underlying23 hi hz0 hz1 hz2 rfl _ out.length (strsV out) rfl howna (some ⟨wr.heap.size, 0, none⟩) 1 1 (strsV [p]) rfl rfl hslp (strsV_one _) n1 n2 hbe.size ?_; intro v3 w3 hown3 hg3; have hb3 := hbe.grown hg3 hbe.size (fun j hj => (howna.lt j hj).1); rw [← strsV_append] at hown3)
    go_roundw
    case rel => exact ⟨out ++ [p], k + 1, k + 1, by omega, by omega, by go_num, by go_num, by rw [List.length_append]; exact hown3, hb3, by rw [List.length_append]; simp; omega, .inr ⟨by rw [HK.out], HF.out⟩⟩
    case measure => simp [intOf]; omega
   ·have heb : ((k : Int) == (s.length : Int)) = false := by rw [beq_eq_false_iff_ne]; omega
    have hlt2 : k < s.length := by omega
    have hix := index_bstr s k hlt2
    by_cases hc : s.getD k 0 = x
    ·have e2 : splitL x (s.drop g) = (s.drop g).take (k - g) :: splitL x (s.drop (k + 1)) := by
      conv => lhs; rw [drop_piece s g k hg hlt2, hc]
      exact splitL_hit x _ _ hno
     have HF := Lib.hid (show (out ++ [(s.drop g).take (k - g)]) ++ splitL x (s.drop (k + 1)) = splitL x s by
      rw [← hsp, e2, List.append_assoc]; rfl)
     rw [hc] at hix
     generalize (s.drop g).take (k - g) = p at *
     clear hcase hsp hno hc e2
     have hslp : Sl (wr.alloc (.cells #[.string (bstr p)] 9)) (some ⟨wr.heap.size, 0, none⟩) 1 (strsV [p]) := sl_made (strsV [p]) rfl 1 rfl
     have howna := hown.alloc (.cells #[.string (bstr p)] 9)
     have hbe := hb.alloc hb.size (.cells #[.string (bstr p)] 9)
     go_wp2_with (at_builtin; refine wpList_append_sl rfl (.tmp 26) (.tmp 31) 23 rfl w.heap.size 9 i0 _ 16 Tryz.underlying23 hi hz0 hz1 hz2 rfl _ out.length (strsV out) rfl howna (some ⟨wr.heap.size, 0, none⟩) 1 1 (strsV [p]) rfl rfl hslp (strsV_one _) n1 n2 hbe.size ?_; intro v3 w3 hown3 hg3; have hb3 := hbe.grown hg3 hbe.size (fun j hj => (howna.lt j hj).1); rw [← strsV_append] at hown3)
     go_roundw
     case rel => exact ⟨out ++ [p], k + 1, k + 1, by omega, by omega, by go_num, by go_num, by rw [List.length_append]; exact hown3, hb3, by rw [List.length_append]; simp; omega, .inl ⟨by omega, HF.out, by simp⟩⟩
     case measure => simp [intOf]; omega
    ·have HN := Lib.hid (show ∀ c ∈ (s.drop g).take (k + 1 - g), c ≠ x by
      rw [take_piece s g k hg hlt2]
      intro c hcm
      rcases List.mem_append.1 hcm with h | h
      ·exact hno c h
      ·rw [List.mem_singleton.1 h]; exact hc)
     have HS := Lib.hid hsp
     have hxc : (((s.getD k 0).toNat : Int) == (x.toNat : Int)) = false := by
      rw [beq_eq_false_iff_ne]
      intro h
      exact hc (UInt8.toNat_inj.1 (by omega))
     generalize s.getD k 0 = y at *
     clear hcase hsp hno hc hex
     go_wp2
     go_roundw
     case rel => exact ⟨out, g, k + 1, by omega, by omega, by go_num, rfl, hown, hb, by omega, .inl ⟨by omega, HS.out, HN.out⟩⟩
     case measure => simp [intOf]; omega
  ·obtain rfl : k = s.length + 1 := by omega
   obtain rfl : out = splitL x s := by
    rcases hcase with ⟨h, _⟩ | ⟨_, h⟩
    ·omega
    ·exact h
   have hgt : (s.length : Int) < ((s.length + 1 : Nat) : Int) := by omega
   clear hcase
   go_wp2
   go_ret
   exact ⟨_, rfl, hown, hb⟩
def Begun (w : World) (base : Nat) (e : TypeId) (v : Value) (n : Nat) (xs : List Value) : Prop := ((∃ b, v = .slice (some b) 0 0) ∧ n = 0 ∧ xs = []) ∨ w.ownsRow base e 1 v n xs
theorem Begun.lit (w : World) (base : Nat) (e : TypeId) (b : Addr) : Begun w base e (.slice (some b) 0 0) 0 [] := .inl ⟨⟨b, rfl⟩, rfl, rfl⟩
theorem Begun.later {w w' : World} {base B n : Nat} {e : TypeId} {v : Value} {xs : List Value} (h : Begun w base e v n xs) (hb : Below B w w') (hB : w.heap.size ≤ B) : Begun w' base e v n xs := by
 rcases h with h | h
 ·exact .inl h
 ·exact .inr (own_later h hb hB)
theorem run_append_begun {P : Program} (w : World) (base : Nat) (t ty e : TypeId) (i : TypeInfo) (z : Value) (bytes : Nat) (ht : P.underlying t = some (.slice e)) (hi : P.info? e = some i) (hz : i.zero = some z)
  (hsize : i.size = 1) (hby : i.bytes = bytes) (hzs : z.cells.size = 1) (v : Value) (n : Nat) (xs : List Value) (hb : Begun w base e v n xs)
  (A : Option Addr) (m c : Nat) (news : List Value) (hm : m = news.length) (h0 : 0 < m) (hsl : Sl w A c news) (h1 : ∀ u ∈ news, u.oneCell' = true)
  (h63 : n + m ≤ maxLen) (hbytes : (n + m) * bytes ≤ 140737488355328) (hbase : base ≤ w.heap.size) :
  ∃ v' w', (Builtin.append_ #[t, t] ty #[v, .slice A m c]).run P w = .ok v' w' ∧ w'.ownsRow base e 1 v' (n + m) (xs ++ news) ∧ Below base w w' := by
 rcases hb with ⟨⟨b, rfl⟩, rfl, rfl⟩ | hown
 ·subst hm
  obtain ⟨v', w', hr, h2, h3⟩ := run_append_sl (P := P) w base t ty e i z bytes ht hi hz hsize hby hzs (.slice none 0 0) 0 [] (World.ownsRow_nil w base e 1) A news.length c news rfl hsl h1 h63 hbytes hbase
  refine ⟨v', w', ?_, h2, ⟨h3.os, h3.tape, h3.output, h3.size, fun k hk => h3.block k (by omega) (by simp [Value.ownBlock])⟩⟩
  obtain ⟨b', o', rfl, _, _⟩ := hsl.rd.get h0
  have hw63 : ((news.length : Nat) : Int) ≤ 9223372036854775807 := by unfold maxLen at h63; omega
  have e1 := run_append_nil (P := P) (w := w) t ty e i z ht hi hz ⟨b', o', none⟩ news.length c news (by rw [hsize, Nat.mul_one]) hsl.rd.at_add h0 hw63 (by rw [hby]; rw [Nat.zero_add] at hbytes; omega)
  have e2 := run_append_grow (P := P) (w := w) t ty e i z ht hi hz b 0 0 [] (by simp) (fun j v hv => by simp at hv) ⟨b', o', none⟩ news.length c news (by rw [hsize, Nat.mul_one]) hsl.rd.at_add (by omega) (by rw [Nat.zero_add]; exact hw63) (by rw [Nat.zero_add, nextslicecap_zero h0, hby]; rw [Nat.zero_add] at hbytes; omega)
  rw [e2, ← hr, e1]
  simp
 ·obtain ⟨v', w', hr, h2, h3⟩ := run_append_sl (P := P) w base t ty e i z bytes ht hi hz hsize hby hzs v n xs hown A m c news hm hsl h1 h63 hbytes hbase
  exact ⟨v', w', hr, h2, (Below.refl base w).grown h3 hbase (fun k hk => (hown.lt k hk).1)⟩
theorem wpList_append_begun {P : Program} {w : World} {ops : Array Oper} {rest : List Oper} {o : Oper} {a : Act} {Q : Exit → Act → World → Prop} (hgd : o.guard = none) (s x : Operand) (t : TypeId)
  (ho : o.op = .call { callee := .builtin .append, args := #[s, x], argTypes := #[t, t] })
  (base : Nat) (e : TypeId) (i : TypeInfo) (z : Value) (bytes : Nat) (ht : P.underlying t = some (.slice e)) (hi : P.info? e = some i) (hz : i.zero = some z)
  (hsize : i.size = 1) (hby : i.bytes = bytes) (hzs : z.cells.size = 1)
  (v : Value) (n : Nat) (xs : List Value) (hs : a.eval s = v) (hb : Begun w base e v n xs)
  (A : Option Addr) (m c : Nat) (news : List Value) (hx : a.eval x = .slice A m c) (hm : m = news.length) (h0 : 0 < m) (hsl : Sl w A c news) (h1 : ∀ u ∈ news, u.oneCell' = true)
  (h63 : n + m ≤ maxLen) (hbytes : (n + m) * bytes ≤ 140737488355328) (hbase : base ≤ w.heap.size)
  (h : ∀ v' w', w'.ownsRow base e 1 v' (n + m) (xs ++ news) → Below base w w' → wpList P ops Q rest (a.put o.dst v') w') : wpList P ops Q (o :: rest) a w := by
 refine wpList_plain hgd fun _ hK => ?_
 obtain ⟨v', w', hrun, h2, h3⟩ := run_append_begun (P := P) w base t o.type e i z bytes ht hi hz hsize hby hzs v n xs hb A m c news hm h0 hsl h1 h63 hbytes hbase
 unfold Oper.wp execOp
 simp only [ho, resolve, invoke, builtin, Sem.run_bind, Sem.run_pure, Result.andThen_ok, List.map_toArray, List.map_cons, List.map_nil, hs, hx, hrun]
 exact hK _ _ (h v' w' h2 h3)
theorem two_rows {w w1 : World} {A B : List Value} {tA tB : TypeId} (h : (w.alloc (.cells A.toArray tA)).alloc (.cells B.toArray tB) = w1) :
  Row w1 w.heap.size tA A ∧ Row w1 (w.heap.size + 1) tB B ∧ Below w.heap.size w w1 ∧ w1.heap.size = w.heap.size + 2 := by
 subst h
 have s1 : (w.alloc (.cells A.toArray tA)).heap.size = w.heap.size + 1 := World.size_alloc _ _
 exact ⟨heap_alloc2_old w _ _, heap_alloc2_new w _ _, ((Below.refl _ w).alloc (Nat.le_refl _) _).alloc (by omega) _, by rw [World.size_alloc, s1]⟩
def goL (b dg most : Nat) : List (List UInt8) → Option (List Nat)
 | [] => some []
 | p :: ps => match valueL b dg p with
  | none => none
  | some n => if most < n then none else (goL b dg most ps).map (n :: ·)
def numbersL (b dg most : Nat) (x : UInt8) (s : List UInt8) : Option (List Nat) := if s = [] then some [] else goL b dg most (splitL x s)
theorem goL_at (b dg most k : Nat) (ps : List (List UInt8)) (h : k < ps.length) : goL b dg most (ps.drop k) = match valueL b dg (ps.getD k []) with
  | none => none
  | some n => if most < n then none else (goL b dg most (ps.drop (k + 1))).map (n :: ·) := by
 rw [List.drop_eq_getElem_cons h, goL, List.getD_eq_getElem?_getD, List.getElem?_eq_getElem h]; rfl
def NumsV (o : Option (List Nat)) (base : Nat) (v : Value) (w : World) : Prop := match o with
 | none => v = .tuple #[.slice none 0 0, .bool false]
 | some l => ∃ u, v = .tuple #[u, .bool true] ∧ w.ownsRow base 3 1 u l.length (intsV l)
theorem NumsV.none {o : Option (List Nat)} {base : Nat} {w : World} (h : o = none) : NumsV o base (.tuple #[.slice none 0 0, .bool false]) w := by subst h; rfl
theorem NumsV.some {o : Option (List Nat)} {base : Nat} {w : World} {u : Value} {l : List Nat} (h : o = some l) (hu : w.ownsRow base 3 1 u l.length (intsV l)) : NumsV o base (.tuple #[u, .bool true]) w := by subst h; exact ⟨u, rfl, hu⟩
set_option maxHeartbeats 2000000 in
theorem rnumbers10_any (s : List UInt8) (hs : s.length ≤ 1000) (w : World) :
  Calls Tryz.prog 122 #[.string (bstr s), .int .u8 46, .int .i64 10, .int .i64 3, .int .i64 255] w fun e w' => ∃ v, e = .returned v ∧ NumsV (numbersL 10 3 255 46 s) w.heap.size v w' ∧ Below w.heap.size w w' := by
 obtain ⟨i0, hi, hz0, hz1, hz2⟩ := info_parts infoInt12
 have hown0 : (w.alloc (.cells #[] 3)).ownsRow w.heap.size 3 1 (.slice (some ⟨w.heap.size, 0, none⟩) 0 0) 0 (intsV []) := World.ownsRow_lit w (e := 3) (size := 1) #[] 0 (Nat.le_refl _) (by unfold maxLen; omega) rfl
 have hb0 : Below w.heap.size w (w.alloc (.cells #[] 3)) := (Below.refl _ w).alloc (Nat.le_refl _) _
 by_cases h0 : s = []
 ·subst h0
  have hne : (bstr []).toList.isEmpty = true := by rw [bstr_toList]; rfl
  generalize bstr [] = S at *
  go_enter Tryz.func122, Tryz.ntmps122
  go_wp2
  go_ret2
  exact ⟨_, rfl, NumsV.some rfl hown0, hb0⟩
 ·have HN := Lib.hid (show numbersL 10 3 255 46 s = goL 10 3 255 (splitL 46 s) by unfold numbersL; rw [if_neg h0])
  have hne : (bstr s).toList.isEmpty = false := by
   rw [bstr_toList]
   cases s with
   | nil => exact absurd rfl h0
   | cons _ _ => rfl
  have hsp := Lib.hid (fun w' => rsplit_any s 46 hs w')
  have hpl := splitL_len 46 s
  have hp0 : 0 < (splitL 46 s).length := List.length_pos_iff.2 (splitL_ne _ _)
  generalize splitL 46 s = ps at *
  generalize bstr s = S at *
  go_enter Tryz.func122, Tryz.ntmps122
  go_wp2_with (go_at_call 159; refine (hsp.out _).mono ?_; rintro e w2 ⟨vp, rfl, hownp, hb2⟩; obtain ⟨A, c, rfl, -, hsl⟩ := Sl.of_own hownp; have hb2 := hb0.trans (hb2.mono hb0.size); clear hownp hown0 hb0)
  go_loopw [12, 24] (fun v i wr => ∃ (k : Nat) (ns : List Nat), k ≤ ps.length ∧ i = .int .i64 k ∧ Begun wr w2.heap.size 3 v k (intsV ns) ∧ ns.length = k ∧ goL 10 3 255 ps = (goL 10 3 255 (ps.drop k)).map (ns ++ ·) ∧ Below w2.heap.size w2 wr) (fun _ i _ => ps.length - (intOf i).toNat)
  case atStart => exact ⟨0, [], by omega, rfl, Begun.lit _ _ _ _, rfl, by rw [List.drop_zero]; simp, Below.refl _ _⟩
  case round =>
   obtain ⟨k, ns, hk, rfl, hbg, hnl, hgo, hbr⟩ := hrel
   by_cases hlt : k < ps.length
   ·have hlt' : (k : Int) < (ps.length : Int) := by omega
    obtain ⟨b, o, hA, -, -⟩ := hsl.rd.get (i := k) (by rw [length_strsV]; exact hlt)
    have hix := index_strs A b o ps.length c k hA hlt
    have hce := strs_cell (by rw [hA] at hsl; exact hsl.later (Nat.le_refl _) hbr) k hlt
    have HG := Lib.hid hgo
    have HA := Lib.hid (goL_at 10 3 255 k ps hlt)
    have hv := Lib.hid (fun w' => rvalue10_any (ps.getD k []) 3 (by omega) w')
    generalize ps.getD k [] = p at *
    clear hA
    cases hval : valueL 10 3 p with
    | none =>
     have HR := Lib.hid (show numbersL 10 3 255 46 s = none by rw [HN.out, HG.out, HA.out, hval]; rfl)
     rw [hval, show optI none = -1 from rfl] at hv
     clear hgo HG HA hbg hval
     go_wp2_with (go_at_call 160; refine (hv.out _).mono ?_; rintro e w3 ⟨rfl, hb3⟩)
     go_ret2
     exact ⟨_, rfl, NumsV.none HR.out, (hb2.trans (hbr.mono hb2.size)).trans (hb3.mono (hb2.trans (hbr.mono hb2.size)).size)⟩
    | some n =>
     rw [hval, show optI (some n) = (n : Int) from rfl] at hv
     by_cases hm : 255 < n
     ·have HR := Lib.hid (show numbersL 10 3 255 46 s = none by rw [HN.out, HG.out, HA.out, hval]; simp [hm])
      have hm' : (255 : Int) < (n : Int) := by omega
      clear hgo HG HA hbg hval hm
      go_wp2_with (go_at_call 160; refine (hv.out _).mono ?_; rintro e w3 ⟨rfl, hb3⟩)
      go_ret2
      exact ⟨_, rfl, NumsV.none HR.out, (hb2.trans (hbr.mono hb2.size)).trans (hb3.mono (hb2.trans (hbr.mono hb2.size)).size)⟩
     ·have HG2 := Lib.hid (show goL 10 3 255 ps = (goL 10 3 255 (ps.drop (k + 1))).map ((ns ++ [n]) ++ ·) by
       rw [HG.out, HA.out, hval]
       simp only [if_neg hm, Option.map_map]
       congr 1
       funext t
       simp)
      have hm' : (n : Int) ≤ (255 : Int) := by omega
      have hmw : IntKind.i64.wrap (n : Int) = (n : Int) := by rw [IntKind.wrap_i64]; omega
      have n1 : k + 1 ≤ maxLen := by unfold maxLen; omega
      have n2 : (k + 1) * 8 ≤ 140737488355328 := by omega
      clear hgo HG HA hval hm
      go_wp2_with (first
       | (go_at_call 160; refine (hv.out _).mono ?_; rintro e w3 ⟨rfl, hb3⟩; have hbg3 := hbg.later hb3 (Nat.le_refl _); have hb3 := hbr.trans (hb3.mono hbr.size); have hsl4 : Sl (w3.alloc (.cells #[.int .i64 (n : Int)] 3)) (some ⟨w3.heap.size, 0, none⟩) 1 (intsV [n]) := sl_made (intsV [n]) rfl 1 rfl; have hbg4 := hbg3.later ((Below.refl w3.heap.size w3).alloc (Nat.le_refl _) (.cells #[.int .i64 (n : Int)] 3)) (Nat.le_refl _); have hb4 := hb3.alloc hb3.size (.cells #[.int .i64 (n : Int)] 3))
       | (at_builtin; refine wpList_append_begun rfl (.tmp 39) (.tmp 41) 134 rfl w2.heap.size 3 i0 _ 8 Tryz.underlying134 hi hz0 hz1 hz2 rfl _ k (intsV ns) rfl hbg4 (some ⟨w3.heap.size, 0, none⟩) 1 1 (intsV [n]) rfl rfl (by decide) hsl4 (intsV_one _) n1 n2 hb4.size ?_; intro v5 w5 hown5 hb5; rw [← intsV_append] at hown5))
      go_roundw
      case rel => exact ⟨k + 1, ns ++ [n], by omega, by go_num, .inr hown5, by rw [List.length_append, hnl]; rfl, HG2.out, hb4.trans hb5⟩
      case measure => simp [intOf]; omega
   ·obtain rfl : k = ps.length := by omega
    have HR := Lib.hid (show numbersL 10 3 255 46 s = some ns by rw [HN.out, hgo, List.drop_length]; simp [goL])
    have hown := (show ∀ v, Begun wr w2.heap.size 3 v ps.length (intsV ns) → wr.ownsRow w.heap.size 3 1 v ns.length (intsV ns) from fun v hbg => by
     rcases hbg with ⟨_, h, _⟩ | h
     ·omega
     ·rw [hnl]; exact own_mono h hb2.size) _ hbg
    clear hbg hgo
    go_wp2
    go_ret2
    exact ⟨_, rfl, NumsV.some HR.out hown, hb2.trans (hbr.mono hb2.size)⟩
set_option maxHeartbeats 2000000 in
theorem rnumbers16_any (s : List UInt8) (hs : s.length ≤ 1000) (w : World) :
  Calls Tryz.prog 122 #[.string (bstr s), .int .u8 58, .int .i64 16, .int .i64 4, .int .i64 65535] w fun e w' => ∃ v, e = .returned v ∧ NumsV (numbersL 16 4 65535 58 s) w.heap.size v w' ∧ Below w.heap.size w w' := by
 obtain ⟨i0, hi, hz0, hz1, hz2⟩ := info_parts infoInt12
 have hown0 : (w.alloc (.cells #[] 3)).ownsRow w.heap.size 3 1 (.slice (some ⟨w.heap.size, 0, none⟩) 0 0) 0 (intsV []) := World.ownsRow_lit w (e := 3) (size := 1) #[] 0 (Nat.le_refl _) (by unfold maxLen; omega) rfl
 have hb0 : Below w.heap.size w (w.alloc (.cells #[] 3)) := (Below.refl _ w).alloc (Nat.le_refl _) _
 by_cases h0 : s = []
 ·subst h0
  have hne : (bstr []).toList.isEmpty = true := by rw [bstr_toList]; rfl
  generalize bstr [] = S at *
  go_enter Tryz.func122, Tryz.ntmps122
  go_wp2
  go_ret2
  exact ⟨_, rfl, NumsV.some rfl hown0, hb0⟩
 ·have HN := Lib.hid (show numbersL 16 4 65535 58 s = goL 16 4 65535 (splitL 58 s) by unfold numbersL; rw [if_neg h0])
  have hne : (bstr s).toList.isEmpty = false := by
   rw [bstr_toList]
   cases s with
   | nil => exact absurd rfl h0
   | cons _ _ => rfl
  have hsp := Lib.hid (fun w' => rsplit_any s 58 hs w')
  have hpl := splitL_len 58 s
  have hp0 : 0 < (splitL 58 s).length := List.length_pos_iff.2 (splitL_ne _ _)
  generalize splitL 58 s = ps at *
  generalize bstr s = S at *
  go_enter Tryz.func122, Tryz.ntmps122
  go_wp2_with (go_at_call 159; refine (hsp.out _).mono ?_; rintro e w2 ⟨vp, rfl, hownp, hb2⟩; obtain ⟨A, c, rfl, -, hsl⟩ := Sl.of_own hownp; have hb2 := hb0.trans (hb2.mono hb0.size); clear hownp hown0 hb0)
  go_loopw [12, 24] (fun v i wr => ∃ (k : Nat) (ns : List Nat), k ≤ ps.length ∧ i = .int .i64 k ∧ Begun wr w2.heap.size 3 v k (intsV ns) ∧ ns.length = k ∧ goL 16 4 65535 ps = (goL 16 4 65535 (ps.drop k)).map (ns ++ ·) ∧ Below w2.heap.size w2 wr) (fun _ i _ => ps.length - (intOf i).toNat)
  case atStart => exact ⟨0, [], by omega, rfl, Begun.lit _ _ _ _, rfl, by rw [List.drop_zero]; simp, Below.refl _ _⟩
  case round =>
   obtain ⟨k, ns, hk, rfl, hbg, hnl, hgo, hbr⟩ := hrel
   by_cases hlt : k < ps.length
   ·have hlt' : (k : Int) < (ps.length : Int) := by omega
    obtain ⟨b, o, hA, -, -⟩ := hsl.rd.get (i := k) (by rw [length_strsV]; exact hlt)
    have hix := index_strs A b o ps.length c k hA hlt
    have hce := strs_cell (by rw [hA] at hsl; exact hsl.later (Nat.le_refl _) hbr) k hlt
    have HG := Lib.hid hgo
    have HA := Lib.hid (goL_at 16 4 65535 k ps hlt)
    have hv := Lib.hid (fun w' => rvalue16_any (ps.getD k []) 4 (by omega) w')
    generalize ps.getD k [] = p at *
    clear hA
    cases hval : valueL 16 4 p with
    | none =>
     have HR := Lib.hid (show numbersL 16 4 65535 58 s = none by rw [HN.out, HG.out, HA.out, hval]; rfl)
     rw [hval, show optI none = -1 from rfl] at hv
     clear hgo HG HA hbg hval
     go_wp2_with (go_at_call 160; refine (hv.out _).mono ?_; rintro e w3 ⟨rfl, hb3⟩)
     go_ret2
     exact ⟨_, rfl, NumsV.none HR.out, (hb2.trans (hbr.mono hb2.size)).trans (hb3.mono (hb2.trans (hbr.mono hb2.size)).size)⟩
    | some n =>
     rw [hval, show optI (some n) = (n : Int) from rfl] at hv
     by_cases hm : 65535 < n
     ·have HR := Lib.hid (show numbersL 16 4 65535 58 s = none by rw [HN.out, HG.out, HA.out, hval]; simp [hm])
      have hm' : (65535 : Int) < (n : Int) := by omega
      clear hgo HG HA hbg hval hm
      go_wp2_with (go_at_call 160; refine (hv.out _).mono ?_; rintro e w3 ⟨rfl, hb3⟩)
      go_ret2
      exact ⟨_, rfl, NumsV.none HR.out, (hb2.trans (hbr.mono hb2.size)).trans (hb3.mono (hb2.trans (hbr.mono hb2.size)).size)⟩
     ·have HG2 := Lib.hid (show goL 16 4 65535 ps = (goL 16 4 65535 (ps.drop (k + 1))).map ((ns ++ [n]) ++ ·) by
       rw [HG.out, HA.out, hval]
       simp only [if_neg hm, Option.map_map]
       congr 1
       funext t
       simp)
      have hm' : (n : Int) ≤ (65535 : Int) := by omega
      have hmw : IntKind.i64.wrap (n : Int) = (n : Int) := by rw [IntKind.wrap_i64]; omega
      have n1 : k + 1 ≤ maxLen := by unfold maxLen; omega
      have n2 : (k + 1) * 8 ≤ 140737488355328 := by omega
      clear hgo HG HA hval hm
      go_wp2_with (first
       | (go_at_call 160; refine (hv.out _).mono ?_; rintro e w3 ⟨rfl, hb3⟩; have hbg3 := hbg.later hb3 (Nat.le_refl _); have hb3 := hbr.trans (hb3.mono hbr.size); have hsl4 : Sl (w3.alloc (.cells #[.int .i64 (n : Int)] 3)) (some ⟨w3.heap.size, 0, none⟩) 1 (intsV [n]) := sl_made (intsV [n]) rfl 1 rfl; have hbg4 := hbg3.later ((Below.refl w3.heap.size w3).alloc (Nat.le_refl _) (.cells #[.int .i64 (n : Int)] 3)) (Nat.le_refl _); have hb4 := hb3.alloc hb3.size (.cells #[.int .i64 (n : Int)] 3))
       | (at_builtin; refine wpList_append_begun rfl (.tmp 39) (.tmp 41) 134 rfl w2.heap.size 3 i0 _ 8 Tryz.underlying134 hi hz0 hz1 hz2 rfl _ k (intsV ns) rfl hbg4 (some ⟨w3.heap.size, 0, none⟩) 1 1 (intsV [n]) rfl rfl (by decide) hsl4 (intsV_one _) n1 n2 hb4.size ?_; intro v5 w5 hown5 hb5; rw [← intsV_append] at hown5))
      go_roundw
      case rel => exact ⟨k + 1, ns ++ [n], by omega, by go_num, .inr hown5, by rw [List.length_append, hnl]; rfl, HG2.out, hb4.trans hb5⟩
      case measure => simp [intOf]; omega
   ·obtain rfl : k = ps.length := by omega
    have HR := Lib.hid (show numbersL 16 4 65535 58 s = some ns by rw [HN.out, hgo, List.drop_length]; simp [goL])
    have hown := (show ∀ v, Begun wr w2.heap.size 3 v ps.length (intsV ns) → wr.ownsRow w.heap.size 3 1 v ns.length (intsV ns) from fun v hbg => by
     rcases hbg with ⟨_, h, _⟩ | h
     ·omega
     ·rw [hnl]; exact own_mono h hb2.size) _ hbg
    clear hbg hgo
    go_wp2
    go_ret2
    exact ⟨_, rfl, NumsV.some HR.out hown, hb2.trans (hbr.mono hb2.size)⟩
def bytes6 (l : List Nat) : List UInt8 := l.flatMap fun n => [UInt8.ofNat (n / 256), UInt8.ofNat (n % 256)]
theorem length_bytes6 (l : List Nat) : (bytes6 l).length = 2 * l.length := by
 unfold bytes6
 induction l with
 | nil => rfl
 | cons x t ih => rw [List.flatMap_cons, List.length_append, ih]; simp; omega
theorem bytes6_succ (l : List Nat) (k : Nat) (h : k < l.length) : bytes6 (l.take (k + 1)) = bytes6 (l.take k) ++ [UInt8.ofNat (l.getD k 0 / 256), UInt8.ofNat (l.getD k 0 % 256)] := by
 unfold bytes6
 rw [List.take_add_one, List.flatMap_append]
 simp [h]
def sixA (l : List Nat) : Adr := ⟨true, bytes6 l⟩
def zeroA : Adr := ⟨false, List.replicate 16 0⟩
theorem zeroA_ok : zeroA.Ok := rfl
set_option maxHeartbeats 2000000 in
theorem rsix_any (l : List Nat) (h8 : l.length = 8) (hm : ∀ n ∈ l, n ≤ 65535) (A : Option Addr) (c : Nat) (w : World) (hs : Sl w A c (intsV l)) :
  Calls Tryz.prog 124 #[.slice A 8 c] w fun e w' => e = .returned (.agg (adrV (sixA l)).toArray) ∧ Below w.heap.size w w' := by
 have hsz := Lib.hid (show (Tryz.prog.info? 26).map (·.size) = some (adrV (sixA l)).toArray.size by rw [size_adr, List.size_toArray, length_adrV (show (sixA l).Ok by show (bytes6 l).length = 16; rw [length_bytes6, h8])])
 go_enter Tryz.func124, Tryz.ntmps124
 go_wp2_with (with_reducible refine wpList_store_row rfl 26 (.tmp 3) (.tmp 6) rfl (w.heap.size + 1) _ rfl rfl 26 _ (heap_alloc2_new w _ _) (by kernel_rfl) (by kernel_rfl) (by kernel_rfl) ?_; refine Hid.out ?_)
 refine Lib.hid ?_
 generalize hw4 : World.setRow _ _ _ = w4
 obtain ⟨r0, r1, hb4⟩ := row_new_set2 hw4
 have r0 : Row w4 w.heap.size 26 (adrV zeroA) := r0
 have r1 : Row w4 (w.heap.size + 1) 26 ((.bool true :: byts (bytes6 (l.take 0))) ++ List.replicate (16 - 2 * 0) (.int .u8 0)) := r1
 clear hw4
 go_wp2_with fail
 go_loopw [9] (fun i wr => ∃ k : Nat, k ≤ 8 ∧ i = .int .i64 k ∧ Row wr (w.heap.size + 1) 26 ((.bool true :: byts (bytes6 (l.take k))) ++ List.replicate (16 - 2 * k) (.int .u8 0)) ∧ Row wr w.heap.size 26 (adrV zeroA) ∧ Below w.heap.size w wr) (fun i _ => 8 - (intOf i).toNat)
 case atStart => exact ⟨0, by omega, rfl, r1, r0, hb4⟩
 case round =>
  clear r0 r1 hb4
  obtain ⟨k, hk, rfl, hrow, hres, hb⟩ := hrel
  by_cases hlt : k < 8
  ·have hlt' : (k : Int) < 8 := by omega
   have hlt2 : k < l.length := by omega
   obtain ⟨b, o, hA, -, -⟩ := hs.rd.get (i := k) (by rw [length_intsV]; exact hlt2)
   have hix := index_ints A b o 8 c k hA hlt
   have hce := ints_cell (by rw [hA] at hs; exact hs.later (Nat.le_refl _) hb) k hlt2
   have HS := Lib.hid (bytes6_succ l k hlt2)
   have hx : l.getD k 0 ≤ 65535 := hm _ (by rw [List.getD_eq_getElem?_getD, List.getElem?_eq_getElem hlt2]; exact List.getElem_mem hlt2)
   have hXl : (bytes6 (l.take k)).length = 2 * k := by rw [length_bytes6, List.length_take]; omega
   generalize bytes6 (l.take k) = X at *
   generalize l.getD k 0 = x at *
   have hI0 : IntKind.i64.wrap (2 * (k : Int)) = 2 * (k : Int) := by rw [IntKind.wrap_i64]; omega
   have hI1 : (0 : Int) ≤ 2 * (k : Int) := by omega
   have hI2 : 2 * (k : Int) < 16 := by omega
   have hI3 : (2 * (k : Int)).toNat = 2 * k := by omega
   have hJ0 : IntKind.i64.wrap (2 * (k : Int) + 1) = 2 * (k : Int) + 1 := by rw [IntKind.wrap_i64]; omega
   have hJ1 : (0 : Int) ≤ 2 * (k : Int) + 1 := by omega
   have hJ2 : 2 * (k : Int) + 1 < 16 := by omega
   have hJ3 : (2 * (k : Int) + 1).toNat = 2 * k + 1 := by omega
   have hq1 : IntKind.i64.wrap ((x : Int) / 256) = (x : Int) / 256 := by rw [IntKind.wrap_i64]; omega
   have hq2 : IntKind.u8.wrap ((x : Int) / 256) = ((UInt8.ofNat (x / 256)).toNat : Int) := by rw [IntKind.wrap_u8, UInt8.toNat_ofNat']; omega
   have hq3 : ((x : Int)).tmod 256 = (x : Int) % 256 := Int.tmod_eq_emod_of_nonneg (by omega)
   have hq4 : IntKind.u8.wrap ((x : Int) % 256) = ((UInt8.ofNat (x % 256)).toNat : Int) := by rw [IntKind.wrap_u8, UInt8.toNat_ofNat']; omega
   generalize UInt8.ofNat (x / 256) = p at *
   generalize UInt8.ofNat (x % 256) = q at *
   have hr0 : List.replicate (16 - 2 * k) (Value.int .u8 0) = .int .u8 0 :: .int .u8 0 :: List.replicate (16 - 2 * (k + 1)) (Value.int .u8 0) := by rw [show 16 - 2 * k = 16 - 2 * (k + 1) + 1 + 1 by omega]; rfl
   rw [hr0] at hrow
   have hhl : (Value.bool true :: byts X).length = 1 + 2 * k := by rw [List.length_cons, length_byts, hXl, Nat.add_comm]
   have hc1 : wr.cell? ⟨w.heap.size + 1, 1 + 2 * k, none⟩ = some (.int .u8 0) := by rw [hrow.cell, List.getElem?_append_right (by rw [hhl]; exact Nat.le_refl _), hhl, Nat.sub_self]; rfl
   have hc2 : wr.cell? ⟨w.heap.size + 1, 1 + (2 * k + 1), none⟩ = some (.int .u8 0) := by rw [hrow.cell, List.getElem?_append_right (by rw [hhl]; omega), hhl, show 1 + (2 * k + 1) - (1 + 2 * k) = 1 by omega]; rfl
   have hf1 := hrow.free (1 + 2 * k)
   have hf2 := hrow.free (1 + (2 * k + 1))
   have HL := Lib.hid hhl
   clear hr0 hXl hA hs hhl
   go_wp2
   go_roundw
   case rel =>
    refine ⟨k + 1, by omega, by go_num, ?_, ?_, ?_⟩
    ·have h := (hrow.set (1 + 2 * k) (.int .u8 (p.toNat : Int))).set (1 + (2 * k + 1)) (.int .u8 (q.toNat : Int))
     have e : (Value.bool true :: byts (X ++ [p, q])) ++ List.replicate (16 - 2 * (k + 1)) (Value.int .u8 0) = (((Value.bool true :: byts X) ++ .int .u8 0 :: .int .u8 0 :: List.replicate (16 - 2 * (k + 1)) (Value.int .u8 0)).set (1 + 2 * k) (.int .u8 (p.toNat : Int))).set (1 + (2 * k + 1)) (.int .u8 (q.toNat : Int)) := by
      rw [show 1 + (2 * k + 1) = 1 + 2 * k + 1 from rfl, set_two _ _ _ HL.out, byts_append]; rfl
     rw [HS.out, e]
     exact h
    ·exact (hres.grown (grown_setCell _ _ _ _) (by omega)).grown (grown_setCell _ _ _ _) (by omega)
    ·exact (hb.grown (grown_setCell _ _ _ _) hb.size (fun k h => by cases h; omega)).grown (grown_setCell _ _ _ _) (by rw [World.size_setCell]; exact hb.size) (fun k h => by cases h; omega)
   case measure => simp [intOf]; omega
  ·obtain rfl : k = 8 := by omega
   have hrow : Row wr (w.heap.size + 1) 26 (adrV (sixA l)) := by
    rw [show 16 - 2 * 8 = 0 from rfl, List.replicate_zero, List.append_nil, List.take_of_length_le (by omega)] at hrow
    exact hrow
   obtain ⟨V, hV⟩ : ∃ V, V = adrV (sixA l) := ⟨_, rfl⟩
   have hV1 := Lib.hid (show V.toArray.all (·.oneCell') = true from all_one (by rw [hV]; exact adrV_one _))
   have hVs := Lib.hid (show (adrV zeroA).toArray.size = V.toArray.size by rw [hV, List.size_toArray, List.size_toArray, length_adrV zeroA_ok, length_adrV (show (sixA l).Ok by show (bytes6 l).length = 16; rw [length_bytes6, h8])])
   rw [← hV] at hrow hsz
   have HV := Lib.hid hV
   obtain ⟨Z, hZ⟩ : ∃ Z, Z = adrV zeroA := ⟨_, rfl⟩
   rw [← hZ] at hres hVs
   have H1 := Lib.hid (show wr.heap[w.heap.size + 1]? = some (.cells V.toArray 26 (0, 0)) from hrow)
   have H0 := Lib.hid (show wr.heap[w.heap.size]? = some (.cells Z.toArray 26 (0, 0)) from hres)
   clear hV hZ hrow hres
   go_wp2_with (first
    | (with_reducible refine wpList_load_row rfl 26 (.tmp 3) rfl (w.heap.size + 1) rfl 26 V.toArray (0, 0) _ H1.out Tryz.underlying26 rfl hsz.out ?_)
    | (with_reducible refine wpList_store_row rfl 26 (.tmp 2) (.tmp 30) rfl w.heap.size V.toArray rfl rfl 26 Z.toArray H0.out hsz.out hVs.out hV1.out ?_; refine Hid.out ?_))
   refine Lib.hid ?_
   generalize hw5 : World.setRow _ _ _ = w5
   obtain ⟨r5, hg5⟩ := row_set (show Row wr w.heap.size 26 Z from H0.out) hw5
   have hb5 := hb.grown hg5 hb.size (fun k h => by cases h; exact Nat.le_refl _)
   have R5 := Lib.hid (show w5.heap[w.heap.size]? = some (.cells V.toArray 26 (0, 0)) from r5)
   clear hw5 r5 hg5 H0 H1
   go_wp2_with (with_reducible refine bodyPost_ret (results_cell_row rfl _ _ w.heap.size 26 V.toArray (0, 0) _ rfl R5.out Tryz.underlying26 rfl hsz.out) rfl ?_)
   exact ⟨by rw [HV.out], hb5⟩
theorem joinN_glue (l : List Nat) : joinN l = glueL 58 (l.map (numL 16)) := by
 induction l with
 | nil => rfl
 | cons n l ih =>
  cases l with
  | nil => rfl
  | cons m l =>
   show numL 16 n ++ 58 :: joinN (m :: l) = _
   rw [ih]; rfl
theorem goL_iff (b dg most : Nat) (h2 : 2 ≤ b) (hb : b ≤ 16) (ps : List (List UInt8)) (l : List Nat) :
  goL b dg most ps = some l ↔ l.map (numL b) = ps ∧ ∀ n ∈ l, n ≤ most ∧ (numL b n).length ≤ dg := by
 induction ps generalizing l with
 | nil =>
  rw [goL]
  constructor
  ·intro h; cases h; exact ⟨rfl, by simp⟩
  ·rintro ⟨h, _⟩; rw [List.map_eq_nil_iff.1 h]
 | cons p ps ih =>
  rw [goL]
  constructor
  ·intro h
   cases hv : valueL b dg p with
   | none => rw [hv] at h; cases h
   | some n =>
    rw [hv] at h
    obtain ⟨h1, h3⟩ := (valueL_iff b dg h2 hb p n).1 hv
    by_cases hm : most < n
    ·simp only [if_pos hm] at h; cases h
    ·simp only [if_neg hm] at h
     obtain ⟨t, ht, rfl⟩ := Option.map_eq_some_iff.1 h
     obtain ⟨h4, h5⟩ := (ih t).1 ht
     refine ⟨by rw [List.map_cons, h1, h4], ?_⟩
     intro q hq
     rcases List.mem_cons.1 hq with rfl | hq
     ·exact ⟨by omega, by rw [h1]; exact h3⟩
     ·exact h5 q hq
  ·rintro ⟨h, hall⟩
   cases l with
   | nil => simp at h
   | cons n t =>
    rw [List.map_cons, List.cons.injEq] at h
    have hn := hall n (List.mem_cons_self ..)
    rw [(valueL_iff b dg h2 hb p n).2 ⟨h.1, by rw [← h.1]; exact hn.2⟩]
    simp only [if_neg (show ¬ most < n by omega)]
    rw [(ih t).2 ⟨h.2, fun q hq => hall q (List.mem_cons_of_mem _ hq)⟩]; rfl
theorem numbersL_iff (b dg most : Nat) (x : UInt8) (h2 : 2 ≤ b) (hb : b ≤ 16) (hx : x = 46 ∨ x = 58) (s : List UInt8) (l : List Nat) :
  numbersL b dg most x s = some l ↔ s = glueL x (l.map (numL b)) ∧ ∀ n ∈ l, n ≤ most ∧ (numL b n).length ≤ dg := by
 unfold numbersL
 by_cases h0 : s = []
 ·rw [if_pos h0, h0]
  constructor
  ·intro h; cases h; exact ⟨rfl, by simp⟩
  ·rintro ⟨h, _⟩
   cases l with
   | nil => rfl
   | cons n t =>
    have hp := numL_ne b n
    cases t with
    | nil => exact absurd h.symm hp
    | cons m t =>
     have := congrArg List.length h
     simp [glueL] at this
 ·rw [if_neg h0, goL_iff b dg most h2 hb]
  constructor
  ·rintro ⟨h, hall⟩
   exact ⟨by rw [h, glueL_split], hall⟩
  ·rintro ⟨h, hall⟩
   refine ⟨?_, hall⟩
   have hl : l ≠ [] := by
    rintro rfl
    exact h0 h
   rw [h, splitL_glue x _ (by simpa using hl)]
   intro p hp c hc
   obtain ⟨n, _, rfl⟩ := List.mem_map.1 hp
   have := numL_sign b n h2 hb c hc
   rcases hx with rfl | rfl
   ·exact this.1
   ·exact this.2
def findC : List UInt8 → Option Nat
 | [] => none
 | c :: s => match s with
  | [] => none
  | d :: _ => if c = 58 ∧ d = 58 then some 0 else (findC s).map (· + 1)
def fourA (l : List Nat) : Adr := ⟨false, l.map UInt8.ofNat ++ List.replicate 12 0⟩
def padL (f b : List Nat) : List Nat := f ++ (List.replicate (8 - (f.length + b.length)) 0 ++ b)
def parse6 (s : List UInt8) : Option Adr :=
 match findC s with
 | none => match numbersL 16 4 65535 58 s with
  | none => none
  | some l => if l.length = 8 ∧ textA (sixA l) = s then some (sixA l) else none
 | some k => match numbersL 16 4 65535 58 (s.take k), numbersL 16 4 65535 58 (s.drop (k + 2)) with
  | some f, some b => if f.length + b.length ≤ 7 ∧ textA (sixA (padL f b)) = s then some (sixA (padL f b)) else none
  | _, _ => none
def parseL (s : List UInt8) : Option Adr :=
 match numbersL 10 3 255 46 s with
 | some l => if l.length = 4 then some (fourA l) else parse6 s
 | none => parse6 s
theorem findC_cons (c d : UInt8) (s : List UInt8) (h : ¬ (c = 58 ∧ d = 58)) : findC (c :: d :: s) = (findC (d :: s)).map (· + 1) := by
 show (if c = 58 ∧ d = 58 then some 0 else _) = _
 rw [if_neg h]
theorem findC_piece (p t : List UInt8) (h : ∀ c ∈ p, c ≠ 58) : findC (p ++ t) = (findC t).map (· + p.length) := by
 induction p with
 | nil => rw [List.nil_append]; cases findC t <;> rfl
 | cons c p ih =>
  have ih := ih (fun q hq => h q (List.mem_cons_of_mem _ hq))
  have hc := h c (List.mem_cons_self ..)
  rw [List.cons_append]
  cases hpt : p ++ t with
  | nil =>
   obtain ⟨rfl, rfl⟩ := List.append_eq_nil_iff.1 hpt
   rfl
  | cons d u =>
   rw [findC_cons c d u (fun hh => hc hh.1), ← hpt, ih]
   cases findC t <;> simp; omega
theorem findC_glue (ps : List (List UInt8)) (t : List UInt8) (h : ∀ p ∈ ps, p ≠ [] ∧ ∀ c ∈ p, c ≠ 58) : findC (glueL 58 ps ++ t) = (findC t).map (· + (glueL 58 ps).length) := by
 induction ps with
 | nil => show findC t = _; cases findC t <;> simp [glueL]
 | cons p ps ih =>
  have ih := ih (fun q hq => h q (List.mem_cons_of_mem _ hq))
  by_cases he : ps = []
  ·subst he
   exact findC_piece p t (h p (List.mem_cons_self ..)).2
  ·rw [glueL_cons 58 p ps he, List.append_assoc, findC_piece p _ (h p (List.mem_cons_self ..)).2, List.cons_append]
   have hd : ∃ d u, glueL 58 ps = d :: u ∧ d ≠ 58 := by
    cases ps with
    | nil => exact absurd rfl he
    | cons q qs =>
     have hq := h q (List.mem_cons_of_mem _ (List.mem_cons_self ..))
     cases q with
     | nil => exact absurd rfl hq.1
     | cons d q =>
      have hd := hq.2 d (List.mem_cons_self ..)
      cases qs with
      | nil => exact ⟨d, q, rfl, hd⟩
      | cons r qs => exact ⟨d, _, rfl, hd⟩
   obtain ⟨d, u, hdu, hd⟩ := hd
   rw [hdu, List.cons_append, findC_cons 58 d _ (fun hh => hd hh.2), ← List.cons_append, ← hdu, ih]
   cases findC t <;> simp; omega
theorem pieces_ok (l : List Nat) : ∀ p ∈ l.map (numL 16), p ≠ [] ∧ ∀ c ∈ p, c ≠ 58 := by
 intro p hp
 obtain ⟨n, _, rfl⟩ := List.mem_map.1 hp
 exact ⟨numL_ne 16 n, fun c hc => (numL_sign 16 n (by omega) (by omega) c hc).2⟩
theorem joinN_no46 (l : List Nat) : (46 : UInt8) ∉ joinN l := by
 rw [joinN_glue]
 intro h
 rcases mem_glue 58 _ _ h with h | ⟨p, hp, hc⟩
 ·cases h
 ·obtain ⟨n, _, rfl⟩ := List.mem_map.1 hp
  exact (numL_sign 16 n (by omega) (by omega) 46 hc).1 rfl
theorem textN_no46 (l : List Nat) : (46 : UInt8) ∉ textN l := by
 unfold textN
 simp only []
 split
 ·exact joinN_no46 l
 ·intro h
  rcases List.mem_append.1 h with h | h
  ·exact joinN_no46 _ h
  ·rcases List.mem_cons.1 h with h | h
   ·cases h
   ·rcases List.mem_cons.1 h with h | h
    ·cases h
    ·exact joinN_no46 _ h
theorem numL16_len (n : Nat) (h : n ≤ 65535) : (numL 16 n).length ≤ 4 := numL_len 16 (by omega) 3 n (by omega)
theorem numL10_len (n : Nat) (h : n ≤ 255) : (numL 10 n).length ≤ 3 := numL_len 10 (by omega) 2 n (by omega)
theorem zerosL_split (l : List Nat) : l = List.replicate (zerosL l) 0 ++ l.drop (zerosL l) := by
 induction l with
 | nil => rfl
 | cons n l ih =>
  rw [zerosL]
  by_cases h : n = 0
  ·rw [if_pos h, List.replicate_succ, List.cons_append, List.drop_succ_cons, ← ih, h]
  ·rw [if_neg h]; rfl
theorem sixA_ok (l : List Nat) (h : l.length = 8) : (sixA l).Ok := by show (bytes6 l).length = 16; rw [length_bytes6, h]
theorem checkA_six (l : List Nat) : checkA (sixA l) = true := rfl
theorem padL_len (f b : List Nat) (h : f.length + b.length ≤ 7) : (padL f b).length = 8 := by unfold padL; simp; omega
theorem textA_four (l : List Nat) (h4 : l.length = 4) (hm : ∀ n ∈ l, n ≤ 255) : (fourA l).Ok ∧ checkA (fourA l) = true ∧ textA (fourA l) = glueL 46 (l.map (numL 10)) := by
 match l, h4, hm with
 | [a, b, c, d], _, hm =>
  have ha := hm a (by simp)
  have hb := hm b (by simp)
  have hc := hm c (by simp)
  have hd := hm d (by simp)
  have e : ∀ n, n ≤ 255 → (UInt8.ofNat n).toNat = n := fun n hn => by rw [UInt8.toNat_ofNat']; omega
  refine ⟨rfl, rfl, ?_⟩
  show numL 10 (UInt8.ofNat a).toNat ++ 46 :: numL 10 (UInt8.ofNat b).toNat ++ 46 :: numL 10 (UInt8.ofNat c).toNat ++ 46 :: numL 10 (UInt8.ofNat d).toNat = _
  rw [e a ha, e b hb, e c hc, e d hd]
  show _ = numL 10 a ++ 46 :: (numL 10 b ++ 46 :: (numL 10 c ++ 46 :: numL 10 d))
  simp
theorem parse6_sound (s : List UInt8) (a : Adr) (h : parse6 s = some a) : a.Ok ∧ checkA a = true ∧ textA a = s := by
 unfold parse6 at h
 cases hf : findC s with
 | none =>
  rw [hf] at h
  cases hn : numbersL 16 4 65535 58 s with
  | none => simp only [hn] at h; cases h
  | some l =>
   simp only [hn] at h
   by_cases hc : l.length = 8 ∧ textA (sixA l) = s
   ·rw [if_pos hc] at h
    cases h
    exact ⟨sixA_ok l hc.1, rfl, hc.2⟩
   ·rw [if_neg hc] at h; cases h
 | some k =>
  rw [hf] at h
  cases hn : numbersL 16 4 65535 58 (s.take k) with
  | none => simp only [hn] at h; cases h
  | some f =>
   cases hb : numbersL 16 4 65535 58 (s.drop (k + 2)) with
   | none => simp only [hn, hb] at h; cases h
   | some b =>
    simp only [hn, hb] at h
    by_cases hc : f.length + b.length ≤ 7 ∧ textA (sixA (padL f b)) = s
    ·rw [if_pos hc] at h
     cases h
     exact ⟨sixA_ok _ (padL_len f b hc.1), rfl, hc.2⟩
    ·rw [if_neg hc] at h; cases h
theorem parseL_sound (s : List UInt8) (a : Adr) (h : parseL s = some a) : a.Ok ∧ checkA a = true ∧ textA a = s := by
 unfold parseL at h
 cases hn : numbersL 10 3 255 46 s with
 | none => rw [hn] at h; exact parse6_sound s a h
 | some l =>
  simp only [hn] at h
  by_cases h4 : l.length = 4
  ·rw [if_pos h4] at h
   cases h
   obtain ⟨hs, hall⟩ := (numbersL_iff 10 3 255 46 (by omega) (by omega) (.inl rfl) s l).1 hn
   obtain ⟨h1, h2, h3⟩ := textA_four l h4 (fun n hq => (hall n hq).1)
   exact ⟨h1, h2, by rw [h3, ← hs]⟩
  ·rw [if_neg h4] at h; exact parse6_sound s a h
theorem hi_lo (x y : UInt8) : UInt8.ofNat ((x.toNat * 256 + y.toNat) / 256) = x ∧ UInt8.ofNat ((x.toNat * 256 + y.toNat) % 256) = y := by
 have hx := x.toNat_lt
 have hy := y.toNat_lt
 rw [show (x.toNat * 256 + y.toNat) / 256 = x.toNat by omega, show (x.toNat * 256 + y.toNat) % 256 = y.toNat by omega]
 exact ⟨UInt8.ofNat_toNat, UInt8.ofNat_toNat⟩
theorem sixA_nums (a : Adr) (h : a.Ok) (h6 : a.v6 = true) : sixA (numsA a) = a := by
 obtain ⟨v, b⟩ := a
 cases h6
 have h : b.length = 16 := h
 match b, h with
 | [b0, b1, b2, b3, b4, b5, b6, b7, b8, b9, b10, b11, b12, b13, b14, b15], _ =>
  show Adr.mk true [UInt8.ofNat ((b0.toNat * 256 + b1.toNat) / 256), UInt8.ofNat ((b0.toNat * 256 + b1.toNat) % 256), UInt8.ofNat ((b2.toNat * 256 + b3.toNat) / 256), UInt8.ofNat ((b2.toNat * 256 + b3.toNat) % 256), UInt8.ofNat ((b4.toNat * 256 + b5.toNat) / 256), UInt8.ofNat ((b4.toNat * 256 + b5.toNat) % 256), UInt8.ofNat ((b6.toNat * 256 + b7.toNat) / 256), UInt8.ofNat ((b6.toNat * 256 + b7.toNat) % 256), UInt8.ofNat ((b8.toNat * 256 + b9.toNat) / 256), UInt8.ofNat ((b8.toNat * 256 + b9.toNat) % 256), UInt8.ofNat ((b10.toNat * 256 + b11.toNat) / 256), UInt8.ofNat ((b10.toNat * 256 + b11.toNat) % 256), UInt8.ofNat ((b12.toNat * 256 + b13.toNat) / 256), UInt8.ofNat ((b12.toNat * 256 + b13.toNat) % 256), UInt8.ofNat ((b14.toNat * 256 + b15.toNat) / 256), UInt8.ofNat ((b14.toNat * 256 + b15.toNat) % 256)] = _
  simp only [(hi_lo _ _).1, (hi_lo _ _).2]
theorem numsA_len (a : Adr) : (numsA a).length = 8 := by unfold numsA; simp
theorem numsA_le (a : Adr) : ∀ n ∈ numsA a, n ≤ 65535 := by
 intro n hn
 obtain ⟨i, _, rfl⟩ := List.mem_map.1 hn
 have := (a.b.getD (2 * i) 0).toNat_lt
 have := (a.b.getD (2 * i + 1) 0).toNat_lt
 omega
theorem textA_six (l : List Nat) (h : l.length = 8) (hm : ∀ n ∈ l, n ≤ 65535) : textA (sixA l) = textN l := by
 have e : numsA (sixA l) = l := by
  match l, h, hm with
  | [n0, n1, n2, n3, n4, n5, n6, n7], _, hm =>
   have e : ∀ n, n ≤ 65535 → (UInt8.ofNat (n / 256)).toNat * 256 + (UInt8.ofNat (n % 256)).toNat = n := fun n hn => by
    rw [UInt8.toNat_ofNat', UInt8.toNat_ofNat']; omega
   show [(UInt8.ofNat (n0 / 256)).toNat * 256 + (UInt8.ofNat (n0 % 256)).toNat, (UInt8.ofNat (n1 / 256)).toNat * 256 + (UInt8.ofNat (n1 % 256)).toNat, (UInt8.ofNat (n2 / 256)).toNat * 256 + (UInt8.ofNat (n2 % 256)).toNat, (UInt8.ofNat (n3 / 256)).toNat * 256 + (UInt8.ofNat (n3 % 256)).toNat, (UInt8.ofNat (n4 / 256)).toNat * 256 + (UInt8.ofNat (n4 % 256)).toNat, (UInt8.ofNat (n5 / 256)).toNat * 256 + (UInt8.ofNat (n5 % 256)).toNat, (UInt8.ofNat (n6 / 256)).toNat * 256 + (UInt8.ofNat (n6 % 256)).toNat, (UInt8.ofNat (n7 / 256)).toNat * 256 + (UInt8.ofNat (n7 % 256)).toNat] = _
   rw [e n0 (hm n0 (by simp)), e n1 (hm n1 (by simp)), e n2 (hm n2 (by simp)), e n3 (hm n3 (by simp)), e n4 (hm n4 (by simp)), e n5 (hm n5 (by simp)), e n6 (hm n6 (by simp)), e n7 (hm n7 (by simp))]
 unfold textA
 rw [checkA_six, e]; rfl
theorem four_back (a : Adr) (h : a.Ok) (hc : checkA a = true) (h6 : a.v6 = false) : ∃ l : List Nat, l.length = 4 ∧ (∀ n ∈ l, n ≤ 255) ∧ fourA l = a := by
 obtain ⟨v, b⟩ := a
 cases h6
 have h : b.length = 16 := h
 refine ⟨(b.take 4).map UInt8.toNat, by rw [List.length_map, List.length_take, h]; rfl, fun n hn => ?_, ?_⟩
 ·obtain ⟨x, _, rfl⟩ := List.mem_map.1 hn
  have := x.toNat_lt
  omega
 ·have hz : b.drop 4 = List.replicate 12 0 := by
   rw [List.eq_replicate_iff]
   refine ⟨by rw [List.length_drop, h], fun x hx => ?_⟩
   have h2 : (b.drop 4).all (· == 0) = true := by
    have hc : (false || (b.drop 4).all (· == 0)) = true := hc
    rwa [Bool.false_or] at hc
   simpa using List.all_eq_true.1 h2 x hx
  show Adr.mk false (((b.take 4).map UInt8.toNat).map UInt8.ofNat ++ List.replicate 12 0) = _
  rw [← hz, List.map_map]
  have e : (UInt8.ofNat ∘ UInt8.toNat) = id := by funext x; exact UInt8.ofNat_toNat
  rw [e, List.map_id, List.take_append_drop]
theorem parse6_back (l : List Nat) (h8 : l.length = 8) (hm : ∀ n ∈ l, n ≤ 65535) : parse6 (textN l) = some (sixA l) := by
 have ht := textA_six l h8 hm
 obtain ⟨b, hb⟩ : ∃ b, b = bestL l := ⟨_, rfl⟩
 obtain ⟨n, hn⟩ : ∃ n, n = zerosL (l.drop b) := ⟨_, rfl⟩
 have hT : textN l = if n < 2 then joinN l else joinN (l.take b) ++ 58 :: 58 :: joinN (l.drop (b + n)) := by rw [hn, hb]; rfl
 have hbl : b ≤ 8 := by rw [hb, ← h8]; exact bestK_le l l.length
 have hnl : n ≤ 8 - b := by have := zerosL_le (l.drop b); rw [List.length_drop, h8] at this; omega
 by_cases h2 : n < 2
 ·rw [if_pos h2] at hT
  have hf : findC (textN l) = none := by
   rw [hT, joinN_glue]
   have := findC_glue (l.map (numL 16)) [] (pieces_ok l)
   rw [List.append_nil] at this
   rw [this]; rfl
  have hnum : numbersL 16 4 65535 58 (textN l) = some l :=
   (numbersL_iff 16 4 65535 58 (by omega) (by omega) (.inr rfl) _ l).2 ⟨by rw [hT, joinN_glue], fun q hq => ⟨hm q hq, numL16_len q (hm q hq)⟩⟩
  unfold parse6
  simp only [hf, hnum]
  rw [if_pos ⟨h8, ht⟩]
 ·rw [if_neg h2] at hT
  have hf : findC (textN l) = some (joinN (l.take b)).length := by
   rw [hT, joinN_glue (l.take b), findC_glue _ _ (pieces_ok _)]
   show (some 0).map _ = _
   simp
  have e1 : (textN l).take (joinN (l.take b)).length = joinN (l.take b) := by rw [hT, List.take_left']; rfl
  have e2 : (textN l).drop ((joinN (l.take b)).length + 2) = joinN (l.drop (b + n)) := by
   rw [hT, ← List.drop_drop, List.drop_left']
   ·rfl
   ·rfl
  have hmt : ∀ q ∈ l.take b, q ≤ 65535 := fun q hq => hm q (List.mem_of_mem_take hq)
  have hmd : ∀ q ∈ l.drop (b + n), q ≤ 65535 := fun q hq => hm q (List.mem_of_mem_drop hq)
  have n1 : numbersL 16 4 65535 58 (joinN (l.take b)) = some (l.take b) :=
   (numbersL_iff 16 4 65535 58 (by omega) (by omega) (.inr rfl) _ _).2 ⟨joinN_glue _, fun q hq => ⟨hmt q hq, numL16_len q (hmt q hq)⟩⟩
  have n2 : numbersL 16 4 65535 58 (joinN (l.drop (b + n))) = some (l.drop (b + n)) :=
   (numbersL_iff 16 4 65535 58 (by omega) (by omega) (.inr rfl) _ _).2 ⟨joinN_glue _, fun q hq => ⟨hmd q hq, numL16_len q (hmd q hq)⟩⟩
  have hlt : (l.take b).length = b := by rw [List.length_take, h8]; omega
  have hld : (l.drop (b + n)).length = 8 - (b + n) := by rw [List.length_drop, h8]
  have hp : padL (l.take b) (l.drop (b + n)) = l := by
   unfold padL
   rw [hlt, hld, show 8 - (b + (8 - (b + n))) = n by omega]
   have e := zerosL_split (l.drop b)
   rw [← hn, List.drop_drop] at e
   rw [← e, List.take_append_drop]
  unfold parse6
  simp only [hf, e1, e2, n1, n2, hp]
  rw [if_pos ⟨by rw [hlt, hld]; omega, ht⟩]
theorem glue4_has (l : List Nat) (h : l.length = 4) : (46 : UInt8) ∈ glueL 46 (l.map (numL 10)) := by
 match l, h with
 | a :: b :: t, _ =>
  show (46 : UInt8) ∈ numL 10 a ++ 46 :: _
  simp
theorem parseL_back (a : Adr) (h : a.Ok) (hc : checkA a = true) : parseL (textA a) = some a := by
 cases h6 : a.v6 with
 | false =>
  obtain ⟨l, h4, hm, rfl⟩ := four_back a h hc h6
  have ht := (textA_four l h4 hm).2.2
  have hn : numbersL 10 3 255 46 (textA (fourA l)) = some l :=
   (numbersL_iff 10 3 255 46 (by omega) (by omega) (.inl rfl) _ l).2 ⟨ht, fun q hq => ⟨hm q hq, numL10_len q (hm q hq)⟩⟩
  unfold parseL
  simp only [hn]
  rw [if_pos h4]
 | true =>
  have hs := sixA_nums a h h6
  have h8 := numsA_len a
  have hm := numsA_le a
  have ht : textA a = textN (numsA a) := by rw [← textA_six _ h8 hm, hs]
  have hp := parse6_back (numsA a) h8 hm
  rw [hs] at hp
  rw [ht]
  unfold parseL
  cases hn : numbersL 10 3 255 46 (textN (numsA a)) with
  | none => exact hp
  | some l =>
   simp only []
   by_cases h4 : l.length = 4
   ·have := ((numbersL_iff 10 3 255 46 (by omega) (by omega) (.inl rfl) _ l).1 hn).1
    exact absurd (by rw [this]; exact glue4_has l h4) (textN_no46 (numsA a))
   ·rw [if_neg h4]; exact hp
theorem parseL_iff (s : List UInt8) (a : Adr) : parseL s = some a ↔ a.Ok ∧ checkA a = true ∧ textA a = s := by
 constructor
 ·exact parseL_sound s a
 ·rintro ⟨h, hc, rfl⟩
  exact parseL_back a h hc
end Go.Proofs.YtjieebmcbpdeiaaGreatDoor
