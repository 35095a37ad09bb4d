/- LAYER 14: package path's Normal. -/
import Derived.Test.YtipnmjhijjfehaaDoorPo
import Derived.Test.YtipnmjhijjfehaaDoorNn
import Derived.Test.YtipnmjhijjfehaaDoorRs
namespace Go.Proofs.YtipnmjhijjfehaaDoor
set_option maxRecDepth 100000
open Go Go.RowKit

attribute [local go_sem] Oper.semAt_some
theorem cut_yes (r : List UInt8) (w : World) : Calls Tryd.prog 15 #[.string (bstr (47 :: r)), .string ⟨#[47]⟩] w fun e w' => e = .returned (.tuple #[.string (bstr r), .bool true]) ∧ w = w' := by
  refine (Tryd.strings_CutPrefix _ _ _).mono ?_
  rintro e w' ⟨rfl, rfl⟩
  refine ⟨?_, rfl⟩
  have h : Lib.hasPrefix (bstr (47 :: r)).data.toList [47] = true := by
    show List.isPrefixOf [47] (47 :: r) = true
    simp [List.isPrefixOf]
  show Ending.returned (.tuple #[.string ⟨(Lib.trimPrefix (bstr (47 :: r)).data.toList [47]).toArray⟩, .bool (Lib.hasPrefix (bstr (47 :: r)).data.toList [47])]) = _
  unfold Lib.trimPrefix
  rw [h, if_pos rfl]
  rfl
theorem cut_no (s : List UInt8) (hs : s.getD 0 0 ≠ 47) (w : World) : Calls Tryd.prog 15 #[.string (bstr s), .string ⟨#[47]⟩] w fun e w' => e = .returned (.tuple #[.string (bstr s), .bool false]) ∧ w = w' := by
  refine (Tryd.strings_CutPrefix _ _ _).mono ?_
  rintro e w' ⟨rfl, rfl⟩
  refine ⟨?_, rfl⟩
  have h : Lib.hasPrefix (bstr s).data.toList [47] = false := by
    show List.isPrefixOf [47] s = false
    cases s with
    | nil => rfl
    | cons c r =>
      have hc : c ≠ 47 := hs
      simp [List.isPrefixOf]
      exact fun h => hc h.symm
  show Ending.returned (.tuple #[.string ⟨(Lib.trimPrefix (bstr s).data.toList [47]).toArray⟩, .bool (Lib.hasPrefix (bstr s).data.toList [47])]) = _
  unfold Lib.trimPrefix
  rw [h, if_neg (by simp)]
/-- Both results lie in variables of their own. -/
theorem results_boxes {fn : Func} {p q : Tmp} (h : fn.results = #[.cell p 9, .cell q 4]) (tmps : Array Value) (w : World) (b c : Nat) (v x : Value)
    (hp : tmps.getD p undef = .pointer (some ⟨b, 0, none⟩)) (hq : tmps.getD q undef = .pointer (some ⟨c, 0, none⟩)) (hv : Boxed w b 9 v) (hx : Boxed w c 4 x) :
    (results fn tmps).run Tryd.prog w = .ok (.tuple #[v, x]) w := by
  have hp' : tmps[p]?.getD undef = .pointer (some ⟨b, 0, none⟩) := by simpa using hp
  have hq' : tmps[q]?.getD undef = .pointer (some ⟨c, 0, none⟩) := by simpa using hq
  have h1 := hv.cell
  have h2 := hx.cell
  simp [results, h, hp', hq', asAddr]
  go_simp
theorem along_size (l k : List (List UInt8)) (w : List UInt8) (h : alongL l w = some k) : k.length ≤ l.length + 1 := by
  unfold alongL at h
  split at h
  · cases h; omega
  · split at h
    · split at h
      · cases h
      · cases h; rw [List.length_dropLast]; omega
    · split at h
      · cases h; rw [List.length_append]; simp
      · cases h
theorem heap_set_other (W : World) (b : Nat) (v : Value) (j : Nat) (h : j ≠ b) : (W.setCell ⟨b, 0, none⟩ v).heap[j]? = W.heap[j]? := Below.heap_setCell W ⟨b, 0, none⟩ v j h
theorem below_set {a W : World} {B b : Nat} (h : Below B a W) (hB : B ≤ W.heap.size) (hb : B ≤ b) (v : Value) : Below B a (W.setCell ⟨b, 0, none⟩ v) :=
  h.grown (grownBy_setCell' W b v) hB (fun k e => by cases e; exact hb)
def NormI (w : World) (lo : Nat) (ps : List (List UInt8)) (m : Nat) (W : World) : Prop :=
  (∃ l v, (∀ x ∈ l, nameL x = true) ∧ l.length ≤ m ∧ goN l (ps.drop m) = goN [] ps ∧ Boxed W (w.heap.size + 1 + 1 + 1) 32 v ∧ W.ownsRow lo 5 1 v (flatP l).length (byts (flatP l))) ∧
    Boxed W (w.heap.size + 1 + 1) 4 (.bool true) ∧ Boxed W w.heap.size 9 (.string { data := #[] }) ∧ Boxed W (w.heap.size + 1) 4 (.bool false) ∧ Below w.heap.size w W ∧ lo ≤ W.heap.size
def NormX (w : World) (lo : Nat) (ps : List (List UInt8)) (c : Code) (W : World) : Prop :=
  (c = .ret ∧ goN [] ps = none) ∧ Boxed W w.heap.size 9 (.string { data := #[] }) ∧ Boxed W (w.heap.size + 1) 4 (.bool false) ∧ Below w.heap.size w W ∧ lo ≤ W.heap.size
theorem NormI.calm {w : World} {lo m own : Nat} {ps : List (List UInt8)} (hown : own < lo) (h1 : w.heap.size + 1 + 1 + 1 < own) {X Y : World} {r : Nat} (h : NormI w lo ps m X) (hg : X.grownBy Y (some r)) (hr : r = own ∨ (lo ≤ r ∧ ∃ o : Obj, X.heap[r]? = some o ∧ o.isCells = false)) : NormI w lo ps m Y := by
  obtain ⟨⟨l, v, hn, hl, hgo, hv, ho⟩, hb2, hb0, hb1, hB, hlo⟩ := h
  refine ⟨⟨l, v, hn, hl, hgo, box_calm hv hg hr (by omega), own_calm ho hg hr hown⟩, box_calm hb2 hg hr (by omega), box_calm hb0 hg hr (by omega), box_calm hb1 hg hr (by omega), hB.grown hg hB.size fun k e => ?_, Nat.le_trans hlo hg.size⟩
  cases e
  rcases hr with rfl | ⟨h, -⟩ <;> omega
theorem NormX.calm {w : World} {lo own : Nat} {c : Code} {ps : List (List UInt8)} (hown : own < lo) (h1 : w.heap.size + 1 + 1 + 1 < own) {X Y : World} {r : Nat} (h : NormX w lo ps c X) (hg : X.grownBy Y (some r)) (hr : r = own ∨ (lo ≤ r ∧ ∃ o : Obj, X.heap[r]? = some o ∧ o.isCells = false)) : NormX w lo ps c Y := by
  obtain ⟨hc, hb0, hb1, hB, hlo⟩ := h
  refine ⟨hc, box_calm hb0 hg hr (by omega), box_calm hb1 hg hr (by omega), hB.grown hg hB.size fun k e => ?_, Nat.le_trans hlo hg.size⟩
  cases e
  rcases hr with rfl | ⟨h, -⟩ <;> omega
set_option maxHeartbeats 4000000 in
theorem pnormal_any (s : List UInt8) (hs : s.length ≤ 1000) (w : World) : Calls Tryd.prog 6 #[.string (bstr s)] w fun e w' => e = .returned (.tuple #[.string (bstr ((normL s).getD [])), .bool (normL s).isSome]) ∧ Below w.heap.size w w' := by
  have hz := size_bstr s
  obtain ⟨V, hV⟩ : ∃ V, V = normL s := ⟨_, rfl⟩
  have HV := Lib.hid hV
  rw [← hV]
  clear hV
  refine (callsIn_wide (n := 9)).1 ?_
  refine callsIn_of_wp_marks Tryd.func6 rfl trivial ?_ rfl
  simp only [Tryd.ntmps6, List.size_toArray, List.length_cons, List.length_nil, Nat.reduceAdd, Nat.reduceSub, Array.replicate_succ, Array.replicate_zero, List.push_toArray, List.append_toArray, List.nil_append, List.cons_append]
  by_cases h4 : s.getD 0 0 = 47
  · obtain ⟨r, rfl⟩ : ∃ r, s = 47 :: r := by
      cases s with
      | nil => cases h4
      | cons c r => exact ⟨r, by rw [show c = 47 from h4]⟩
    rw [List.length_cons] at hz hs
    have hct := Lib.hid (fun w' => cut_yes r w')
    have hsq := Lib.hid (fun w' => splitSeq_any r 47 w')
    generalize bstr (47 :: r) = P at *
    gi_wp2_with (first
      | (refine ⟨trivial, ?_⟩; gi_at_call 15; refine (callsIn_wide.2 (hct.out _)).mono ?_; rintro e w1 ⟨rfl, rfl⟩)
      | (refine ⟨trivial, ?_⟩; gi_at_call 16; refine (callsIn_wide.2 (hsq.out _)).mono ?_; rintro e w2 ⟨rfl, hbox, hb2, hz2⟩))
    rw [World.size_alloc, World.size_alloc, World.size_alloc, World.size_alloc] at hbox hz2 hb2
    have e1 : (w.alloc (.cells #[.string { data := #[] }] 9)).heap.size = w.heap.size + 1 := World.size_alloc _ _
    have e2 : ((w.alloc (.cells #[.string { data := #[] }] 9)).alloc (.cells #[.bool false] 4)).heap.size = w.heap.size + 1 + 1 := by rw [World.size_alloc, e1]
    have e3 : (((w.alloc (.cells #[.string { data := #[] }] 9)).alloc (.cells #[.bool false] 4)).alloc (.cells #[.bool true] 4)).heap.size = w.heap.size + 1 + 1 + 1 := by rw [World.size_alloc, e2]
    have b0 := Boxed.new w 9 (.string { data := #[] })
    have b1 := Boxed.new (w.alloc (.cells #[.string { data := #[] }] 9)) 4 (.bool false)
    have b2 := Boxed.new ((w.alloc (.cells #[.string { data := #[] }] 9)).alloc (.cells #[.bool false] 4)) 4 (.bool true)
    have b3 := Boxed.new (((w.alloc (.cells #[.string { data := #[] }] 9)).alloc (.cells #[.bool false] 4)).alloc (.cells #[.bool true] 4)) 32 (.slice none 0 0)
    rw [e1] at b1
    rw [e2] at b2
    rw [e3] at b3
    have bx0 : Boxed w2 w.heap.size 9 (.string { data := #[] }) := (hb2.block _ (by omega)).trans (((b0.alloc _).alloc _).alloc _)
    have bx1 : Boxed w2 (w.heap.size + 1) 4 (.bool false) := (hb2.block _ (by omega)).trans ((b1.alloc _).alloc _)
    have bx2 : Boxed w2 (w.heap.size + 1 + 1) 4 (.bool true) := (hb2.block _ (by omega)).trans (b2.alloc _)
    have bx3 : Boxed w2 (w.heap.size + 1 + 1 + 1) 32 (.slice none 0 0) := (hb2.block _ (by omega)).trans b3
    have hB2 : Below w.heap.size w w2 := (((((Below.refl _ w).alloc (Nat.le_refl _) _).alloc (by rw [e1]; omega) _).alloc (by rw [e2]; omega) _).alloc (by rw [e3]; omega) _).trans (hb2.mono (by omega))
    clear hb2 b0 b1 b2 b3 e1 e2 e3 hct
    have hsize : (piecesV r 47).length = (splitL 47 r).length := by unfold piecesV; rw [List.length_map]
    obtain ⟨ps, hps⟩ : ∃ ps, ps = splitL 47 r := ⟨_, rfl⟩
    have HN1 := Lib.hid (show goN [] ps = none → V = none from fun h => HV.out.trans (normL_none r (by rw [← hps]; exact h)))
    have HN2 := Lib.hid (show ∀ l, goN [] ps = some l → V = if (joinP l).length ≤ 256 then some (joinP l) else none from fun l h => HV.out.trans (normL_some r l (by rw [← hps]; exact h)))
    have hpl : ∀ p ∈ ps, p.length ≤ 1000 := fun p hp => Nat.le_trans (splitL_piece 47 r p (by rw [← hps]; exact hp)) (by omega)
    have hpn : ps.length ≤ 1000 := by have := splitL_len 47 r; rw [← hps] at this; omega
    clear HV h4
    have hgives := splitSeq_gives 8 (by omega) (w.heap.size + 1 + 1 + 1 + 1) r 47 (by omega) w2 hbox (by omega)
    refine wpIn_rangeList rfl (by omega) (gf := 29) rfl trivial (enters_of Tryd.func29 (by kernel_rfl) rfl) hgives (by omega) SeqKeep.trans
      (fun W l o' hl k h1 h2 => World.putObj_heap_other (by omega)) (Below.refl _ _) (fun v hv => by
        unfold piecesV at hv
        obtain ⟨p, -, rfl⟩ := List.mem_map.1 hv
        rfl)
      (fun k W => NormI w w2.heap.size ps k W) (fun c k W => NormX w w2.heap.size ps c W)
      (fun k X Y r h hg hr => h.calm (by omega) (by omega) hg hr) (fun c k X Y r h hg hr => h.calm (by omega) (by omega) hg hr)
      ⟨⟨[], _, fun _ h => by (cases h), Nat.le_refl _, rfl, bx3, World.ownsRow_nil _ _ _ _⟩, bx2, bx0, bx1, hB2, Nat.le_refl _⟩
      (fun k => { tmps := #[.string P, undef, .pointer (some ⟨w.heap.size, 0, none⟩), .pointer (some ⟨w.heap.size + 1, 0, none⟩), .string (bstr r), .pointer (some ⟨w.heap.size + 1 + 1, 0, none⟩), .pointer (some ⟨w.heap.size + 1 + 1 + 1, 0, none⟩), .string (bstr (ps.getD k [])),
          .tuple #[.string (bstr r), .bool true], .string P, .tuple #[.string (bstr r), .bool true], .string (bstr r), .bool true, .bool true, .bool false, .string (bstr r),
          .func (.func 29) #[] #[.pointer (some ⟨w.heap.size + 1 + 1 + 1 + 1 + 1, 0, none⟩), .pointer (some ⟨w.heap.size + 1 + 1 + 1 + 1, 0, none⟩), .pointer (some ⟨w.heap.size + 1 + 1 + 1 + 1 + 2, 0, none⟩)],
          .string (bstr (ps.getD k [])), undef, undef, undef, undef, undef, undef, undef, undef, undef, undef, undef, undef, undef, undef, undef, undef], defers := [] }) ?assign ?body ?done ?stop
    case assign =>
      intro l k v W K hv hK
      have hv : v = #[.string (bstr (ps.getD k []))] := by
        unfold piecesV at hv
        rw [← hps, List.getElem?_map] at hv
        rw [List.getD_eq_getElem?_getD]
        cases hq : ps[k]? with
        | none => rw [hq] at hv; cases hv
        | some q => rw [hq] at hv; cases hv; rfl
      subst hv
      clear hps
      gi_wp2
      exact hK
    case body =>
      rintro lo k W hk ⟨⟨l, v, hn, hl, hgo, hv, ho⟩, hx2, hx0, hx1, hB, hlo⟩
      have hkp : k < ps.length := by rw [hps, ← hsize]; exact hk
      clear hps hsize hk hgives hbox hsq bx0 bx1 bx2 bx3 hB2
      obtain ⟨A, c, rfl, -, -⟩ := Sl.of_own ho
      have hc3 := hv.cell
      have hx64 := hpl (ps.getD k []) (by rw [List.getD_eq_getElem?_getD, List.getElem?_eq_getElem hkp]; exact List.getElem_mem hkp)
      have hfl := flatP_le l (fun y hy => nameL_len y (hn y hy))
      have hal := along_any l hn (ps.getD k []) hx64 W w2.heap.size (.slice A (flatP l).length c) ho hlo (by omega)
      have hgo2 := hgo.symm.trans (goN_at l ps k hkp)
      generalize hy : ps.getD k [] = x at *
      clear hy hpl
      cases hak : alongL l x with
      | none =>
        rw [hak] at hal hgo2
        have HA := Lib.hid hal
        have HG := Lib.hid hgo2
        clear hal hgo2 hak hgo hn ho hfl
        generalize (flatP l).length = n at *
        gi_wp2_with (refine ⟨trivial, ?_⟩; gi_at_call 17; refine (CallsIn.inRound lo (callsIn_wide.2 HA.out)).mono ?_; rintro e W2 ⟨rfl, hk2, hb2⟩; have hv2 : Boxed W2 (w.heap.size + 1 + 1 + 1) 32 (.slice A n c) := (hb2.block _ (by omega)).trans hv; have hc2 := hv2.cell; have hf2 := hv2.frozen; have hx2' : Boxed W2 (w.heap.size + 1 + 1) 4 (.bool true) := (hb2.block _ (by omega)).trans hx2; have hd2 := hx2'.cell; have hg2 := hx2'.frozen; have hx0' : Boxed W2 w.heap.size 9 (.string { data := #[] }) := (hb2.block _ (by omega)).trans hx0; have hx1' : Boxed W2 (w.heap.size + 1) 4 (.bool false) := (hb2.block _ (by omega)).trans hx1; have hp0 := hx0'.cell; have hp1 := hx1'.cell; have hq0 := hx0'.frozen; have hq1 := hx1'.frozen)
        have s2 := hb2.size
        have hBW : Below w.heap.size w W2 := hB.trans (hb2.mono (by omega))
        refine ⟨((((hk2.trans (KeepsOthers.setCell _ _ _)).trans (KeepsOthers.setCell _ _ _)).trans (KeepsOthers.setCell _ _ _)).trans (KeepsOthers.setCell _ _ _)), ⟨rfl, HG.out⟩, ?_, ?_, ?_, ?_⟩
        · exact ((((hx0'.kept (grownBy_setCell' _ _ _) (by simp <;> omega)).kept (grownBy_setCell' _ _ _) (by simp <;> omega)).set _).kept (grownBy_setCell' _ _ _) (by simp <;> omega))
        · exact ((((hx1'.kept (grownBy_setCell' _ _ _) (by simp <;> omega)).kept (grownBy_setCell' _ _ _) (by simp <;> omega)).kept (grownBy_setCell' _ _ _) (by simp <;> omega)).set _)
        · exact below_set (below_set (below_set (below_set hBW (by omega) (by omega) _) (by simp; omega) (by omega) _) (by simp; omega) (by omega) _) (by simp; omega) (by omega) _
        · simp; omega
      | some l' =>
        rw [hak] at hal hgo2
        have HA := Lib.hid hal
        have HG := Lib.hid hgo2
        have hn' := along_names l l' x hn hak
        have hl' : l'.length ≤ k + 1 := by
          have := along_size l l' x hak
          omega
        clear hal hgo2 hak hgo hn ho hfl
        generalize (flatP l).length = n at *
        gi_wp2_with (refine ⟨trivial, ?_⟩; gi_at_call 17; refine (CallsIn.inRound lo (callsIn_wide.2 HA.out)).mono ?_; rintro e W2 ⟨⟨v', rfl, ho2⟩, hk2, hb2⟩; obtain ⟨A', c', rfl, -, -⟩ := Sl.of_own ho2; have hv2 : Boxed W2 (w.heap.size + 1 + 1 + 1) 32 (.slice A n c) := (hb2.block _ (by omega)).trans hv; have hc2 := hv2.cell; have hf2 := hv2.frozen; have hx2' : Boxed W2 (w.heap.size + 1 + 1) 4 (.bool true) := (hb2.block _ (by omega)).trans hx2; have hd2 := hx2'.cell; have hg2 := hx2'.frozen; have hx0' : Boxed W2 w.heap.size 9 (.string { data := #[] }) := (hb2.block _ (by omega)).trans hx0; have hx1' : Boxed W2 (w.heap.size + 1) 4 (.bool false) := (hb2.block _ (by omega)).trans hx1)
        have s2 := hb2.size
        have hBW : Below w.heap.size w W2 := hB.trans (hb2.mono (by omega))
        refine ⟨(hk2.trans (KeepsOthers.setCell _ _ _)).trans (KeepsOthers.setCell _ _ _), fun j h1 h2 => ?_, ⟨l', .slice A' (flatP l').length c', hn', hl', HG.out.symm, ?_, ?_⟩, ?_, ?_, ?_, ?_, ?_⟩
        · exact ((heap_set_other _ _ _ j (by omega)).trans (heap_set_other _ _ _ j (by omega))).trans (hb2.block j (by omega))
        · exact (hv2.set _).kept (grownBy_setCell' _ _ _) (by simp <;> omega)
        · have h3 := ho2.kept (grownBy_setCell' W2 (w.heap.size + 1 + 1 + 1) (.slice A' (flatP l').length c')) (.inr (hv2.not_row (by decide) ho2).symm)
          have hx3 : Boxed (W2.setCell ⟨w.heap.size + 1 + 1 + 1, 0, none⟩ (.slice A' (flatP l').length c')) (w.heap.size + 1 + 1) 4 (.bool true) := hx2'.kept (grownBy_setCell' _ _ _) (by simp <;> omega)
          exact h3.kept (grownBy_setCell' _ _ _) (.inr (hx3.not_row (by decide) h3).symm)
        · exact (hx2'.kept (grownBy_setCell' _ _ _) (by simp <;> omega)).set _
        · exact (hx0'.kept (grownBy_setCell' _ _ _) (by simp <;> omega)).kept (grownBy_setCell' _ _ _) (by simp <;> omega)
        · exact (hx1'.kept (grownBy_setCell' _ _ _) (by simp <;> omega)).kept (grownBy_setCell' _ _ _) (by simp <;> omega)
        · exact below_set (below_set hBW (by omega) (by omega) _) (by simp; omega) (by omega) _
        · simp; omega
    case done =>
      rintro D W hD ⟨⟨l, v, hn, hl, hgo, hv, ho⟩, hx2, hx0, hx1, hB, hlo⟩ hK
      rw [hsize, ← hps] at hl hgo
      have hgl : goN [] ps = some l := by rw [← hgo, List.drop_length]; rfl
      have HF := Lib.hid (HN2.out l hgl)
      have hfl := flatP_le l (fun y hy => nameL_len y (hn y hy))
      obtain ⟨A, c, rfl, -, hsl⟩ := Sl.of_own ho
      have hc3 := hv.cell
      have hp0 := hx0.cell
      have hp1 := hx1.cell
      have hq0 := hx0.frozen
      have hq1 := hx1.frozen
      have HC := Lib.hid (joinP_flat l)
      have HE := Lib.hid (flatP_eq_nil l)
      clear hps hsize hgives hbox hsq bx0 bx1 bx2 bx3 hB2 hgo hgl HN1 HN2 hpl hn
      have fin : ∀ S T : Value, ((W.setCell ⟨w.heap.size, 0, none⟩ S).setCell ⟨w.heap.size + 1, 0, none⟩ T).heap[D]? = some (.deferred (some [])) ∧
          Boxed (((W.setCell ⟨w.heap.size, 0, none⟩ S).setCell ⟨w.heap.size + 1, 0, none⟩ T).putObj D (.deferred none)) w.heap.size 9 S ∧
          Boxed (((W.setCell ⟨w.heap.size, 0, none⟩ S).setCell ⟨w.heap.size + 1, 0, none⟩ T).putObj D (.deferred none)) (w.heap.size + 1) 4 T ∧
          Below w.heap.size w (((W.setCell ⟨w.heap.size, 0, none⟩ S).setCell ⟨w.heap.size + 1, 0, none⟩ T).putObj D (.deferred none)) := by
        intro S T
        have hK3 : ((W.setCell ⟨w.heap.size, 0, none⟩ S).setCell ⟨w.heap.size + 1, 0, none⟩ T).heap[D]? = some (.deferred (some [])) :=
          ((heap_set_other _ _ _ D (by omega)).trans (heap_set_other _ _ _ D (by omega))).trans hK
        refine ⟨hK3, ?_, ?_, ?_⟩
        · exact (World.putObj_heap_other (by omega)).trans ((hx0.set S).kept (grownBy_setCell' _ _ _) (by simp <;> omega))
        · exact (World.putObj_heap_other (by omega)).trans ((hx1.kept (grownBy_setCell' _ _ _) (by simp <;> omega)).set T)
        · exact (below_set (below_set hB (by omega) (by omega) S) (by simp; omega) (by omega) T).trans (belowK_b (w := w) (Nat.le_refl _) _ D _ _ (by omega) hK3 rfl rfl)
      have HFin := Lib.hid fin
      clear fin
      by_cases h256 : 256 < (flatP l).length
      · have hlt : (256 : Int) < ((flatP l).length : Int) := by omega
        have hl0 : ¬ l = [] := fun h => by rw [(HE.out).2 h] at h256; simp at h256
        have hn2 : ¬ (flatP l).length ≤ 256 := by omega
        have HV := Lib.hid (show V = none by rw [HF.out, HC.out, if_neg hl0, if_neg hn2])
        clear HF HC HE h256 hl0 hn2
        gi_wp2
        obtain ⟨hK3, hy0, hy1, hB3⟩ := HFin.out (.string { data := #[] }) (.bool false)
        refine ⟨by simp, .inl ⟨_, _, rfl, run_takeDeferred hK3, ?_⟩⟩
        exact ⟨_, results_boxes rfl _ _ _ _ _ _ rfl rfl hy0 hy1, by rw [HV.out]; rfl, hB3⟩
      · have hle : ((flatP l).length : Int) ≤ 256 := by omega
        by_cases hle0 : l = []
        · have HV := Lib.hid (show V = some [47] by rw [HF.out, hle0]; rfl)
          have h0 : (((flatP l).length : Int) == 0) = true := by rw [hle0]; rfl
          clear HF HC HE h256 hle0
          gi_wp2
          obtain ⟨hK3, hy0, hy1, hB3⟩ := HFin.out (.string { data := #[47] }) (.bool true)
          refine ⟨by simp, .inl ⟨_, _, rfl, run_takeDeferred hK3, ?_⟩⟩
          exact ⟨_, results_boxes rfl _ _ _ _ _ _ rfl rfl hy0 hy1, by rw [HV.out]; rfl, hB3⟩
        · have hne : flatP l ≠ [] := fun h => hle0 ((HE.out).1 h)
          have HV := Lib.hid (show V = some (flatP l) by rw [HF.out, HC.out, if_neg hle0, if_pos (by omega)])
          have h0 : (((flatP l).length : Int) == 0) = false := by
            rw [beq_eq_false_iff_ne]
            have := List.length_pos_iff.2 hne
            omega
          have hcv := conv_bytes hsl _ rfl
          clear HF HC HE h256 hle0 hne
          gi_wp2
          obtain ⟨hK3, hy0, hy1, hB3⟩ := HFin.out (.string (bstr (flatP l))) (.bool true)
          refine ⟨by simp, .inl ⟨_, _, rfl, run_takeDeferred hK3, ?_⟩⟩
          exact ⟨_, results_boxes rfl _ _ _ _ _ _ rfl rfl hy0 hy1, by rw [HV.out]; rfl, hB3⟩
    case stop =>
      rintro D k c W hD hk ⟨⟨rfl, hno⟩, hx0, hx1, hB, hlo⟩ hK
      have HV := Lib.hid (HN1.out hno)
      clear hps hsize hk hgives hbox hsq bx0 bx1 bx2 bx3 hB2 hpl HN1 HN2 hno
      gi_wp2
      refine ⟨by simp, .inl ⟨_, _, rfl, run_takeDeferred hK, ?_⟩⟩
      refine ⟨_, results_boxes rfl _ _ _ _ _ _ rfl rfl ((World.putObj_heap_other (by omega)).trans hx0) ((World.putObj_heap_other (by omega)).trans hx1), by rw [HV.out]; rfl, hB.trans (belowK_b (w := w) (Nat.le_refl _) W D _ _ (by omega) hK rfl rfl)⟩
  · have HW := Lib.hid (show V = none by rw [HV.out]; exact normL_head s h4)
    have hct := Lib.hid (fun w' => cut_no s h4 w')
    clear HV h4
    generalize bstr s = P at *
    gi_wp2_with (refine ⟨trivial, ?_⟩; gi_at_call 15; refine (callsIn_wide.2 (hct.out _)).mono ?_; rintro e w1 ⟨rfl, rfl⟩)
    have e1 : (w.alloc (.cells #[.string { data := #[] }] 9)).heap.size = w.heap.size + 1 := World.size_alloc _ _
    have e2 : ((w.alloc (.cells #[.string { data := #[] }] 9)).alloc (.cells #[.bool false] 4)).heap.size = w.heap.size + 1 + 1 := by rw [World.size_alloc, e1]
    have b0 := Boxed.new w 9 (.string { data := #[] })
    have b1 := Boxed.new (w.alloc (.cells #[.string { data := #[] }] 9)) 4 (.bool false)
    rw [e1] at b1
    refine ⟨_, results_boxes rfl _ _ _ _ _ _ rfl rfl ((b0.alloc _).alloc _) (b1.alloc _), ?_, ?_⟩
    · rw [HW.out]; rfl
    · exact (((Below.refl _ w).alloc (Nat.le_refl _) _).alloc (by rw [e1]; omega) _).alloc (by rw [e2]; omega) _
end Go.Proofs.YtipnmjhijjfehaaDoor
