/- LAYER 12: package addr: numbers. -/
import Derived.Test.YtpmibdgghojgaaaDoorRs
import Derived.Test.YtpmibdgghojgaaaDoorAq
import Derived.Test.YtpmibdgghojgaaaDoorAd7
import Derived.Maps.AppendAt
import Derived.RangeFuncBox
namespace Go.Proofs.YtpmibdgghojgaaaDoor
set_option maxRecDepth 100000
open Go Go.RowKit

attribute [local go_sem] Oper.semAt_some
/-- What package addr's numbers answers of a text. -/
def numsF (b : Nat) (x : UInt8) (s : List UInt8) : List Nat := if s = [] then [] else ((splitL x s).take 8).map fun p => (puA b p).1
theorem numsF_len (b : Nat) (x : UInt8) (s : List UInt8) : (numsF b x s).length ≤ 8 := by
  unfold numsF; split
  · simp
  · rw [List.length_map, List.length_take]; omega
theorem numsF_le (b : Nat) (x : UInt8) (s : List UInt8) : ∀ n ∈ numsF b x s, n ≤ 65535 := by
  intro n hn
  unfold numsF at hn
  split at hn
  · cases hn
  · obtain ⟨p, -, rfl⟩ := List.mem_map.1 hn
    exact (puA_code b p).1
def GaveNums (l : List Nat) (w : World) (e : Ending) (w' : World) : Prop := ∃ v, e = .returned v ∧ w'.ownsRow w.heap.size 31 1 v l.length (hwV l) ∧ Below w.heap.size w w'
theorem own_base {w : World} {b b' t n : Nat} {v : Value} {xs : List Value} (h : w.ownsRow b t 1 v n xs) (hb : b' ≤ b) : w.ownsRow b' t 1 v n xs := by
  obtain ⟨hl, h | ⟨g, cap, cur, rfl, hg, h⟩⟩ := h
  · exact ⟨hl, .inl h⟩
  · exact ⟨hl, .inr ⟨g, cap, cur, rfl, Nat.le_trans hb hg, h⟩⟩
theorem box_calm {X Y : World} {B t own lo r : Nat} {v : Value} (h : Boxed X B t v) (hg : X.grownBy Y (some r)) (hr : r = own ∨ (lo ≤ r ∧ ∃ o : Obj, X.heap[r]? = some o ∧ o.isCells = false)) (hne : B ≠ own) : Boxed Y B t v := by
  refine h.kept hg fun e => ?_
  cases e
  rcases hr with rfl | ⟨-, o, ho, hc⟩
  · exact hne rfl
  · rw [show X.heap[B]? = _ from h] at ho; cases ho; cases hc
theorem own_calm {X Y : World} {base t own lo r n : Nat} {v : Value} {xs : List Value} (h : X.ownsRow base t 1 v n xs) (hg : X.grownBy Y (some r)) (hr : r = own ∨ (lo ≤ r ∧ ∃ o : Obj, X.heap[r]? = some o ∧ o.isCells = false)) (hne : own < base) : Y.ownsRow base t 1 v n xs := by
  refine h.kept hg ?_
  obtain ⟨-, h | ⟨g, cap, cur, rfl, hb, hgb, -⟩⟩ := h
  · exact .inl (by rw [h.1]; rfl)
  · refine .inr fun e => ?_
    have e : g = r := by simpa [Value.ownBlock] using e
    subst e
    rcases hr with rfl | ⟨-, o, ho, hc⟩
    · omega
    · rw [hgb] at ho; cases ho; cases hc
theorem splitL_piece (x : UInt8) (s : List UInt8) : ∀ p ∈ splitL x s, p.length ≤ s.length := by
  induction s with
  | nil => intro p hp; rw [splitL] at hp; rw [List.mem_singleton.1 hp]; exact Nat.le_refl _
  | cons c s ih =>
    intro p hp
    rw [splitL] at hp
    split at hp
    · rcases List.mem_cons.1 hp with rfl | hp
      · simp
      · have := ih p hp; rw [List.length_cons]; omega
    · split at hp
      · rw [List.mem_singleton.1 hp]; simp
      · rename_i q qs hq
        rcases List.mem_cons.1 hp with rfl | hp
        · have := ih q (by rw [hq]; exact List.mem_cons_self ..); rw [List.length_cons, List.length_cons]; omega
        · have := ih p (by rw [hq]; exact List.mem_cons_of_mem _ hp); rw [List.length_cons]; omega
theorem infoU16 : (Tryd.prog.info? 31).map (fun i => (i.zero, i.size, i.bytes)) = some (some (.int .u16 0), 1, 2) := by kernel_rfl
/-- 'out = append(out, ..)' of a boxed slice whose row lies at or above lo, the box below it. -/
theorem push_box {W w3 : World} {n₀ lo B : Nat} {t e : TypeId} {v v' : Value} {k m : Nat} {xs ys : List Value} {tmp : Obj} (hte : t ≠ e)
    (hv : Boxed W B t v) (hrow : W.ownsRow lo e 1 v k xs) (hlo : lo ≤ W.heap.size) (hB : n₀ ≤ B ∧ B < lo) (hown' : w3.ownsRow lo e 1 v' m ys) (hgrow : (W.alloc tmp).grownBy w3 v.ownBlock) :
    Boxed w3 B t v ∧ Boxed (w3.setCell ⟨B, 0, none⟩ v') B t v' ∧ KeepsOthers W (w3.setCell ⟨B, 0, none⟩ v') ∧ Below n₀ W (w3.setCell ⟨B, 0, none⟩ v') ∧ (w3.setCell ⟨B, 0, none⟩ v').ownsRow lo e 1 v' m ys ∧
      ∀ j, j < lo → j ≠ B → (w3.setCell ⟨B, 0, none⟩ v').heap[j]? = W.heap[j]? := by
  obtain ⟨h1, h2, -, h4, h5⟩ := hv.appended hte (own_base hrow (by omega : n₀ ≤ lo)) (by omega) hB.1 (own_base hown' (by omega : n₀ ≤ lo)) hgrow
  refine ⟨h1, h2, h4, h5, hown'.kept (grownBy_setCell' w3 B v') (.inr (h1.not_row hte hown').symm), fun j hj hne => ?_⟩
  refine (Below.heap_setCell w3 ⟨B, 0, none⟩ v' j hne).trans ((hgrow.block j (by rw [World.size_alloc]; omega) fun e' => ?_).trans (Below.heap_alloc W tmp j (by omega)))
  obtain ⟨-, h | ⟨g, cap, cur, rfl, hg, -⟩⟩ := hrow
  · rw [h.1] at e'; cases e'
  · have : j = g := by simpa [Value.ownBlock] using e'
    omega
/-- What numbers' loop holds behind k rounds. -/
def NumsI (w : World) (lo : Nat) (b : Nat) (ps : List (List UInt8)) (m : Nat) (W : World) : Prop :=
  (∃ v, Boxed W (w.heap.size + 1) 46 v ∧ W.ownsRow lo 31 1 v m (hwV ((ps.take m).map fun p => (puA b p).1))) ∧ Boxed W w.heap.size 3 (.int .i64 b) ∧ Below w.heap.size w W ∧ lo ≤ W.heap.size
theorem NumsI.calm {w : World} {lo b m own : Nat} {ps : List (List UInt8)} (hown : own < lo) (h1 : w.heap.size + 1 < own) {X Y : World} {r : Nat} (h : NumsI w lo b ps m X) (hg : X.grownBy Y (some r)) (hr : r = own ∨ (lo ≤ r ∧ ∃ o : Obj, X.heap[r]? = some o ∧ o.isCells = false)) : NumsI w lo b ps m Y := by
  obtain ⟨⟨v, hv, ho⟩, hbx, hB, hlo⟩ := h
  refine ⟨⟨v, box_calm hv hg hr (by omega), own_calm ho hg hr hown⟩, box_calm hbx hg hr (by omega), hB.grown hg hB.size fun k e => ?_, Nat.le_trans hlo hg.size⟩
  cases e
  rcases hr with rfl | ⟨h, -⟩ <;> omega
set_option maxHeartbeats 4000000 in
theorem anumbers_any (b : Nat) (hb : b = 10 ∨ b = 16) (x : UInt8) (s : List UInt8) (hs : s.length ≤ 100000) (w : World) (hE : Env w) :
    Calls Tryd.prog 25 #[.string (bstr s), .string (bstr [x]), .int .i64 b] w (GaveNums (numsF b x s) w) := by
  refine (callsIn_wide (n := 9)).1 ?_
  refine callsIn_of_wp_marks Tryd.func25 rfl trivial ?_ rfl
  simp only [Tryd.ntmps25, List.size_toArray, List.length_cons, List.length_nil, Nat.reduceAdd, Nat.reduceSub, Array.replicate_succ, Array.replicate_zero, List.push_toArray, List.append_toArray, List.nil_append, List.cons_append]
  by_cases h0 : s = []
  · subst h0
    have hne : (bstr []).toList.isEmpty = true := by rw [bstr_toList]; rfl
    generalize bstr [] = S at *
    gi_wp2
    refine ⟨_, results_tmp rfl _ _ _, _, rfl, ?_, (Below.refl _ w).alloc (Nat.le_refl _) _⟩
    exact World.ownsRow_nil _ _ _ _
  · have hne : (bstr s).toList.isEmpty = false := by
      rw [bstr_toList]
      cases s with
      | nil => exact absurd rfl h0
      | cons _ _ => rfl
    have hsq := Lib.hid (fun w' => splitSeq_any s x w')
    gi_wp2_with (refine ⟨trivial, ?_⟩; gi_at_call 33; refine (callsIn_wide.2 (hsq.out _)).mono ?_; rintro e w2 ⟨rfl, hbox, hb2, hz2⟩)
    rw [World.size_alloc, World.size_alloc] at hbox hz2
    have bx0 : Boxed w2 w.heap.size 3 (.int .i64 b) := (hb2.block _ (by rw [World.size_alloc, World.size_alloc]; omega)).trans ((Boxed.new w 3 (.int .i64 b)).alloc _)
    have bx1 : Boxed w2 (w.heap.size + 1) 46 (.slice none 0 0) := (hb2.block _ (by rw [World.size_alloc, World.size_alloc]; omega)).trans (by
      have := Boxed.new (w.alloc (.cells #[.int .i64 (b : Int)] 3)) 46 (.slice none 0 0)
      rwa [World.size_alloc] at this)
    have hB2 : Below w.heap.size w w2 := (((Below.refl _ w).alloc (Nat.le_refl _) _).alloc (by rw [World.size_alloc]; omega) _).trans (hb2.mono (by rw [World.size_alloc, World.size_alloc]; omega))
    clear hb2
    have hsize : (piecesV s x).length = (splitL x s).length := by unfold piecesV; rw [List.length_map]
    obtain ⟨ps, hps⟩ : ∃ ps, ps = splitL x s := ⟨_, rfl⟩
    have HN := Lib.hid (show numsF b x s = (ps.take 8).map fun p => (puA b p).1 by unfold numsF; rw [if_neg h0, hps])
    have hpl : ∀ p ∈ ps, p.length ≤ 100000 := fun p hp => Nat.le_trans (splitL_piece x s p (by rw [← hps]; exact hp)) hs
    have hgives := splitSeq_gives 8 (by omega) (w.heap.size + 1 + 1) s x hs w2 hbox (by omega)
    refine wpIn_rangeList rfl (by omega) (gf := 54) rfl trivial (enters_of Tryd.func54 (by kernel_rfl) rfl) hgives (by omega) SeqKeep.trans
      (fun W l o' hl k h1 h2 => World.putObj_heap_other (by omega)) (Below.refl _ _) (fun v hv => by
        unfold piecesV at hv
        obtain ⟨p, -, rfl⟩ := List.mem_map.1 hv
        rfl)
      (fun k W => k ≤ 8 ∧ NumsI w w2.heap.size b ps k W) (fun c k W => (c = .exit 0 ∧ k = 9) ∧ NumsI w w2.heap.size b ps 8 W)
      (fun k X Y r h hg hr => ⟨h.1, h.2.calm (by omega) (by omega) hg hr⟩) (fun c k X Y r h hg hr => ⟨h.1, h.2.calm (by omega) (by omega) hg hr⟩)
      ⟨by omega, ⟨_, bx1, World.ownsRow_nil _ _ _ _⟩, bx0, hB2, Nat.le_refl _⟩
      (fun k => { tmps := #[.string (bstr s), .string (bstr [x]), .int .i64 b, undef, undef, .pointer (some ⟨w.heap.size, 0, none⟩), .slice none 0 0, .pointer (some ⟨w.heap.size + 1, 0, none⟩), .string (bstr (ps.getD k [])), undef, undef, .string (bstr s), .bool false, .string (bstr s), .string (bstr [x]),
          .func (.func 54) #[] #[.pointer (some ⟨w.heap.size + 1 + 1 + 1, 0, none⟩), .pointer (some ⟨w.heap.size + 1 + 1, 0, none⟩), .pointer (some ⟨w.heap.size + 1 + 1 + 2, 0, none⟩)], .string (bstr (ps.getD k [])), undef, undef, undef, undef, undef, undef, undef, undef, undef, undef, undef, undef, undef, undef, undef], defers := [] }) ?assign ?body ?done ?stop
    case assign =>
      intro l k v W K hv hK
      have hv : v = #[.string (bstr (ps.getD k []))] := by
        unfold piecesV at hv
        rw [← hps, List.getElem?_map] at hv
        rw [List.getD_eq_getElem?_getD]
        cases hq : ps[k]? with
        | none => rw [hq] at hv; cases hv
        | some q => rw [hq] at hv; cases hv; rfl
      subst hv
      clear hps
      gi_wp2
      exact hK
    case body =>
      rintro l k W hk ⟨hk8, ⟨v, hv, ho⟩, hbx, hB, hlo⟩
      have hkp : k < ps.length := by rw [hps, ← hsize]; exact hk
      clear hps hsize hk hgives hbox hne hsq bx0 bx1 hB2
      obtain ⟨A, c, rfl, -, -⟩ := Sl.of_own ho
      have hc := hv.cell
      have hcb := hbx.cell
      by_cases h8 : k = 8
      · subst h8
        generalize ps.getD 8 [] = p
        gi_wp2
        exact ⟨KeepsOthers.refl _, ⟨rfl, rfl⟩, ⟨_, hv, ho⟩, hbx, hB, hlo⟩
      · have h8' : ((k : Int) == 8) = false := by simp; omega
        have hp1 : (ps.getD k []).length ≤ 100000 := hpl _ (by rw [List.getD_eq_getElem?_getD, List.getElem?_eq_getElem hkp]; exact List.getElem_mem hkp)
        have hpu := Lib.hid (pu_any b hb (ps.getD k []) hp1 W (hE.next hB))
        have HS := Lib.hid (show (ps.take (k + 1)).map (fun p => (puA b p).1) = (ps.take k).map (fun p => (puA b p).1) ++ [(puA b (ps.getD k [])).1] by
          rw [List.take_add_one, List.map_append, List.getElem?_eq_getElem hkp, List.getD_eq_getElem?_getD, List.getElem?_eq_getElem hkp]; rfl)
        have hq := (puA_code b (ps.getD k [])).1
        generalize (puA b (ps.getD k [])).1 = q at *
        have hw16 : IntKind.u16.wrap (q : Int) = (q : Int) := by rw [IntKind.wrap_u16]; omega
        clear hpl
        generalize ps.getD k [] = p at *
        obtain ⟨i0, hi, hz0, hz1, hz2'⟩ := info_parts infoU16
        have hlow : w.heap.size ≤ w.heap.size + 1 ∧ w.heap.size + 1 < w2.heap.size := by omega
        have n1 : k + 1 ≤ maxLen := by unfold maxLen; omega
        have n2 : (k + 1) * 2 ≤ 140737488355328 := by omega
        gi_wp2_with (first
          | (refine ⟨trivial, ?_⟩; gi_at_call 34; refine (CallsIn.inRound l (callsIn_wide.2 hpu.out)).mono ?_; rintro e W2 ⟨ev, rfl, hb2⟩; clear hpu; have hv2 : Boxed W2 (w.heap.size + 1) 46 (.slice A k c) := (hb2.block _ hv.lt).trans hv; have hc2 := hv2.cell; have ho2 := own_later ho hb2 (Nat.le_refl _); have hbx2 : Boxed W2 w.heap.size 3 (.int .i64 (b : Int)) := (hb2.block _ hbx.lt).trans hbx; have hB2 := hB.trans (hb2.mono hB.size); have hlo2 := Nat.le_trans hlo hb2.size)
          | (gi_at_builtin; have _t := hb2; refine wpListIn_append_own _ rfl _ _ 46 rfl w2.heap.size 31 i0 (.int .u16 0) 1 2 Tryd.underlying46 hi hz0 hz1 hz2' rfl (by decide) _ _ _ rfl (ho2.alloc _) ⟨W2.heap.size, 0, none⟩ 1 1 [.int .u16 (q : Int)] rfl rfl (cell_one_new _ _ _) (by simp [Value.oneCell']) n1 n2 (by rw [World.size_alloc]; omega) ?_; intro v' w3 hown' hgrow _; obtain ⟨g', cap', rfl⟩ := ownsRow_succ hown'; obtain ⟨hv3, hv4, hk4, hb4, ho4, hs4⟩ := push_box (by decide) hv2 ho2 hlo2 hlow hown' hgrow; clear hown' hgrow; have hc3 := hv3.cell; have hf3 := hv3.frozen))
        have e2 : hwV ((ps.take k).map fun p => (puA b p).1) ++ [.int .u16 (q : Int)] = hwV ((ps.take (k + 1)).map fun p => (puA b p).1) := by rw [HS.out]; unfold hwV; rw [List.map_append]; rfl
        rw [e2] at ho4
        exact ⟨(KeepsOthers.of_grownBy (grown_of_below hb2 none) (fun j o e => by cases e)).trans hk4, fun j h1 h2 => (hs4 j (by omega) (by omega)).trans (hb2.block j (by omega)), by omega, ⟨_, hv4, ho4⟩,
          (hs4 _ (by omega) (by omega)).trans hbx2, hB2.trans hb4, Nat.le_trans hlo2 hb4.size⟩
    case done =>
      rintro D W hD ⟨hk8, ⟨v, hv, ho⟩, hbx, hB, hlo⟩ hK
      rw [hsize, ← hps] at ho hk8
      have hc := hv.cell
      have e3 : (ps.take ps.length).map (fun p => (puA b p).1) = numsF b x s := by rw [HN.out, List.take_length, List.take_of_length_le hk8]
      rw [e3] at ho
      have hnl : (numsF b x s).length = ps.length := by rw [← e3, List.length_map, List.take_length]
      clear hps hsize hgives hbox hne hsq bx0 bx1 hB2 hpl
      obtain ⟨A, c, rfl, -, -⟩ := Sl.of_own ho
      gi_wp2
      refine ⟨by simp, .inl ⟨_, _, rfl, run_takeDeferred hK, ?_⟩⟩
      refine ⟨_, results_tmp rfl _ _ _, _, rfl, ?_, hB.trans (belowK_b (w := w) (Nat.le_refl _) W D _ _ (by omega) hK rfl rfl)⟩
      rw [hnl]
      exact ownsRow_putObj (own_base ho (by omega)) _ hK rfl
    case stop =>
      rintro D k c W hD hk ⟨⟨rfl, hk9⟩, ⟨v, hv, ho⟩, hbx, hB, hlo⟩ hK
      have hc := hv.cell
      have hkp : k < ps.length := by rw [hps, ← hsize]; exact hk
      have hnl : (numsF b x s).length = 8 := by rw [HN.out, List.length_map, List.length_take]; omega
      rw [← HN.out] at ho
      clear hps hsize hk hgives hbox hne hsq bx0 bx1 hB2 hpl
      obtain ⟨A, c, rfl, -, -⟩ := Sl.of_own ho
      gi_wp2
      refine ⟨by simp, .inl ⟨_, _, rfl, run_takeDeferred hK, ?_⟩⟩
      refine ⟨_, results_tmp rfl _ _ _, _, rfl, ?_, hB.trans (belowK_b (w := w) (Nat.le_refl _) W D _ _ (by omega) hK rfl rfl)⟩
      rw [hnl]
      exact ownsRow_putObj (own_base ho (by omega)) _ hK rfl
end Go.Proofs.YtpmibdgghojgaaaDoor
