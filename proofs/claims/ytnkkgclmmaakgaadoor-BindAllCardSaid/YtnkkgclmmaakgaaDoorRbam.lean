/- Texts of this claim, one behind the other. -/
import Derived.Test.YtnkkgclmmaakgaaDoorRbai
import Derived.Test.YtnkkgclmmaakgaaDoorRbal
/- LAYER 11: slices.EqualFunc of tokens, package bundle's Same, the document's Same. -/
namespace Go.Proofs.YtnkkgclmmaakgaaDoor
set_option maxRecDepth 100000
open Go Go.RowKit

theorem take_same_of {α : Type} {xs ys : List α} {k : Nat} {a : α} (h : xs.take k = ys.take k) (ha : xs[k]? = some a) (hb : ys[k]? = some a) : xs.take (k + 1) = ys.take (k + 1) := by
  rw [List.take_add_one, List.take_add_one, h, ha, hb]
set_option maxRecDepth 100000 in
set_option maxHeartbeats 4000000 in
theorem rbsame_v {lo lo' : Nat} {b u : Bun} {w : World} {v v' : Value} (hb : b.Ok) (hu : u.Ok) (hf : b.Fit) (h1 : BunV lo b w v) (h2 : BunV lo' u w v') :
    Calls Tryd.prog 18 #[v, v'] w fun e w' => e = .returned (.bool (decide (b = u))) ∧ Below w.heap.size w w' := by
  obtain ⟨Ax, cx, Bx, dx, ds, rfl, hbx, hsx, hpx⟩ := h1.parts
  obtain ⟨Ay, cy, By, dy, es, rfl, hby, hsy, hpy⟩ := h2.parts
  have hdx := bunOf_dis hbx
  have hdy := bunOf_dis hby
  obtain ⟨r0, r1, hb1, _⟩ := two_rows (w := w) (A := bunV b.root Ax cx Bx ds.length dx) (B := bunV u.root Ay cy By es.length dy) (tA := 40) (tB := 40) rfl
  have hlt0 := r0.lt
  have hlt1 := r1.lt
  have hTx := row_bun_tok r0
  have hTy := row_bun_tok r1
  have hDx := fun w' (h : Below _ _ w') => row_bun_dis hb.root (r0.later h hlt0)
  have hDy := fun w' (h : Below _ _ w') => row_bun_dis hu.root (r1.later h hlt1)
  have hsx1 := hsx.later (Nat.le_refl _) hb1
  have hsy1 := hsy.later (Nat.le_refl _) hb1
  have hpx1 := hpx.later (Nat.le_refl _) hb1
  have hpy1 := hpy.later (Nat.le_refl _) hb1
  have hokx : ∀ e ∈ toks ds, e.Ok := by rw [← hdx]; exact hb.dis
  have hoky : ∀ e ∈ toks es, e.Ok := by rw [← hdy]; exact hu.dis
  have hlx := length_tokV hb.root Ax cx
  have hly := length_tokV hu.root Ay cy
  have hml : (toks ds).length = ds.length := toks_len ds
  have hne : (toks es).length = es.length := toks_len es
  have HEQ := Lib.hid (show decide (b = u) = (decide (b.root = u.root) && decide (toks ds = toks es)) by rw [← hdx, ← hdy, ← Bool.decide_and]; exact decide_eq_decide.2 (Bun.ext_iff' b u))
  have hdl : ds.length ≤ 9223372036854775807 := by rw [← hml, ← hdx]; exact hf.many
  have hsm := Lib.hid (fun w' p q => rsame_any b.root u.root hb.root hu.root Ax cx Ay cy w' p q hf.root.many)
  have hfit : ∀ e ∈ toks ds, e.Fit := by rw [← hdx]; exact hf.dis
  rw [HEQ.out]
  obtain ⟨VT, hVT⟩ : ∃ V, V = tokV b.root Ax cx := ⟨_, rfl⟩
  obtain ⟨UT, hUT⟩ : ∃ V, V = tokV u.root Ay cy := ⟨_, rfl⟩
  generalize bunV b.root Ax cx Bx ds.length dx = V at *
  generalize bunV u.root Ay cy By es.length dy = U at *
  rw [← hVT] at hTx hlx hsm
  rw [← hUT] at hTy hly hsm
  have hzVT := Lib.hid (show (Tryd.prog.info? 27).map (·.size) = some VT.length by rw [size_tok, hlx])
  have hzUT := Lib.hid (show (Tryd.prog.info? 27).map (·.size) = some UT.length by rw [size_tok, hly])
  have hDx1 := hDx _ (Below.refl _ _)
  have hDy1 := hDy _ (Below.refl _ _)
  clear hVT hUT hlx hly r0 r1 hlt0 hlt1 hbx hby hdx hdy
  obtain ⟨RQ, hRQ⟩ : ∃ R, R = decide (b.root = u.root) := ⟨_, rfl⟩
  rw [← hRQ] at hsm ⊢
  clear hRQ HEQ
  have HRD : ∃ R, R = decide (toks ds = toks es) := ⟨_, rfl⟩
  obtain ⟨R, hR⟩ := HRD
  rw [← hR]
  have HR := Lib.hid hR
  clear hR hb hu hf h1 h2
  cases RQ with
  | false =>
    generalize ds.length = n at *
    generalize es.length = m at *
    go_enter Tryd.func18, Tryd.ntmps18
    go_wp2_with (first
        | (with_reducible refine wpList_load_mid rfl 27 (.tmp 6) rfl w.heap.size 0 rfl VT _ hTx Tryd.underlying27 rfl hzVT.out ?_)
        | (with_reducible refine wpList_load_mid rfl 27 (.tmp 8) rfl (w.heap.size + 1) 0 rfl UT _ hTy Tryd.underlying27 rfl hzUT.out ?_)
        | (go_at_call 10; refine (hsm.out _ hsx1 hsy1).mono ?_; rintro e w6 ⟨rfl, hb6⟩; have hbw6 := hb1.trans (hb6.mono hb1.size); have cx6 := hDx _ hb6; have cy6 := hDy _ hb6; have px6 := hpx1.later (Nat.le_refl _) hb6; have py6 := hpy1.later (Nat.le_refl _) hb6))
    go_ret
    exact ⟨rfl, hbw6⟩
  | true =>
  rw [Bool.true_and]
  by_cases hL : ds.length = es.length
  · have HL := Lib.hid hL
    have HML := Lib.hid hml
    have HNE := Lib.hid hne
    rw [← hL] at hDy hDy1
    clear hL hml hne
    go_enter Tryd.func18, Tryd.ntmps18
    go_wp2_with (first
        | (with_reducible refine wpList_load_mid rfl 27 (.tmp 6) rfl w.heap.size 0 rfl VT _ hTx Tryd.underlying27 rfl hzVT.out ?_)
        | (with_reducible refine wpList_load_mid rfl 27 (.tmp 8) rfl (w.heap.size + 1) 0 rfl UT _ hTy Tryd.underlying27 rfl hzUT.out ?_)
        | (go_at_call 10; refine (hsm.out _ hsx1 hsy1).mono ?_; rintro e w6 ⟨rfl, hb6⟩; have hbw6 := hb1.trans (hb6.mono hb1.size); have cx6 := hDx _ hb6; have cy6 := hDy _ hb6; have px6 := hpx1.later (Nat.le_refl _) hb6; have py6 := hpy1.later (Nat.le_refl _) hb6))
    have hDx6 : ∀ w', Below w6.heap.size w6 w' → w'.cell? ⟨w.heap.size, 36, none⟩ = some (.slice Bx ds.length dx) := fun w' h => hDx _ (hb6.trans (h.mono hb6.size))
    have hDy6 : ∀ w', Below w6.heap.size w6 w' → w'.cell? ⟨w.heap.size + 1, 36, none⟩ = some (.slice By ds.length dy) := fun w' h => hDy _ (hb6.trans (h.mono hb6.size))
    clear hDx hDy hDx1 hDy1 hTx hTy hsx1 hsy1 hpx1 hpy1 hb6 cx6 cy6 hb1 hsx hsy hpx hpy
    go_loopw [24] (fun i wr => ∃ k : Nat, k ≤ ds.length ∧ i = .int .i64 k ∧ (toks ds).take k = (toks es).take k ∧ Below w6.heap.size w6 wr) (fun i _ => ds.length - (intOf i).toNat)
    case atStart => exact ⟨0, by omega, rfl, rfl, Below.refl _ _⟩
    case round =>
      obtain ⟨k, hk, rfl, hsame, hb⟩ := hrel
      by_cases hlt : k < ds.length
      · obtain ⟨a, ha⟩ : ∃ a, ds[k]? = some a := ⟨_, List.getElem?_eq_getElem hlt⟩
        obtain ⟨f, hf⟩ : ∃ f, es[k]? = some f := ⟨_, List.getElem?_eq_getElem (by have := HL.out; omega)⟩
        obtain ⟨b1, o1, rfl⟩ := px6.nonil hokx hlt
        obtain ⟨b2, o2, rfl⟩ := py6.nonil hoky (k := k) (by have := HL.out; omega)
        have hix := index_tok (some ⟨b1, o1, none⟩) b1 o1 ds.length dx k rfl hlt
        have hiy := index_tok (some ⟨b2, o2, none⟩) b2 o2 ds.length dy k rfl hlt
        have hcx : ∀ w', Below wr.heap.size wr w' → w'.cell? ⟨w.heap.size, 36, none⟩ = some (.slice (some ⟨b1, o1, none⟩) ds.length dx) := fun w' h => hDx6 _ (hb.trans (h.mono hb.size))
        have hcy : ∀ w', Below wr.heap.size wr w' → w'.cell? ⟨w.heap.size + 1, 36, none⟩ = some (.slice (some ⟨b2, o2, none⟩) ds.length dy) := fun w' h => hDy6 _ (hb.trans (h.mono hb.size))
        have hsxa := (px6.each a (List.mem_of_getElem? ha)).later (Nat.le_refl _) hb
        have hsya := (py6.each f (List.mem_of_getElem? hf)).later (Nat.le_refl _) hb
        have hrx : ∀ w', Below wr.heap.size wr w' → w'.rangeAt b1 (o1 + k * 36) (disV a) := fun w' h => (px6.sl.later (Nat.le_refl _) (hb.trans (h.mono hb.size))).thing (k := 36) (dis_ok hokx) k a ha
        have hry : ∀ w', Below wr.heap.size wr w' → w'.rangeAt b2 (o2 + k * 36) (disV f) := fun w' h => (py6.sl.later (Nat.le_refl _) (hb.trans (h.mono hb.size))).thing (k := 36) (dis_ok hoky) k f hf
        have hma := List.mem_of_getElem? (toks_get ha)
        have hsm := Lib.hid (fun w' h1 h2 => rsame_any a.1 f.1 (hokx _ hma) (hoky _ (List.mem_of_getElem? (toks_get hf))) a.2.1 a.2.2 f.2.1 f.2.2 w' h1 h2 (hfit _ hma).many)
        have HS := Lib.hid (show a.1 = f.1 → (toks ds).take (k + 1) = (toks es).take (k + 1) from fun e => take_same_of hsame (toks_get ha) (by rw [e]; exact toks_get hf))
        have HN := Lib.hid (show a.1 ≠ f.1 → R = false from fun e => by
          rw [HR.out]
          refine decide_eq_false (fun h => e ?_)
          have h1 := toks_get ha
          rw [h, toks_get hf] at h1
          exact (Option.some.inj h1).symm)
        have hlVX := length_disV (hokx a.1 (List.mem_of_getElem? (toks_get ha)))
        have hofVX : ∀ v ∈ disV a, v.oneCell' = true := fun v hv => disV_one [a] v (by simpa using hv)
        obtain ⟨VX, hqVX⟩ : ∃ V, V = disV a := ⟨_, rfl⟩
        rw [← hqVX] at hlVX hrx hofVX
        have hzVX := Lib.hid (show (Tryd.prog.info? 27).map (·.size) = some VX.length by rw [size_tok, hlVX])
        have hzVXa := Lib.hid (show (Tryd.prog.info? 27).map (·.size) = some VX.toArray.size by rw [size_tok, List.size_toArray, hlVX])
        have hoVX := Lib.hid (all_one hofVX)
        have h36VX := Lib.hid (show (36 : Nat) = VX.toArray.size by rw [List.size_toArray, hlVX])
        have hlVY := length_disV (hoky f.1 (List.mem_of_getElem? (toks_get hf)))
        have hofVY : ∀ v ∈ disV f, v.oneCell' = true := fun v hv => disV_one [f] v (by simpa using hv)
        obtain ⟨VY, hqVY⟩ : ∃ V, V = disV f := ⟨_, rfl⟩
        rw [← hqVY] at hlVY hry hofVY
        have hzVY := Lib.hid (show (Tryd.prog.info? 27).map (·.size) = some VY.length by rw [size_tok, hlVY])
        have hzVYa := Lib.hid (show (Tryd.prog.info? 27).map (·.size) = some VY.toArray.size by rw [size_tok, List.size_toArray, hlVY])
        have hoVY := Lib.hid (all_one hofVY)
        have h36VY := Lib.hid (show (36 : Nat) = VY.toArray.size by rw [List.size_toArray, hlVY])
        rw [show tokV a.1 a.2.1 a.2.2 = VX from hqVX.symm, show tokV f.1 f.2.1 f.2.2 = VY from hqVY.symm] at hsm
        clear hqVX hqVY ha hf hsame px6 py6 hokx hoky hfit hma hlVX hlVY hofVX hofVY hDx6 hDy6
        have hbw := hbw6.trans (hb.mono hbw6.size)
        have hdk : ds.length ≤ 9223372036854775807 := hdl
        by_cases hae : a.1 = f.1
        · rw [decide_eq_true hae] at hsm
          have HF := Lib.hid (HS.out hae)
          clear hae HS HN
          go_wp2_with fail
          refine wp_region_noPanic ?_
          refine wp_region_held_drew (S := fun w' => Below wr.heap.size wr w') (by kernel_rfl) ((Below.refl _ _).drew) (fun hHeld => ?_)
          have hB := hHeld
          refine rt 0 27 hHeld ?_
          refine rt 1 28 hHeld ?_
          refine rt 2 29 hHeld ?_
          refine rt 3 30 hHeld ?_
          refine rt 4 31 hHeld ?_ (hy := by intro w hS; exact run_load_op 27 (.tmp 30) rfl _ _ rfl VX _ (hrx _ hS) Tryd.underlying27 rfl hzVX.out)
          refine rt 5 32 hHeld ?_
          refine rt 6 33 hHeld ?_
          refine rt 7 34 hHeld ?_
          refine rt 8 35 hHeld ?_
          refine rt 9 36 hHeld ?_ (hy := by intro w hS; exact run_load_op 27 (.tmp 35) rfl _ _ rfl VY _ (hry _ hS) Tryd.underlying27 rfl hzVY.out)
          refine rc1 10 fun K hK => ?_
          go_simp
          refine (hsm.out _ (hsxa.later (Nat.le_refl _) hB) (hsya.later (Nat.le_refl _) hB)).mono ?_; rintro e wwr10 ⟨rfl, hqwr10⟩
          try go_wp2_with fail
          refine hK.out _ _ (hHeld.trans (hqwr10.mono hHeld.size)) (fun hHeld' => ?_)
          clear hK K
          have hB := below_step hB hqwr10
          have hB10 : Below wwr10.heap.size wwr10 wwr10 := Below.refl _ _
          refine wpAnyH_narrow (S' := fun w' => Below wwr10.heap.size wwr10 w') (fun _ h => (hHeld.trans (hqwr10.mono hHeld.size)).trans (h.mono (hHeld.trans (hqwr10.mono hHeld.size)).size)) _ _ _ _ ?_
          clear hHeld
          have hHeld : Below wwr10.heap.size wwr10 wwr10 := Below.refl _ _
          refine rt 11 38 hHeld ?_
          refine wpAnyH_done (by kernel_rfl) ?_ _
          refine NoPanic.normal ?_
          have hbw7 := hb.trans (hB.mono hb.size)
          clear hB hHeld hcx hcy hrx hry
          go_wp2_with fail
          go_roundw
          case rel => exact ⟨k + 1, by omega, by go_num, HF.out, hbw7⟩
          case measure => simp [intOf]; omega
        · rw [decide_eq_false hae] at hsm
          have HF := Lib.hid (HN.out hae)
          clear hae HS HN
          go_wp2_with fail
          refine wp_region_noPanic ?_
          refine wp_region_held_drew (S := fun w' => Below wr.heap.size wr w') (by kernel_rfl) ((Below.refl _ _).drew) (fun hHeld => ?_)
          have hB := hHeld
          refine rt 0 27 hHeld ?_
          refine rt 1 28 hHeld ?_
          refine rt 2 29 hHeld ?_
          refine rt 3 30 hHeld ?_
          refine rt 4 31 hHeld ?_ (hy := by intro w hS; exact run_load_op 27 (.tmp 30) rfl _ _ rfl VX _ (hrx _ hS) Tryd.underlying27 rfl hzVX.out)
          refine rt 5 32 hHeld ?_
          refine rt 6 33 hHeld ?_
          refine rt 7 34 hHeld ?_
          refine rt 8 35 hHeld ?_
          refine rt 9 36 hHeld ?_ (hy := by intro w hS; exact run_load_op 27 (.tmp 35) rfl _ _ rfl VY _ (hry _ hS) Tryd.underlying27 rfl hzVY.out)
          refine rc1 10 fun K hK => ?_
          go_simp
          refine (hsm.out _ (hsxa.later (Nat.le_refl _) hB) (hsya.later (Nat.le_refl _) hB)).mono ?_; rintro e wwr10 ⟨rfl, hqwr10⟩
          try go_wp2_with fail
          refine hK.out _ _ (hHeld.trans (hqwr10.mono hHeld.size)) (fun hHeld' => ?_)
          clear hK K
          have hB := below_step hB hqwr10
          have hB10 : Below wwr10.heap.size wwr10 wwr10 := Below.refl _ _
          refine wpAnyH_narrow (S' := fun w' => Below wwr10.heap.size wwr10 w') (fun _ h => (hHeld.trans (hqwr10.mono hHeld.size)).trans (h.mono (hHeld.trans (hqwr10.mono hHeld.size)).size)) _ _ _ _ ?_
          clear hHeld
          have hHeld : Below wwr10.heap.size wwr10 wwr10 := Below.refl _ _
          refine rt 11 38 hHeld ?_
          refine wpAnyH_done (by kernel_rfl) ?_ _
          refine NoPanic.normal ?_
          have hbw7 := hbw.trans (hB.mono hbw.size)
          clear hB hHeld hcx hcy hrx hry
          go_wp2_with fail
          go_ret
          exact ⟨by rw [HF.out]; rfl, hbw7⟩
      · obtain rfl : k = ds.length := by omega
        have HF := Lib.hid (show R = true by
          rw [HR.out]
          refine decide_eq_true ?_
          have h1 := hsame
          rw [← HML.out, List.take_length, HML.out, HL.out, ← HNE.out, List.take_length] at h1
          exact h1)
        have hbw := hbw6.trans (hb.mono hbw6.size)
        clear hlt hk px6 py6 hsame hokx hoky hfit hDx6 hDy6
        generalize ds.length = n at *
        go_wp2
        go_ret
        exact ⟨by rw [HF.out]; rfl, hbw⟩
  · have HE := Lib.hid (show R = false by rw [HR.out]; exact decide_eq_false (fun h => hL (by rw [← hml, ← hne, h])))
    have hL' : ((ds.length : Int) == (es.length : Int)) = false := by rw [beq_eq_false_iff_ne]; omega
    clear hml hne hL hdl hpx hpy
    generalize ds.length = n at *
    generalize es.length = m at *
    go_enter Tryd.func18, Tryd.ntmps18
    go_wp2_with (first
        | (with_reducible refine wpList_load_mid rfl 27 (.tmp 6) rfl w.heap.size 0 rfl VT _ hTx Tryd.underlying27 rfl hzVT.out ?_)
        | (with_reducible refine wpList_load_mid rfl 27 (.tmp 8) rfl (w.heap.size + 1) 0 rfl UT _ hTy Tryd.underlying27 rfl hzUT.out ?_)
        | (go_at_call 10; refine (hsm.out _ hsx1 hsy1).mono ?_; rintro e w6 ⟨rfl, hb6⟩; have hbw6 := hb1.trans (hb6.mono hb1.size); have cx6 := hDx _ hb6; have cy6 := hDy _ hb6; have px6 := hpx1.later (Nat.le_refl _) hb6; have py6 := hpy1.later (Nat.le_refl _) hb6))
    go_ret
    exact ⟨by rw [HE.out]; rfl, hbw6⟩
end Go.Proofs.YtnkkgclmmaakgaaDoor

/- LAYER 21, BindAll: the walk of the law. -/
namespace Go.Proofs.YtnkkgclmmaakgaaDoor
set_option maxRecDepth 100000
open Go Go.RowKit

/-- What holds from the law's start on. -/
structure AllI (w : World) (V : List Value) (lo : Nat) (b : Bun) (wx : World) : Prop where
  row : Row wx w.heap.size 40 V
  bun : BunV lo b wx (.agg V.toArray)
  env : Tabs wx
  bel : Below w.heap.size w wx
theorem AllI.later {w wx wy : World} {V : List Value} {lo : Nat} {b : Bun} (h : AllI w V lo b wx) (hq : Below wx.heap.size wx wy) : AllI w V lo b wy :=
  ⟨h.row.later hq h.row.lt, h.bun.later hq, h.env.later hq (Nat.le_refl _), h.bel.trans (hq.mono h.bel.size)⟩
theorem large_cavs {b : Bun} (h : largeB b = false) : ∀ e ∈ b.root :: b.dis, e.cavs.length ≤ 1000000 := by
  unfold largeB at h
  simp only [Bool.or_eq_false_iff, decide_eq_false_iff_not, List.any_eq_false, decide_eq_true_eq] at h
  intro e he
  have h1 := capT_len e.cavs
  rcases List.mem_cons.1 he with rfl | he
  · have := h.1.1; unfold capT at this; omega
  · have := h.2 e he; unfold capT at this; omega
theorem large_dis {b : Bun} (h : largeB b = false) : b.dis.length ≤ 1000000 := by
  unfold largeB at h
  simp only [Bool.or_eq_false_iff, decide_eq_false_iff_not] at h
  have := h.1.2; omega
theorem all_cavs {b : Bun} (h : ∀ e ∈ b.root :: b.dis, e.cavs.length ≤ 1000000) : ∀ e ∈ (allB b).root :: (allB b).dis, e.cavs.length ≤ 1000000 := by
  unfold allB; split
  · intro e he
    rcases List.mem_cons.1 he with rfl | he
    · exact h _ List.mem_cons_self
    · obtain ⟨d, hd, rfl⟩ := List.mem_map.1 he
      rw [eachD_cavs]; exact h d (List.mem_cons_of_mem _ hd)
  · intro e he
    rcases List.mem_cons.1 he with rfl | he
    · exact Nat.zero_le _
    · cases he
theorem all_dis {b : Bun} (h : b.dis.length ≤ 1000000) : (allB b).dis.length ≤ 1000000 := by
  unfold allB; split
  · rw [List.length_map]; exact h
  · exact Nat.zero_le _
set_option maxHeartbeats 8000000 in
theorem ball_large (b : Bun) (hb : b.Ok) (hf : b.Fit) (lo : Nat) (v : Value) (w : World) (h : BunV lo b w v) (hT : Tabs w) (g1 : largeB b = true) :
    Calls Tryd.prog 4 #[v] w fun e w' => e = .returned (.bool true) ∧ Below w.heap.size w w' := by
  obtain ⟨V, rfl, hVl, hV1, h⟩ := h.cells hb
  have hzV := Lib.hid (show (Tryd.prog.info? 40).map (·.size) = some V.length by rw [size_bun, hVl])
  obtain ⟨w1, hw1⟩ : ∃ w1, w1 = w.alloc (.cells V.toArray 40) := ⟨_, rfl⟩
  have hb1 : Below w.heap.size w w1 := by rw [hw1]; exact (Below.refl _ w).alloc (Nat.le_refl _) _
  have r1 : Row w1 w.heap.size 40 V := by rw [hw1]; exact Row.new w 40 V
  have HW := Lib.hid hw1
  have I : AllI w V lo b w1 := ⟨r1, h.later hb1, hT.later hb1 (Nat.le_refl _), hb1⟩
  have hgt := Lib.hid (fun w' (h : BunV lo b w' (.agg V.toArray)) => rlarge_v hb hf h)
  clear hw1 hVl hV1 r1 hb1 h
  have tok1 : True := trivial
  rw [g1] at hgt
  simp only [if_true] at hgt
  go_enter Tryd.func4, Tryd.ntmps4
  go_wp2_with (first
    | (have _t := tok1; rw [← HW.out]; clear tok1)
    | (go_at_call 6; refine (balive21_any _ I.env).mono ?_; rintro e w2 ⟨rfl, hq⟩; have I := I.later hq; have K1 := Lib.hid (row_range I.row); clear hq)
    | (with_reducible refine wpList_load_mid rfl 40 (.tmp 1) rfl w.heap.size 0 rfl V _ K1.out Tryd.underlying40 rfl hzV.out ?_)
    | (go_at_call 15; refine (hgt.out _ I.bun).mono ?_; rintro e w3 ⟨rfl, hq⟩; have I := I.later hq; have K1 := Lib.hid (row_range I.row); clear hq))
  go_ret
  exact ⟨rfl, I.bel⟩
set_option maxHeartbeats 8000000 in
theorem ball_ok (b : Bun) (hb : b.Ok) (hf : b.Fit) (lo : Nat) (v : Value) (w : World) (h : BunV lo b w v) (hT : Tabs w) (g1 : largeB b = false) (hc : checkB b = true) :
    Calls Tryd.prog 4 #[v] w fun e w' => e = .returned (.bool true) ∧ Below w.heap.size w w' := by
  obtain ⟨V, rfl, hVl, hV1, h⟩ := h.cells hb
  have hzV := Lib.hid (show (Tryd.prog.info? 40).map (·.size) = some V.length by rw [size_bun, hVl])
  obtain ⟨w1, hw1⟩ : ∃ w1, w1 = w.alloc (.cells V.toArray 40) := ⟨_, rfl⟩
  have hb1 : Below w.heap.size w w1 := by rw [hw1]; exact (Below.refl _ w).alloc (Nat.le_refl _) _
  have r1 : Row w1 w.heap.size 40 V := by rw [hw1]; exact Row.new w 40 V
  have HW := Lib.hid hw1
  have I : AllI w V lo b w1 := ⟨r1, h.later hb1, hT.later hb1 (Nat.le_refl _), hb1⟩
  have hgt := Lib.hid (fun w' (h : BunV lo b w' (.agg V.toArray)) => rlarge_v hb hf h)
  clear hw1 hVl hV1 r1 hb1 h
  have tok1 : True := trivial
  rw [g1] at hgt
  simp only [Bool.false_eq_true, if_false] at hgt
  have hgt1 := hgt
  have hcapr : ∀ e ∈ b.root :: b.dis, e.cavs.length ≤ 1000000 := large_cavs g1
  have hdl : b.dis.length ≤ 1000000 := large_dis g1
  have hUo := allB_ok hb
  have hUf := allB_fit hf zeroB_fit
  have hcapu : ∀ e ∈ (allB b).root :: (allB b).dis, e.cavs.length ≤ 1000000 := all_cavs hcapr
  have hdlu : (allB b).dis.length ≤ 1000000 := all_dis hdl
  have hda := Lib.hid (fun w' hT (h : BunV lo b w' (.agg V.toArray)) => ball21_v hb hf hcapr hdl hT h)
  have hra := Lib.hid (fun w' (h : BunV lo b w' (.agg V.toArray)) => rall21_v hb hcapr hdl h)
  have hdu := Lib.hid (fun lo' w' (u : Value) hT (h : BunV lo' (allB b) w' u) => ball21_v hUo hUf hcapu hdlu hT h)
  have hse := Lib.hid (fun lo1 lo2 w' (u1 u2 : Value) (h1 : BunV lo1 (allB b) w' u1) (h2 : BunV lo2 (allB b) w' u2) => rbsame_v hUo hUo hUf h1 h2)
  have HE2 := Lib.hid (show errAll (allB b) = 0 ∧ allB (allB b) = allB b from ⟨if_pos (checkB_all hc), allB_twice hc⟩)
  have hU2o := allB_ok hUo
  rw [show errAll b = 0 from if_pos hc] at hda hra
  rw [HE2.out.1] at hdu
  simp only [decide_true] at hse
  have H2 := Lib.hid HE2.out.2
  clear HE2 hcapr hdl hUf hcapu hdlu hgt1
  generalize allB b = U at *
  generalize hUUe : allB U = UU at *
  clear hb hf
  go_enter Tryd.func4, Tryd.ntmps4
  go_wp2_with (first
    | (have _t := tok1; rw [← HW.out]; clear tok1)
    | (go_at_call 6; refine (balive21_any _ I.env).mono ?_; rintro e w2 ⟨rfl, hq⟩; have I := I.later hq; have K1 := Lib.hid (row_range I.row); clear hq)
    | (with_reducible refine wpList_load_mid rfl 40 (.tmp 1) rfl w.heap.size 0 rfl V _ K1.out Tryd.underlying40 rfl hzV.out ?_)
    | (go_at_call 15; refine (hgt.out _ I.bun).mono ?_; rintro e w3 ⟨rfl, hq⟩; have I := I.later hq; have K1 := Lib.hid (row_range I.row); clear hq)
    | (go_at_call 16; refine (hda.out _ I.env I.bun).mono ?_; rintro e w4 ⟨u1, rfl, t1, hq⟩; have I := I.later hq; clear hq; obtain ⟨V1, rfl, hlV1, hoV1, t1⟩ := t1.cells hUo; have hzV1 := Lib.hid (show (Tryd.prog.info? 40).map (·.size) = some V1.toArray.size by rw [size_bun, List.size_toArray, hlV1]); have h37V1 := Lib.hid (show 37 = V1.toArray.size by rw [List.size_toArray, hlV1]); have hoV1 := Lib.hid (all_one hoV1); have hyV1 := Lib.hid (show (Tryd.prog.info? 40).map (·.size) = some V1.length by rw [size_bun, hlV1]); clear hlV1)
    | (have _t := h37V1; refine wpList_store_row rfl 40 (.tmp 3) (.tmp 17) rfl w4.heap.size V1.toArray rfl rfl 40 _ (heap_alloc_new w4 _) hzV1.out (Eq.trans (by kernel_rfl) h37V1.out) hoV1.out ?_; refine Hid.out ?_))
  refine Lib.hid ?_
  generalize hww : World.setRow _ _ _ = w5
  obtain ⟨q1, hq⟩ := row_new_set (xs := V1) hww
  have I := I.later hq
  have t1 := t1.later hq
  generalize w4.heap.size = b1 at *
  have K1 := Lib.hid (row_range I.row)
  clear hww hq hda
  go_wp2_with (first
    | (with_reducible refine wpList_load_mid rfl 40 (.tmp 1) rfl w.heap.size 0 rfl V _ K1.out Tryd.underlying40 rfl hzV.out ?_)
    | (go_at_call 17; refine (hra.out _ I.bun).mono ?_; rintro e w6 ⟨u2, rfl, t2, hq⟩; have I := I.later hq; have t1 := t1.later hq; have q1 := q1.later hq q1.lt; clear hq; obtain ⟨V2, rfl, hlV2, hoV2, t2⟩ := t2.cells hUo; have hzV2 := Lib.hid (show (Tryd.prog.info? 40).map (·.size) = some V2.toArray.size by rw [size_bun, List.size_toArray, hlV2]); have h37V2 := Lib.hid (show 37 = V2.toArray.size by rw [List.size_toArray, hlV2]); have hoV2 := Lib.hid (all_one hoV2); have hyV2 := Lib.hid (show (Tryd.prog.info? 40).map (·.size) = some V2.length by rw [size_bun, hlV2]); clear hlV2)
    | (have _t := h37V2; refine wpList_store_row rfl 40 (.tmp 5) (.tmp 22) rfl w6.heap.size V2.toArray rfl rfl 40 _ (heap_alloc_new w6 _) hzV2.out (Eq.trans (by kernel_rfl) h37V2.out) hoV2.out ?_; refine Hid.out ?_))
  refine Lib.hid ?_
  generalize hww : World.setRow _ _ _ = w7
  obtain ⟨q2, hq⟩ := row_new_set (xs := V2) hww
  have I := I.later hq
  have t1 := t1.later hq
  have q1 := q1.later hq q1.lt
  have t2 := t2.later hq
  generalize w6.heap.size = b2 at *
  have K4 := Lib.hid (row_range q1)
  clear hww hq hra K1
  go_wp2_with (first
    | (with_reducible refine wpList_load_mid rfl 40 (.tmp 3) rfl b1 0 rfl V1 _ K4.out Tryd.underlying40 rfl hyV1.out ?_)
    | (go_at_call 16; refine (hdu.out _ _ _ I.env t1).mono ?_; rintro e w8 ⟨u3, rfl, t3, hq⟩; have I := I.later hq; have t1 := t1.later hq; have q1 := q1.later hq q1.lt; have t2 := t2.later hq; have q2 := q2.later hq q2.lt; clear hq; obtain ⟨V3, rfl, hlV3, hoV3, t3⟩ := t3.cells hU2o; have hzV3 := Lib.hid (show (Tryd.prog.info? 40).map (·.size) = some V3.toArray.size by rw [size_bun, List.size_toArray, hlV3]); have h37V3 := Lib.hid (show 37 = V3.toArray.size by rw [List.size_toArray, hlV3]); have hoV3 := Lib.hid (all_one hoV3); have hyV3 := Lib.hid (show (Tryd.prog.info? 40).map (·.size) = some V3.length by rw [size_bun, hlV3]); clear hlV3)
    | (have _t := h37V3; refine wpList_store_row rfl 40 (.tmp 7) (.tmp 27) rfl w8.heap.size V3.toArray rfl rfl 40 _ (heap_alloc_new w8 _) hzV3.out (Eq.trans (by kernel_rfl) h37V3.out) hoV3.out ?_; refine Hid.out ?_))
  refine Lib.hid ?_
  generalize hww : World.setRow _ _ _ = w9
  obtain ⟨q3, hq⟩ := row_new_set (xs := V3) hww
  have I := I.later hq
  have t1 := t1.later hq
  have q1 := q1.later hq q1.lt
  have t2 := t2.later hq
  have q2 := q2.later hq q2.lt
  have t3 := t3.later hq
  generalize w8.heap.size = b3 at *
  clear hww hq hdu K4
  go_wp2_with (first
    | ((with_reducible refine wpList_step fun K hK => ?_); refine step_load_mid (some 33) rfl (by rfl) 40 (.tmp 3) rfl b1 0 rfl V1 _ (row_range q1) Tryd.underlying40 rfl hyV1.out ?_; refine hK _ _ ?_; clear hK)
    | ((with_reducible refine wpList_step fun K hK => ?_); refine step_load_mid (some 34) rfl (by rfl) 40 (.tmp 5) rfl b2 0 rfl V2 _ (row_range q2) Tryd.underlying40 rfl hyV2.out ?_; refine hK _ _ ?_; clear hK)
    | (go_at_call 18; refine (hse.out _ _ _ _ _ t1 t2).mono ?_; rintro e wa ⟨rfl, hq⟩; have I := I.later hq; have t1 := t1.later hq; have q1 := q1.later hq q1.lt; have t3 := t3.later hq; have q3 := q3.later hq q3.lt; clear hq t2 q2; refine Hid.out ?_))
  refine Lib.hid ?_
  rw [H2.out] at t3
  go_wp2_with (first
    | ((with_reducible refine wpList_step fun K hK => ?_); refine step_load_mid (some 44) rfl (by rfl) 40 (.tmp 7) rfl b3 0 rfl V3 _ (row_range q3) Tryd.underlying40 rfl hyV3.out ?_; refine hK _ _ ?_; clear hK)
    | ((with_reducible refine wpList_step fun K hK => ?_); refine step_load_mid (some 45) rfl (by rfl) 40 (.tmp 3) rfl b1 0 rfl V1 _ (row_range q1) Tryd.underlying40 rfl hyV1.out ?_; refine hK _ _ ?_; clear hK)
    | (go_at_call 18; refine (hse.out _ _ _ _ _ t3 t1).mono ?_; rintro e wb ⟨rfl, hq⟩; have I := I.later hq; clear hq))
  go_ret
  exact ⟨by first | rfl | simp, I.bel⟩
set_option maxHeartbeats 8000000 in
theorem ball_bad (b : Bun) (hb : b.Ok) (hf : b.Fit) (lo : Nat) (v : Value) (w : World) (h : BunV lo b w v) (hT : Tabs w) (g1 : largeB b = false) (hc : checkB b = false) :
    Calls Tryd.prog 4 #[v] w fun e w' => e = .returned (.bool true) ∧ Below w.heap.size w w' := by
  obtain ⟨V, rfl, hVl, hV1, h⟩ := h.cells hb
  have hzV := Lib.hid (show (Tryd.prog.info? 40).map (·.size) = some V.length by rw [size_bun, hVl])
  obtain ⟨w1, hw1⟩ : ∃ w1, w1 = w.alloc (.cells V.toArray 40) := ⟨_, rfl⟩
  have hb1 : Below w.heap.size w w1 := by rw [hw1]; exact (Below.refl _ w).alloc (Nat.le_refl _) _
  have r1 : Row w1 w.heap.size 40 V := by rw [hw1]; exact Row.new w 40 V
  have HW := Lib.hid hw1
  have I : AllI w V lo b w1 := ⟨r1, h.later hb1, hT.later hb1 (Nat.le_refl _), hb1⟩
  have hgt := Lib.hid (fun w' (h : BunV lo b w' (.agg V.toArray)) => rlarge_v hb hf h)
  clear hw1 hVl hV1 r1 hb1 h
  have tok1 : True := trivial
  rw [g1] at hgt
  simp only [Bool.false_eq_true, if_false] at hgt
  have hgt1 := hgt
  have hcapr : ∀ e ∈ b.root :: b.dis, e.cavs.length ≤ 1000000 := large_cavs g1
  have hdl : b.dis.length ≤ 1000000 := large_dis g1
  have hUo := allB_ok hb
  have hUf := allB_fit hf zeroB_fit
  have hcapu : ∀ e ∈ (allB b).root :: (allB b).dis, e.cavs.length ≤ 1000000 := all_cavs hcapr
  have hdlu : (allB b).dis.length ≤ 1000000 := all_dis hdl
  have hda := Lib.hid (fun w' hT (h : BunV lo b w' (.agg V.toArray)) => ball21_v hb hf hcapr hdl hT h)
  have hra := Lib.hid (fun w' (h : BunV lo b w' (.agg V.toArray)) => rall21_v hb hcapr hdl h)
  have hdu := Lib.hid (fun lo' w' (u : Value) hT (h : BunV lo' (allB b) w' u) => ball21_v hUo hUf hcapu hdlu hT h)
  have hse := Lib.hid (fun lo1 lo2 w' (u1 u2 : Value) (h1 : BunV lo1 (allB b) w' u1) (h2 : BunV lo2 (allB b) w' u2) => rbsame_v hUo hUo hUf h1 h2)
  have HE2 := Lib.hid (show errAll (allB b) = errAll (allB b) ∧ True from ⟨rfl, trivial⟩)
  have hU2o := allB_ok hUo
  rw [show errAll b = 1 from if_neg (by rw [hc]; decide)] at hda hra
  simp only [decide_true] at hse
  have H2 := Lib.hid HE2.out.2
  clear HE2 hcapr hdl hUf hcapu hdlu hgt1
  generalize allB b = U at *
  generalize errAll U = er at *
  generalize hUUe : allB U = UU at *
  clear hb hf
  go_enter Tryd.func4, Tryd.ntmps4
  go_wp2_with (first
    | (have _t := tok1; rw [← HW.out]; clear tok1)
    | (go_at_call 6; refine (balive21_any _ I.env).mono ?_; rintro e w2 ⟨rfl, hq⟩; have I := I.later hq; have K1 := Lib.hid (row_range I.row); clear hq)
    | (with_reducible refine wpList_load_mid rfl 40 (.tmp 1) rfl w.heap.size 0 rfl V _ K1.out Tryd.underlying40 rfl hzV.out ?_)
    | (go_at_call 15; refine (hgt.out _ I.bun).mono ?_; rintro e w3 ⟨rfl, hq⟩; have I := I.later hq; have K1 := Lib.hid (row_range I.row); clear hq)
    | (go_at_call 16; refine (hda.out _ I.env I.bun).mono ?_; rintro e w4 ⟨u1, rfl, t1, hq⟩; have I := I.later hq; clear hq; obtain ⟨V1, rfl, hlV1, hoV1, t1⟩ := t1.cells hUo; have hzV1 := Lib.hid (show (Tryd.prog.info? 40).map (·.size) = some V1.toArray.size by rw [size_bun, List.size_toArray, hlV1]); have h37V1 := Lib.hid (show 37 = V1.toArray.size by rw [List.size_toArray, hlV1]); have hoV1 := Lib.hid (all_one hoV1); have hyV1 := Lib.hid (show (Tryd.prog.info? 40).map (·.size) = some V1.length by rw [size_bun, hlV1]); clear hlV1)
    | (have _t := h37V1; refine wpList_store_row rfl 40 (.tmp 3) (.tmp 17) rfl w4.heap.size V1.toArray rfl rfl 40 _ (heap_alloc_new w4 _) hzV1.out (Eq.trans (by kernel_rfl) h37V1.out) hoV1.out ?_; refine Hid.out ?_))
  refine Lib.hid ?_
  generalize hww : World.setRow _ _ _ = w5
  obtain ⟨q1, hq⟩ := row_new_set (xs := V1) hww
  have I := I.later hq
  have t1 := t1.later hq
  generalize w4.heap.size = b1 at *
  have K1 := Lib.hid (row_range I.row)
  clear hww hq hda
  go_wp2_with (first
    | (with_reducible refine wpList_load_mid rfl 40 (.tmp 1) rfl w.heap.size 0 rfl V _ K1.out Tryd.underlying40 rfl hzV.out ?_)
    | (go_at_call 17; refine (hra.out _ I.bun).mono ?_; rintro e w6 ⟨u2, rfl, t2, hq⟩; have I := I.later hq; have t1 := t1.later hq; have q1 := q1.later hq q1.lt; clear hq; obtain ⟨V2, rfl, hlV2, hoV2, t2⟩ := t2.cells hUo; have hzV2 := Lib.hid (show (Tryd.prog.info? 40).map (·.size) = some V2.toArray.size by rw [size_bun, List.size_toArray, hlV2]); have h37V2 := Lib.hid (show 37 = V2.toArray.size by rw [List.size_toArray, hlV2]); have hoV2 := Lib.hid (all_one hoV2); have hyV2 := Lib.hid (show (Tryd.prog.info? 40).map (·.size) = some V2.length by rw [size_bun, hlV2]); clear hlV2)
    | (have _t := h37V2; refine wpList_store_row rfl 40 (.tmp 5) (.tmp 22) rfl w6.heap.size V2.toArray rfl rfl 40 _ (heap_alloc_new w6 _) hzV2.out (Eq.trans (by kernel_rfl) h37V2.out) hoV2.out ?_; refine Hid.out ?_))
  refine Lib.hid ?_
  generalize hww : World.setRow _ _ _ = w7
  obtain ⟨q2, hq⟩ := row_new_set (xs := V2) hww
  have I := I.later hq
  have t1 := t1.later hq
  have q1 := q1.later hq q1.lt
  have t2 := t2.later hq
  generalize w6.heap.size = b2 at *
  have K4 := Lib.hid (row_range q1)
  clear hww hq hra K1
  go_wp2_with (first
    | (with_reducible refine wpList_load_mid rfl 40 (.tmp 3) rfl b1 0 rfl V1 _ K4.out Tryd.underlying40 rfl hyV1.out ?_)
    | (go_at_call 16; refine (hdu.out _ _ _ I.env t1).mono ?_; rintro e w8 ⟨u3, rfl, t3, hq⟩; have I := I.later hq; have t1 := t1.later hq; have q1 := q1.later hq q1.lt; have t2 := t2.later hq; have q2 := q2.later hq q2.lt; clear hq; obtain ⟨V3, rfl, hlV3, hoV3, t3⟩ := t3.cells hU2o; have hzV3 := Lib.hid (show (Tryd.prog.info? 40).map (·.size) = some V3.toArray.size by rw [size_bun, List.size_toArray, hlV3]); have h37V3 := Lib.hid (show 37 = V3.toArray.size by rw [List.size_toArray, hlV3]); have hoV3 := Lib.hid (all_one hoV3); have hyV3 := Lib.hid (show (Tryd.prog.info? 40).map (·.size) = some V3.length by rw [size_bun, hlV3]); clear hlV3)
    | (have _t := h37V3; refine wpList_store_row rfl 40 (.tmp 7) (.tmp 27) rfl w8.heap.size V3.toArray rfl rfl 40 _ (heap_alloc_new w8 _) hzV3.out (Eq.trans (by kernel_rfl) h37V3.out) hoV3.out ?_; refine Hid.out ?_))
  refine Lib.hid ?_
  generalize hww : World.setRow _ _ _ = w9
  obtain ⟨q3, hq⟩ := row_new_set (xs := V3) hww
  have I := I.later hq
  have t1 := t1.later hq
  have q1 := q1.later hq q1.lt
  have t2 := t2.later hq
  have q2 := q2.later hq q2.lt
  have t3 := t3.later hq
  generalize w8.heap.size = b3 at *
  clear hww hq hdu K4
  go_wp2_with (first
    | ((with_reducible refine wpList_step fun K hK => ?_); refine step_load_mid (some 33) rfl (by rfl) 40 (.tmp 3) rfl b1 0 rfl V1 _ (row_range q1) Tryd.underlying40 rfl hyV1.out ?_; refine hK _ _ ?_; clear hK)
    | ((with_reducible refine wpList_step fun K hK => ?_); refine step_load_mid (some 34) rfl (by rfl) 40 (.tmp 5) rfl b2 0 rfl V2 _ (row_range q2) Tryd.underlying40 rfl hyV2.out ?_; refine hK _ _ ?_; clear hK)
    | (go_at_call 18; refine (hse.out _ _ _ _ _ t1 t2).mono ?_; rintro e wa ⟨rfl, hq⟩; have I := I.later hq; have t1 := t1.later hq; have q1 := q1.later hq q1.lt; have t3 := t3.later hq; have q3 := q3.later hq q3.lt; clear hq t2 q2; refine Hid.out ?_))
  refine Lib.hid ?_
  go_wp2_with fail
  go_ret
  exact ⟨by first | rfl | simp, I.bel⟩
theorem ball_walk (b : Bun) (hb : b.Ok) (hf : b.Fit) (lo : Nat) (v : Value) (w : World) (h : BunV lo b w v) (hT : Tabs w) :
    Calls Tryd.prog 4 #[v] w fun e w' => e = .returned (.bool true) ∧ Below w.heap.size w w' := by
  cases g1 : largeB b with
  | true => exact ball_large b hb hf lo v w h hT g1
  | false =>
    cases hc : checkB b with
    | true => exact ball_ok b hb hf lo v w h hT g1 hc
    | false => exact ball_bad b hb hf lo v w h hT g1 hc
end Go.Proofs.YtnkkgclmmaakgaaDoor
