/- LAYER 12: package addr: Text. -/
import Derived.Test.YtpmibdgghojgaaaDoorAd6
namespace Go.Proofs.YtpmibdgghojgaaaDoor
set_option maxRecDepth 100000
open Go Go.RowKit

theorem numsA_small (a : Adr) : ∀ n ∈ numsA a, n < 65536 := fun n hn => Nat.lt_succ_of_le (numsA_le a n hn)
set_option maxHeartbeats 2000000 in
theorem atext_any (a : Adr) (h : a.Ok) (w : World) (hE : Env w) :
    Calls Tryd.prog 10 #[.agg (adrV a).toArray] w fun e w' => e = .returned (.string (bstr (textA a))) ∧ Below w.heap.size w w' := by
  obtain ⟨w1, hw1⟩ : ∃ w1, w1 = w.alloc (.cells (adrV a).toArray 24) := ⟨_, rfl⟩
  have hr : Row w1 w.heap.size 24 (adrV a) := by rw [hw1]; exact Row.new w _ _
  have hb : Below w.heap.size w w1 := by rw [hw1]; exact (Below.refl _ w).alloc (Nat.le_refl _) _
  have hE1 := hE.next hb
  have hchk := Lib.hid (acheck_any a h)
  have hT := row_range hr
  have hrl := Lib.hid (fun w' (h : Below w1.heap.size w1 w') => hr.later h hr.lt)
  have hsz := Lib.hid (show (Tryd.prog.info? 24).map (·.size) = some (adrV a).toArray.size by rw [size_adr, List.size_toArray, length_adrV h])
  have hR := Lib.hid (fun w' (h : Below w1.heap.size w1 w') => show w'.heap[w.heap.size]? = some (.cells (adrV a).toArray 24 (0, 0)) from hr.later h hr.lt)
  have hnu := Lib.hid (fun w' => anums_any a h w')
  cases hc : checkA a with
  | false =>
    have HT := Lib.hid (show textA a = [] by unfold textA; rw [hc]; rfl)
    obtain ⟨V, hV⟩ : ∃ V, V = adrV a := ⟨_, rfl⟩
    rw [← hV] at hw1 hchk hsz hR ⊢
    rw [hc] at hchk
    clear hV hr hrl hT hnu
    go_enter Tryd.func10, Tryd.ntmps10
    subst hw1
    go_wp2_with (first
      | (with_reducible refine wpList_load_row rfl 24 (.tmp 1) rfl w.heap.size rfl 24 V.toArray (0, 0) _ (hR.out _ (Below.refl _ _)) Tryd.underlying24 rfl hsz.out ?_)
      | (go_at_call 8; refine (hchk.out _).mono ?_; rintro e w2 ⟨rfl, hb2⟩; have hb3 := hb.trans (hb2.mono hb.size)))
    go_ret
    exact ⟨by rw [HT.out]; rfl, hb3⟩
  | true =>
    cases h6 : a.v6 with
    | true =>
      have HT := Lib.hid (show textA a = textN (numsA a) by unfold textA; rw [hc, h6]; rfl)
      have hC6 := Lib.hid (fun w' (h : Below w1.heap.size w1 w') => adr_v6 (hrl.out w' h))
      rw [h6] at hC6
      have hst := Lib.hid (fun w' hE => asixtext_any (numsA a) (numsA_len a) (numsA_small a) w' hE)
      generalize textN (numsA a) = T at *
      generalize hwV (numsA a) = H at *
      obtain ⟨V, hV⟩ : ∃ V, V = adrV a := ⟨_, rfl⟩
      rw [← hV] at hw1 hchk hsz hR hnu ⊢
      rw [hc] at hchk
      clear hV hr hrl hT
      go_enter Tryd.func10, Tryd.ntmps10
      subst hw1
      have tok1 : True := trivial
      go_wp2_with (first
        | (have _t := tok1; with_reducible refine wpList_load_row rfl 24 (.tmp 1) rfl w.heap.size rfl 24 V.toArray (0, 0) _ (hR.out _ (Below.refl _ _)) Tryd.underlying24 rfl hsz.out ?_; clear tok1)
        | (go_at_call 8; refine (hchk.out _).mono ?_; rintro e w2 ⟨rfl, hb2⟩; have hE2 := hE1.next hb2; have hb3 := hb.trans (hb2.mono hb.size); have hc6 := hC6.out w2 hb2; have hR2 := Lib.hid (hR.out w2 hb2))
        | (with_reducible refine wpList_load_row rfl 24 (.tmp 1) rfl w.heap.size rfl 24 V.toArray (0, 0) _ hR2.out Tryd.underlying24 rfl hsz.out ?_)
        | (go_at_call 18; refine (hnu.out _).mono ?_; rintro e w4 ⟨rfl, hb4⟩; have hE4 := hE2.next hb4; have hb4 := hb3.trans (hb4.mono hb3.size))
        | (go_at_call 17; refine (hst.out _ hE4).mono ?_; rintro e w5 ⟨rfl, hb5⟩; have hb5 := hb4.trans (hb5.mono hb4.size)))
      go_ret
      exact ⟨by rw [HT.out]; rfl, hb5⟩
    | false =>
      have hC6 := Lib.hid (fun w' (h : Below w1.heap.size w1 w') => adr_v6 (hrl.out w' h))
      rw [h6] at hC6
      have HT := Lib.hid (show textA a = glueL 46 ([(a.b.getD 0 0).toNat, (a.b.getD 1 0).toNat, (a.b.getD 2 0).toNat, (a.b.getD 3 0).toNat].map (numL 10)) by unfold textA; rw [hc, h6]; simp [glueL])
      have hE0 := Lib.hid (fun w' (hq : Below w1.heap.size w1 w') => adr_cell h (hrl.out w' hq) 0 (by omega))
      have hE1' := Lib.hid (fun w' (hq : Below w1.heap.size w1 w') => adr_cell h (hrl.out w' hq) 1 (by omega))
      have hE2' := Lib.hid (fun w' (hq : Below w1.heap.size w1 w') => adr_cell h (hrl.out w' hq) 2 (by omega))
      have hE3' := Lib.hid (fun w' (hq : Below w1.heap.size w1 w') => adr_cell h (hrl.out w' hq) 3 (by omega))
      generalize a.b.getD 0 0 = x0 at *
      generalize a.b.getD 1 0 = x1 at *
      generalize a.b.getD 2 0 = x2 at *
      generalize a.b.getD 3 0 = x3 at *
      have hv0 : IntKind.u16.wrap (x0.toNat : Int) = (x0.toNat : Int) := by rw [IntKind.wrap_u16]; have := x0.toNat_lt; omega
      have hv1 : IntKind.u16.wrap (x1.toNat : Int) = (x1.toNat : Int) := by rw [IntKind.wrap_u16]; have := x1.toNat_lt; omega
      have hv2 : IntKind.u16.wrap (x2.toNat : Int) = (x2.toNat : Int) := by rw [IntKind.wrap_u16]; have := x2.toNat_lt; omega
      have hv3 : IntKind.u16.wrap (x3.toNat : Int) = (x3.toNat : Int) := by rw [IntKind.wrap_u16]; have := x3.toNat_lt; omega
      have hj := Lib.hid (fun w' (hE : Env w') => ajoined10 [x0.toNat, x1.toNat, x2.toNat, x3.toNat] (by simp) (by
        intro n hn
        have h0 := x0.toNat_lt; have h1 := x1.toNat_lt; have h2 := x2.toNat_lt; have h3 := x3.toNat_lt
        simp at hn
        omega) 46 (some ⟨w'.heap.size, 0, none⟩) 4 4 rfl (w'.alloc (.cells #[.int .u16 (x0.toNat : Int), .int .u16 (x1.toNat : Int), .int .u16 (x2.toNat : Int), .int .u16 (x3.toNat : Int)] 31)) (hE.next ((Below.refl _ w').alloc (Nat.le_refl _) _)) (sl_made (hwV [x0.toNat, x1.toNat, x2.toNat, x3.toNat]) rfl 4 rfl))
      generalize glueL 46 ([x0.toNat, x1.toNat, x2.toNat, x3.toNat].map (numL 10)) = T at *
      obtain ⟨V, hV⟩ : ∃ V, V = adrV a := ⟨_, rfl⟩
      rw [← hV] at hw1 hchk hsz hR hnu ⊢
      rw [hc] at hchk
      clear hV hr hrl hT hnu
      go_enter Tryd.func10, Tryd.ntmps10
      subst hw1
      go_wp2_with (first
        | (with_reducible refine wpList_load_row rfl 24 (.tmp 1) rfl w.heap.size rfl 24 V.toArray (0, 0) _ (hR.out _ (Below.refl _ _)) Tryd.underlying24 rfl hsz.out ?_)
        | (go_at_call 8; refine (hchk.out _).mono ?_; rintro e w2 ⟨rfl, hb2⟩; have hEn := hE1.next hb2; have hb3 := hb.trans (hb2.mono hb.size); have hc6 := hC6.out w2 hb2; have hk0 := hE0.out w2 hb2; have hk1 := hE1'.out w2 hb2; have hk2 := hE2'.out w2 hb2; have hk3 := hE3'.out w2 hb2)
        | (go_at_call 19; refine (hj.out _ hEn).mono ?_; rintro e w5 ⟨rfl, hb5⟩; have hb4 := hb3.alloc hb3.size (.cells #[.int .u16 (x0.toNat : Int), .int .u16 (x1.toNat : Int), .int .u16 (x2.toNat : Int), .int .u16 (x3.toNat : Int)] 31); have hb5 := hb4.trans (hb5.mono hb4.size)))
      go_ret
      exact ⟨by rw [HT.out]; rfl, hb5⟩
end Go.Proofs.YtpmibdgghojgaaaDoor
