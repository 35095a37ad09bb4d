import Derived.Test.YtjieebmcbpdeiaaGreatDoorRabb
import Derived.Test.YtjieebmcbpdeiaaGreatDoorRaba
namespace Go.Proofs.YtjieebmcbpdeiaaGreatDoor
set_option maxRecDepth 100000
open Go Go.RowKit
theorem par_b5 : parseP [98, 101, 102, 111, 114, 101, 32, 53] = some ⟨1, 5, [], [], zeroR, 0⟩ :=
 (parseP_iff _ _).2 ⟨⟨zeroR_ok, by decide, by decide⟩, by decide, by decide⟩
theorem par_c0 : parseP [99, 111, 115, 116, 32, 48] = some ⟨6, 0, [], [], zeroR, 0⟩ :=
 (parseP_iff _ _).2 ⟨⟨zeroR_ok, by decide, by decide⟩, by decide, by decide⟩
def reqZ (c : Nat) : Req := ⟨[], [], zeroA, c⟩
theorem reqZ_ok (c : Nat) (h : c < 2 ^ 64) : (reqZ c).Ok := ⟨zeroA_ok, h, by show (0 : Nat) ≤ 1000; omega, by show (0 : Nat) ≤ 1000; omega⟩
theorem al_1 : holdsT [98, 101, 102, 111, 114, 101, 32, 53] (reqZ 0) 4 = true := by unfold holdsT; rw [par_b5]; decide
theorem al_2 : holdsT [98, 101, 102, 111, 114, 101, 32, 53] (reqZ 0) 5 = false := by unfold holdsT; rw [par_b5]; decide
theorem al_3 : holdsT [99, 111, 115, 116, 32, 48] (reqZ 9221120237041090561) 0 = false := by unfold holdsT; rw [par_c0]; decide
set_option maxHeartbeats 2000000 in
theorem galive_any (w : World) (hE0 : EnvG w) : Calls Tryz.prog 6 #[] w fun e w' => e = .returned (.bool true) ∧ Below w.heap.size w w' := by
 have h1 := fun w' h => gtext_any [98, 101, 102, 111, 114, 101, 32, 53] (by decide) (reqZ 0) 4 w' (reqZ_ok 0 (by decide)) (by decide) h
 have h2 := fun w' h => gtext_any [98, 101, 102, 111, 114, 101, 32, 53] (by decide) (reqZ 0) 5 w' (reqZ_ok 0 (by decide)) (by decide) h
 have h3 := fun w' h => gtext_any [99, 111, 115, 116, 32, 48] (by decide) (reqZ 9221120237041090561) 0 w' (reqZ_ok _ (by decide)) (by decide) h
 rw [al_1] at h1
 rw [al_2] at h2
 rw [al_3] at h3
 have h1 := Lib.hid h1
 have h2 := Lib.hid h2
 have h3 := Lib.hid h3
 have hn := Lib.hid (fun w' => fnan_any w')
 have hb0 : Below w.heap.size w w := Below.refl _ _
 have tk1 : True := trivial
 have tk2 : True := trivial
 go_enter Tryz.func6, Tryz.ntmps6
 go_wp2_with (first
  | (go_at_call 10; have _t := tk1; refine (h1.out _ hE0).mono ?_; rintro e w1 ⟨rfl, hq⟩; have hE0 := hE0.next hq; have hb0 := hb0.trans (hq.mono hb0.size); clear hq tk1)
  | (go_at_call 10; have _t := tk2; refine (h2.out _ hE0).mono ?_; rintro e w2 ⟨rfl, hq⟩; have hE0 := hE0.next hq; have hb0 := hb0.trans (hq.mono hb0.size); clear hq tk2)
  | (go_at_call 10; refine (h3.out _ hE0).mono ?_; rintro e w3 ⟨rfl, hq⟩; have hb0 := hb0.trans (hq.mono hb0.size); clear hq)
  | (go_at_call 22; refine (hn.out _).mono ?_; rintro e w' ⟨rfl, rfl⟩))
 go_ret
 exact ⟨rfl, hb0⟩
theorem PrdArg.later18 {w w' : World} {p : Prd} {A : Option Addr} {c B : Nat} (h : PrdArg w p A c) (hB : w.heap.size ≤ B) (hb : Below B w w') : PrdArg w' p A c :=
 ⟨h.ok, h.names.later hB hb, h.lo, h.hi, h.path, h.many, h.each⟩
theorem size_ask : (Tryz.prog.info? 35).map (·.size) = some 22 := by kernel_rfl
theorem length_askV (r : Req) (h : r.src.Ok) (b t : Nat) : (askV r b t).length = 22 := by unfold askV; rw [List.length_append, length_reqV r h]; rfl
theorem askR_ok (r : Req) (b : Nat) (h : ReqArg r) (hb : b < 2 ^ 64) (h1 : r.op.length ≤ 1000) (h2 : r.path.length ≤ 1000) : (askR r b).Ok := ⟨h.src, hb, h1, h2⟩
set_option maxHeartbeats 16000000 in
theorem gholds_walk (p : Prd) (A : Option Addr) (c : Nat) (l : List (List UInt8)) (B : Option Addr) (d : Nat) (r : Req) (b t : Nat) (w : World) (hp : PrdArg w p A c) (hsl : Sl w B d (strsV l)) (hle : ∀ s ∈ l, s.length ≤ 140737488351232) (hll : l.length ≤ 9223372036854775807) (hr : ReqArg r) (hbb : b < 2 ^ 64) (htt : t < 2 ^ 64) (hE0 : EnvG w) :
  Calls Tryz.prog 3 #[.agg (prdV p A c).toArray, .slice B l.length d, .agg (askV r b t).toArray] w fun e w' => e = .returned (.bool true) ∧ Below w.heap.size w w' := by
 have hal := Lib.hid (fun w' hE => galive_any w' hE)
 have hzQ := Lib.hid (show (Tryz.prog.info? 31).map (·.size) = some (prdV p A c).length by rw [length_prdV p hp.ok.net.a]; exact size_prd)
 have hzA := Lib.hid (show (Tryz.prog.info? 35).map (·.size) = some (askV r b t).length by rw [length_askV r hr.src]; exact size_ask)
 have hzR := Lib.hid (show (Tryz.prog.info? 33).map (·.size) = some (reqV r).length by rw [length_reqV r hr.src]; exact size_req)
 have hzQ2 := Lib.hid (show (Tryz.prog.info? 33).map (·.size) = some (reqV (askR r b)).length by rw [length_reqV (askR r b) hr.src]; exact size_req)
 have hzQ3 := Lib.hid (show (Tryz.prog.info? 33).map (·.size) = some (reqV (askR r b)).toArray.size by rw [List.size_toArray, length_reqV (askR r b) hr.src]; exact size_req)
 have h20 := Lib.hid (show 20 = (reqV (askR r b)).toArray.size by rw [List.size_toArray, length_reqV (askR r b) hr.src])
 have hQ1 := Lib.hid (reqV_one (askR r b))
 obtain ⟨w1, hw1⟩ : ∃ w1, w1 = (w.alloc (.cells (prdV p A c).toArray 31)).alloc (.cells (askV r b t).toArray 35) := ⟨_, rfl⟩
 obtain ⟨r1, q1, hb0⟩ := two_boxes hw1.symm
 have hE0 := hE0.next hb0
 have a1 := PrdArg.later18 hp (Nat.le_refl _) hb0
 have sl := hsl.later (Nat.le_refl _) hb0
 have HLO := Lib.hid (fun w' (h : PrdArg w' p A c) => qlong_any p A c w' h)
 have HOD := Lib.hid (fun w' => qodd_any r w' hr)
 have HRQ := Lib.hid (fun w' => qreq_any r b t hbb w' hr)
 have HRG := Lib.hid (show ∀ (W : World) g, Row W g 35 (askV r b t) → W.rangeAt g 0 (reqV r) from fun W g h => range_of_row (A := []) (B := reqV r) (C := [.int .u64 (b : Int), .int .u64 (t : Int)]) h)
 have HCE := Lib.hid (show ∀ (W : World) g, Row W g 35 (askV r b t) → W.cell? ⟨g, 21, none⟩ = some (.int .u64 (t : Int)) from fun W g h => by
  rw [h.cell]; unfold askV
  rw [List.getElem?_append_right (by rw [length_reqV r hr.src]; omega), length_reqV r hr.src]; rfl)
 have hlp : longQ p = 1 ∨ longQ p = 0 ∧ p.path.length + sumS p.names ≤ 3000 := by
  by_cases h : 3000 < p.path.length + sumS p.names
  ·exact .inl (longQ_one p h)
  ·exact .inr ⟨longQ_zero p (by omega), by omega⟩
 have hod : oddQ r = 1 ∨ oddQ r = 0 ∧ r.op.length ≤ 1000 ∧ r.path.length ≤ 1000 := by
  by_cases h : 1000 < r.op.length ∨ 1000 < r.path.length
  ·exact .inl (oddQ_one r h)
  ·exact .inr ⟨oddQ_zero r (by omega) (by omega), by omega, by omega⟩
 generalize longQ p = lp at *
 generalize oddQ r = od at *
 obtain ⟨Q, hQ⟩ : ∃ Q, Q = prdV p A c := ⟨_, rfl⟩
 obtain ⟨V, hV⟩ : ∃ V, V = askV r b t := ⟨_, rfl⟩
 obtain ⟨R, hR⟩ : ∃ R, R = reqV r := ⟨_, rfl⟩
 obtain ⟨Q2, hQ2⟩ : ∃ Q2, Q2 = reqV (askR r b) := ⟨_, rfl⟩
 rw [← hQ] at hzQ r1 HLO hw1 ⊢
 rw [← hV] at hzA q1 HRG HCE HRQ hw1 ⊢
 rw [← hR] at hzR HOD HRG
 rw [← hQ2] at hzQ2 hzQ3 h20 hQ1 HRQ
 have HW := Lib.hid hw1
 have HQ := Lib.hid hQ
 have HQ2 := Lib.hid hQ2
 have HLE := Lib.hid hle
 clear hw1 hp hsl hQ hV hR hQ2 hle
 rcases hlp with rfl | ⟨rfl, hlp⟩
 ·clear hod
  go_enter Tryz.func3, Tryz.ntmps3
  go_wp2_with (first
   | (go_at_call 6; rw [← HW.out]; refine (hal.out _ hE0).mono ?_; rintro e w2 ⟨rfl, hq⟩; have hE0 := hE0.next hq; have r1 := r1.later hq r1.lt; have q1 := q1.later hq q1.lt; have a1 := PrdArg.later18 a1 (Nat.le_refl _) hq; have sl := sl.later (Nat.le_refl _) hq; have hb0 := hb0.trans (hq.mono hb0.size); clear hq)
   | ((with_reducible refine wpList_step fun K hK => ?_); refine step_load_mid (some 12) rfl (by rfl) 31 (.tmp 3) rfl w.heap.size 0 rfl Q _ (row_range r1) Tryz.underlying31 rfl hzQ.out ?_; refine hK _ _ ?_; clear hK)
   | (go_at_call 7; refine (HLO.out _ a1).mono ?_; rintro e w3 ⟨rfl, hq⟩; have hE0 := hE0.next hq; have r1 := r1.later hq r1.lt; have q1 := q1.later hq q1.lt; have a1 := PrdArg.later18 a1 (Nat.le_refl _) hq; have sl := sl.later (Nat.le_refl _) hq; have hb0 := hb0.trans (hq.mono hb0.size); clear hq))
  go_ret
  exact ⟨rfl, hb0⟩
 rcases hod with rfl | ⟨rfl, ho1, ho2⟩
 ·clear hlp
  go_enter Tryz.func3, Tryz.ntmps3
  go_wp2_with (first
   | (go_at_call 6; rw [← HW.out]; refine (hal.out _ hE0).mono ?_; rintro e w2 ⟨rfl, hq⟩; have hE0 := hE0.next hq; have r1 := r1.later hq r1.lt; have q1 := q1.later hq q1.lt; have a1 := PrdArg.later18 a1 (Nat.le_refl _) hq; have sl := sl.later (Nat.le_refl _) hq; have hb0 := hb0.trans (hq.mono hb0.size); clear hq)
   | ((with_reducible refine wpList_step fun K hK => ?_); refine step_load_mid (some 12) rfl (by rfl) 31 (.tmp 3) rfl w.heap.size 0 rfl Q _ (row_range r1) Tryz.underlying31 rfl hzQ.out ?_; refine hK _ _ ?_; clear hK)
   | (go_at_call 7; refine (HLO.out _ a1).mono ?_; rintro e w3 ⟨rfl, hq⟩; have hE0 := hE0.next hq; have r1 := r1.later hq r1.lt; have q1 := q1.later hq q1.lt; have a1 := PrdArg.later18 a1 (Nat.le_refl _) hq; have sl := sl.later (Nat.le_refl _) hq; have hb0 := hb0.trans (hq.mono hb0.size); clear hq)
   | ((with_reducible refine wpList_step fun K hK => ?_); refine step_load_mid (some 17) rfl (by rfl) 33 (.tmp 16) rfl (w.heap.size + 1) 0 rfl R _ (HRG.out _ _ q1) Tryz.underlying33 rfl hzR.out ?_; refine hK _ _ ?_; clear hK)
   | (go_at_call 8; refine (HOD.out _).mono ?_; rintro e w4 ⟨rfl, hq⟩; have hE0 := hE0.next hq; have r1 := r1.later hq r1.lt; have q1 := q1.later hq q1.lt; have a1 := PrdArg.later18 a1 (Nat.le_refl _) hq; have sl := sl.later (Nat.le_refl _) hq; have hb0 := hb0.trans (hq.mono hb0.size); clear hq))
  go_ret
  exact ⟨rfl, hb0⟩
 by_cases hl : 50 < l.length
 ·have hl' : (50 : Int) < (l.length : Int) := by omega
  clear hlp ho1 ho2 hl hll
  go_enter Tryz.func3, Tryz.ntmps3
  go_wp2_with (first
   | (go_at_call 6; rw [← HW.out]; refine (hal.out _ hE0).mono ?_; rintro e w2 ⟨rfl, hq⟩; have hE0 := hE0.next hq; have r1 := r1.later hq r1.lt; have q1 := q1.later hq q1.lt; have a1 := PrdArg.later18 a1 (Nat.le_refl _) hq; have sl := sl.later (Nat.le_refl _) hq; have hb0 := hb0.trans (hq.mono hb0.size); clear hq)
   | ((with_reducible refine wpList_step fun K hK => ?_); refine step_load_mid (some 12) rfl (by rfl) 31 (.tmp 3) rfl w.heap.size 0 rfl Q _ (row_range r1) Tryz.underlying31 rfl hzQ.out ?_; refine hK _ _ ?_; clear hK)
   | (go_at_call 7; refine (HLO.out _ a1).mono ?_; rintro e w3 ⟨rfl, hq⟩; have hE0 := hE0.next hq; have r1 := r1.later hq r1.lt; have q1 := q1.later hq q1.lt; have a1 := PrdArg.later18 a1 (Nat.le_refl _) hq; have sl := sl.later (Nat.le_refl _) hq; have hb0 := hb0.trans (hq.mono hb0.size); clear hq)
   | ((with_reducible refine wpList_step fun K hK => ?_); refine step_load_mid (some 17) rfl (by rfl) 33 (.tmp 16) rfl (w.heap.size + 1) 0 rfl R _ (HRG.out _ _ q1) Tryz.underlying33 rfl hzR.out ?_; refine hK _ _ ?_; clear hK)
   | (go_at_call 8; refine (HOD.out _).mono ?_; rintro e w4 ⟨rfl, hq⟩; have hE0 := hE0.next hq; have r1 := r1.later hq r1.lt; have q1 := q1.later hq q1.lt; have a1 := PrdArg.later18 a1 (Nat.le_refl _) hq; have sl := sl.later (Nat.le_refl _) hq; have hb0 := hb0.trans (hq.mono hb0.size); clear hq))
  go_ret
  exact ⟨rfl, hb0⟩
 ·have hl' : (l.length : Int) ≤ 50 := by omega
  have hl5 : l.length ≤ 50 := by omega
  have hok := askR_ok r b hr hbb ho1 ho2
  have HOK := Lib.hid hok
  have HLP := Lib.hid hlp
  clear hlp ho1 ho2 hl hll hok
  go_enter Tryz.func3, Tryz.ntmps3
  go_wp2_with (first
   | (go_at_call 6; rw [← HW.out]; refine (hal.out _ hE0).mono ?_; rintro e w2 ⟨rfl, hq⟩; have hE0 := hE0.next hq; have r1 := r1.later hq r1.lt; have q1 := q1.later hq q1.lt; have a1 := PrdArg.later18 a1 (Nat.le_refl _) hq; have sl := sl.later (Nat.le_refl _) hq; have hb0 := hb0.trans (hq.mono hb0.size); clear hq)
   | ((with_reducible refine wpList_step fun K hK => ?_); refine step_load_mid (some 12) rfl (by rfl) 31 (.tmp 3) rfl w.heap.size 0 rfl Q _ (row_range r1) Tryz.underlying31 rfl hzQ.out ?_; refine hK _ _ ?_; clear hK)
   | (go_at_call 7; refine (HLO.out _ a1).mono ?_; rintro e w3 ⟨rfl, hq⟩; have hE0 := hE0.next hq; have r1 := r1.later hq r1.lt; have q1 := q1.later hq q1.lt; have a1 := PrdArg.later18 a1 (Nat.le_refl _) hq; have sl := sl.later (Nat.le_refl _) hq; have hb0 := hb0.trans (hq.mono hb0.size); clear hq)
   | ((with_reducible refine wpList_step fun K hK => ?_); refine step_load_mid (some 17) rfl (by rfl) 33 (.tmp 16) rfl (w.heap.size + 1) 0 rfl R _ (HRG.out _ _ q1) Tryz.underlying33 rfl hzR.out ?_; refine hK _ _ ?_; clear hK)
   | (go_at_call 8; refine (HOD.out _).mono ?_; rintro e w4 ⟨rfl, hq⟩; have hE0 := hE0.next hq; have r1 := r1.later hq r1.lt; have q1 := q1.later hq q1.lt; have a1 := PrdArg.later18 a1 (Nat.le_refl _) hq; have sl := sl.later (Nat.le_refl _) hq; have hb0 := hb0.trans (hq.mono hb0.size); clear hq)
   | ((with_reducible refine wpList_step fun K hK => ?_); refine step_load_mid (some 26) rfl (by rfl) 35 (.tmp 5) rfl (w.heap.size + 1) 0 rfl V _ (row_range q1) Tryz.underlying35 rfl hzA.out ?_; refine hK _ _ ?_; clear hK)
   | (go_at_call 9; refine (HRQ.out _).mono ?_; rintro e w5 ⟨rfl, hq⟩; have hE0 := hE0.next hq; have r1 := r1.later hq r1.lt; have q1 := q1.later hq q1.lt; have a1 := PrdArg.later18 a1 (Nat.le_refl _) hq; have sl := sl.later (Nat.le_refl _) hq; have hb0 := hb0.trans (hq.mono hb0.size); clear hq)
   | (have _t := w5; refine wpList_store_row rfl 33 (.tmp 7) (.tmp 27) rfl w5.heap.size Q2.toArray rfl rfl 33 _ (heap_alloc_new w5 _) hzQ3.out h20.out hQ1.out ?_; refine Hid.out ?_))
  refine Lib.hid ?_
  generalize hww : World.setRow _ _ _ = w6
  obtain ⟨x1, hq⟩ := row_new_set (xs := Q2) hww
  have hE0 := hE0.next hq
  have r1 := r1.later hq r1.lt
  have q1 := q1.later hq q1.lt
  have a1 := PrdArg.later18 a1 (Nat.le_refl _) hq
  have sl := sl.later (Nat.le_refl _) hq
  have hb0 := hb0.trans (hq.mono hb0.size)
  clear hq
  clear hww
  generalize w5.heap.size = g7 at *
  go_wp2
  go_loopw [30] (fun i wr => ∃ k : Nat, k ≤ l.length ∧ i = .int .i64 k ∧ (∀ j < k, (l.getD j []).length ≤ 1000) ∧ Row wr w.heap.size 31 Q ∧ Row wr (w.heap.size + 1) 35 V ∧ Row wr g7 33 Q2 ∧ PrdArg wr p A c ∧ Sl wr B d (strsV l) ∧ EnvG wr ∧ Below w.heap.size w wr) (fun i _ => l.length - (intOf i).toNat)
  case atStart => exact ⟨0, Nat.zero_le _, rfl, fun j hj => by omega, r1, q1, x1, a1, sl, hE0, hb0⟩
  case round =>
   clear r1 q1 x1 a1 sl hE0 hb0
   obtain ⟨k, hk, rfl, hz, r1, q1, x1, a1, sl, hE0, hb0⟩ := hrel
   by_cases hlt : k < l.length
   ·have hlt' : (k : Int) < (l.length : Int) := by omega
    obtain ⟨b1, o1, rfl, -, -⟩ := sl.rd.get (i := k) (by rw [length_strsV]; exact hlt)
    have hix := index_strs (some ⟨b1, o1, none⟩) b1 o1 l.length d k rfl hlt
    have hce := strs_cell sl k hlt
    have hz2 := size_bstr (l.getD k [])
    have hmx := HLE.out (l.getD k []) (by rw [List.getD_eq_getElem?_getD, List.getElem?_eq_getElem hlt]; exact List.getElem_mem hlt)
    by_cases hg : 1000 < (l.getD k []).length
    ·have hg' : (1000 : Int) < ((l.getD k []).length : Int) := by omega
     generalize (l.getD k []).length = n at *
     generalize bstr (l.getD k []) = S at *
     clear hz hg
     go_wp2
     go_ret
     exact ⟨rfl, hb0⟩
    ·have hg' : ((l.getD k []).length : Int) ≤ 1000 := by omega
     have HK2 := Lib.hid (show ∀ j < k + 1, (l.getD j []).length ≤ 1000 from fun j hj => by
      by_cases e : j = k
      ·rw [e]; omega
      ·exact hz j (by omega))
     have HG := Lib.hid (fun w' (h : Below wr.heap.size wr w') => gtext_any (l.getD k []) (by omega) (askR r b) t w' HOK.out htt (hE0.next h))
     have HR := Lib.hid (fun w' (_ : Below wr.heap.size wr w') => rtext18_any (l.getD k []) (by omega) (askR r b) t w' HOK.out htt)
     have HCL := Lib.hid (fun w' (h : Below wr.heap.size wr w') => HCE.out w' _ (q1.later h q1.lt))
     rw [← HQ2.out] at HG HR
     generalize holdsT (l.getD k []) (askR r b) t = v at *
     generalize (l.getD k []).length = n at *
     generalize bstr (l.getD k []) = S at *
     clear hz hg
     go_wp2
     refine wp_region_noPanic ?_
     refine wp_region_held_drew (S := fun w' => Below wr.heap.size wr w') (by kernel_rfl) ((Below.refl _ _).drew) (fun hHeld => ?_)
     have hB := hHeld
     refine rtake 0 _ (some 37) _ rfl rfl (by kernel_rfl) (by kernel_rfl) (by kernel_rfl) (fun _ _ _ h => h) (by rfl) hHeld (by intro w hS; go_simp; try with_reducible rfl) ?_
     try (first | (rw [put_some]; dsimp only [List.set]) | rw [put_none])
     refine rtake 1 _ (some 38) _ rfl rfl (by kernel_rfl) (by kernel_rfl) (by kernel_rfl) (fun _ _ _ h => h) (by rfl) hHeld (by intro w hS; exact run_load_op 33 (.tmp 7) rfl _ 0 rfl Q2 _ (row_range (x1.later hS x1.lt)) Tryz.underlying33 rfl hzQ2.out) ?_
     try (first | (rw [put_some]; dsimp only [List.set]) | rw [put_none])
     refine rtake 2 _ (some 39) _ rfl rfl (by kernel_rfl) (by kernel_rfl) (by kernel_rfl) (fun _ _ _ h => h) (by rfl) hHeld (by intro w hS; go_simp; try with_reducible rfl) ?_
     try (first | (rw [put_some]; dsimp only [List.set]) | rw [put_none])
     refine rtake 3 _ (some 40) _ rfl rfl (by kernel_rfl) (by kernel_rfl) (by kernel_rfl) (fun _ _ _ h => h) (by rfl) hHeld (by intro w hS; have hc := HCL.out w hS; go_simp; try with_reducible rfl) ?_
     try (first | (rw [put_some]; dsimp only [List.set]) | rw [put_none])
     refine rtake 5 _ (some 42) _ rfl rfl (by kernel_rfl) (by kernel_rfl) (by kernel_rfl) (fun _ _ _ h => h) (by rfl) hHeld (by intro w hS; go_simp; try with_reducible rfl) ?_
     try (first | (rw [put_some]; dsimp only [List.set]) | rw [put_none])
     refine rtake 6 _ (some 43) _ rfl rfl (by kernel_rfl) (by kernel_rfl) (by kernel_rfl) (fun _ _ _ h => h) (by rfl) hHeld (by intro w hS; exact run_load_op 33 (.tmp 7) rfl _ 0 rfl Q2 _ (row_range (x1.later hS x1.lt)) Tryz.underlying33 rfl hzQ2.out) ?_
     try (first | (rw [put_some]; dsimp only [List.set]) | rw [put_none])
     refine rtake 7 _ (some 44) _ rfl rfl (by kernel_rfl) (by kernel_rfl) (by kernel_rfl) (fun _ _ _ h => h) (by rfl) hHeld (by intro w hS; go_simp; try with_reducible rfl) ?_
     try (first | (rw [put_some]; dsimp only [List.set]) | rw [put_none])
     refine rtake 8 _ (some 45) _ rfl rfl (by kernel_rfl) (by kernel_rfl) (by kernel_rfl) (fun _ _ _ h => h) (by rfl) hHeld (by intro w hS; have hc := HCL.out w hS; go_simp; try with_reducible rfl) ?_
     try (first | (rw [put_some]; dsimp only [List.set]) | rw [put_none])
     refine wpAnyH_ready (rs := [4]) (by kernel_rfl) (by simp) (AllReadyH.cons (o := _) rfl (fun K hK => ?_) AllReadyH.nil)
     go_simp
     refine (HG.out _ hB).mono ?_; rintro e wwr4 ⟨rfl, hqwr4⟩
     try go_wp2_with fail
     refine hK.out _ _ (hHeld.trans (hqwr4.mono hHeld.size)) (fun hHeld' => ?_)
     clear hK K
     try (first | (rw [put_some]; dsimp only [List.set]) | rw [put_none])
     have hB := below_step hB hqwr4
     have hB4 : Below wwr4.heap.size wwr4 wwr4 := Below.refl _ _
     refine wpAnyH_narrow (S' := fun w' => Below wwr4.heap.size wwr4 w') (fun _ h => (hHeld.trans (hqwr4.mono hHeld.size)).trans (h.mono (hHeld.trans (hqwr4.mono hHeld.size)).size)) _ _ _ _ ?_
     clear hHeld
     have hHeld : Below wwr4.heap.size wwr4 wwr4 := Below.refl _ _
     refine wpAnyH_ready (rs := [9]) (by kernel_rfl) (by simp) (AllReadyH.cons (o := _) rfl (fun K hK => ?_) AllReadyH.nil)
     go_simp
     refine (HR.out _ hB).mono ?_; rintro e wwr9 ⟨rfl, hqwr9⟩
     try go_wp2_with fail
     refine hK.out _ _ (hHeld.trans (hqwr9.mono hHeld.size)) (fun hHeld' => ?_)
     clear hK K
     try (first | (rw [put_some]; dsimp only [List.set]) | rw [put_none])
     have hB := below_step hB hqwr9
     have hB4 := below_step hB4 hqwr9
     have hB9 : Below wwr9.heap.size wwr9 wwr9 := Below.refl _ _
     refine wpAnyH_narrow (S' := fun w' => Below wwr9.heap.size wwr9 w') (fun _ h => (hHeld.trans (hqwr9.mono hHeld.size)).trans (h.mono (hHeld.trans (hqwr9.mono hHeld.size)).size)) _ _ _ _ ?_
     clear hHeld
     have hHeld : Below wwr9.heap.size wwr9 wwr9 := Below.refl _ _
     refine rtake 10 _ (some 47) _ rfl rfl (by kernel_rfl) (by kernel_rfl) (by kernel_rfl) (fun _ _ _ h => h) (by rfl) hHeld (by intro w hS; go_simp; try with_reducible rfl) ?_
     try (first | (rw [put_some]; dsimp only [List.set]) | rw [put_none])
     refine wpAnyH_done (by kernel_rfl) ?_ _
     refine NoPanic.normal ?_
     have hq := hB
     clear hHeld
     clear hB
     have hE0 := hE0.next hq
     have r1 := r1.later hq r1.lt
     have q1 := q1.later hq q1.lt
     have x1 := x1.later hq x1.lt
     have a1 := PrdArg.later18 a1 (Nat.le_refl _) hq
     have sl := sl.later (Nat.le_refl _) hq
     have hb0 := hb0.trans (hq.mono hb0.size)
     clear hq
     go_wp2
     go_roundw
     case rel => exact ⟨k + 1, by omega, by go_num, HK2.out, r1, q1, x1, a1, sl, hE0, hb0⟩
     case measure => simp [intOf]; omega
   ·obtain rfl : k = l.length := by omega
    have hall : ∀ s ∈ l, s.length ≤ 1000 := by
     intro s hs
     obtain ⟨i, hi, rfl⟩ := List.mem_iff_getElem.1 hs
     have := hz i hi
     rw [List.getD_eq_getElem?_getD, List.getElem?_eq_getElem hi] at this
     exact this
    have HG1 := Lib.hid (fun w' (h : Below wr.heap.size wr w') => gholds_any p A c (askR r b) t w' ((a1.short HLP.out).later (Nat.le_refl _) h) HOK.out htt (hE0.next h))
    have HR1 := Lib.hid (fun w' (h : Below wr.heap.size wr w') => rholds_any p A c (askR r b) t w' ((a1.short HLP.out).later (Nat.le_refl _) h) HOK.out htt)
    have HG2 := Lib.hid (fun w' (h : Below wr.heap.size wr w') => gall_any l hall (by omega) B d (askR r b) t w' (sl.later (Nat.le_refl _) h) HOK.out htt (hE0.next h))
    have HR2 := Lib.hid (fun w' (h : Below wr.heap.size wr w') => rall18_any l (fun s hs => by have := hall s hs; omega) B d (askR r b) t w' (sl.later (Nat.le_refl _) h) (by omega) HOK.out htt)
    have HCL := Lib.hid (fun w' (h : Below wr.heap.size wr w') => HCE.out w' _ (q1.later h q1.lt))
    rw [← HQ2.out] at HG1 HR1 HG2 HR2
    rw [← HQ.out] at HG1 HR1
    generalize holdsL p (askR r b) t = v1 at *
    generalize holdsA l (askR r b) t = v2 at *
    clear hz hall
    go_wp2
    refine wp_region_noPanic ?_
    refine wp_region_held_drew (S := fun w' => Below wr.heap.size wr w') (by kernel_rfl) ((Below.refl _ _).drew) (fun hHeld => ?_)
    have hB := hHeld
    refine rtake 0 _ (some 49) _ rfl rfl (by kernel_rfl) (by kernel_rfl) (by kernel_rfl) (fun _ _ _ h => h) (by rfl) hHeld (by intro w hS; exact run_load_op 31 (.tmp 3) rfl _ 0 rfl Q _ (row_range (r1.later hS r1.lt)) Tryz.underlying31 rfl hzQ.out) ?_
    try (first | (rw [put_some]; dsimp only [List.set]) | rw [put_none])
    refine rtake 1 _ (some 50) _ rfl rfl (by kernel_rfl) (by kernel_rfl) (by kernel_rfl) (fun _ _ _ h => h) (by rfl) hHeld (by intro w hS; exact run_load_op 33 (.tmp 7) rfl _ 0 rfl Q2 _ (row_range (x1.later hS x1.lt)) Tryz.underlying33 rfl hzQ2.out) ?_
    try (first | (rw [put_some]; dsimp only [List.set]) | rw [put_none])
    refine rtake 2 _ (some 51) _ rfl rfl (by kernel_rfl) (by kernel_rfl) (by kernel_rfl) (fun _ _ _ h => h) (by rfl) hHeld (by intro w hS; go_simp; try with_reducible rfl) ?_
    try (first | (rw [put_some]; dsimp only [List.set]) | rw [put_none])
    refine rtake 3 _ (some 52) _ rfl rfl (by kernel_rfl) (by kernel_rfl) (by kernel_rfl) (fun _ _ _ h => h) (by rfl) hHeld (by intro w hS; have hc := HCL.out w hS; go_simp; try with_reducible rfl) ?_
    try (first | (rw [put_some]; dsimp only [List.set]) | rw [put_none])
    refine rtake 5 _ (some 54) _ rfl rfl (by kernel_rfl) (by kernel_rfl) (by kernel_rfl) (fun _ _ _ h => h) (by rfl) hHeld (by intro w hS; exact run_load_op 31 (.tmp 3) rfl _ 0 rfl Q _ (row_range (r1.later hS r1.lt)) Tryz.underlying31 rfl hzQ.out) ?_
    try (first | (rw [put_some]; dsimp only [List.set]) | rw [put_none])
    refine rtake 6 _ (some 55) _ rfl rfl (by kernel_rfl) (by kernel_rfl) (by kernel_rfl) (fun _ _ _ h => h) (by rfl) hHeld (by intro w hS; exact run_load_op 33 (.tmp 7) rfl _ 0 rfl Q2 _ (row_range (x1.later hS x1.lt)) Tryz.underlying33 rfl hzQ2.out) ?_
    try (first | (rw [put_some]; dsimp only [List.set]) | rw [put_none])
    refine rtake 7 _ (some 56) _ rfl rfl (by kernel_rfl) (by kernel_rfl) (by kernel_rfl) (fun _ _ _ h => h) (by rfl) hHeld (by intro w hS; go_simp; try with_reducible rfl) ?_
    try (first | (rw [put_some]; dsimp only [List.set]) | rw [put_none])
    refine rtake 8 _ (some 57) _ rfl rfl (by kernel_rfl) (by kernel_rfl) (by kernel_rfl) (fun _ _ _ h => h) (by rfl) hHeld (by intro w hS; have hc := HCL.out w hS; go_simp; try with_reducible rfl) ?_
    try (first | (rw [put_some]; dsimp only [List.set]) | rw [put_none])
    refine wpAnyH_ready (rs := [4]) (by kernel_rfl) (by simp) (AllReadyH.cons (o := _) rfl (fun K hK => ?_) AllReadyH.nil)
    go_simp
    refine (HG1.out _ hB).mono ?_; rintro e wwr4 ⟨rfl, hqwr4⟩
    try go_wp2_with fail
    refine hK.out _ _ (hHeld.trans (hqwr4.mono hHeld.size)) (fun hHeld' => ?_)
    clear hK K
    try (first | (rw [put_some]; dsimp only [List.set]) | rw [put_none])
    have hB := below_step hB hqwr4
    have hB4 : Below wwr4.heap.size wwr4 wwr4 := Below.refl _ _
    refine wpAnyH_narrow (S' := fun w' => Below wwr4.heap.size wwr4 w') (fun _ h => (hHeld.trans (hqwr4.mono hHeld.size)).trans (h.mono (hHeld.trans (hqwr4.mono hHeld.size)).size)) _ _ _ _ ?_
    clear hHeld
    have hHeld : Below wwr4.heap.size wwr4 wwr4 := Below.refl _ _
    refine wpAnyH_ready (rs := [9]) (by kernel_rfl) (by simp) (AllReadyH.cons (o := _) rfl (fun K hK => ?_) AllReadyH.nil)
    go_simp
    refine (HR1.out _ hB).mono ?_; rintro e wwr9 ⟨rfl, hqwr9⟩
    try go_wp2_with fail
    refine hK.out _ _ (hHeld.trans (hqwr9.mono hHeld.size)) (fun hHeld' => ?_)
    clear hK K
    try (first | (rw [put_some]; dsimp only [List.set]) | rw [put_none])
    have hB := below_step hB hqwr9
    have hB4 := below_step hB4 hqwr9
    have hB9 : Below wwr9.heap.size wwr9 wwr9 := Below.refl _ _
    refine wpAnyH_narrow (S' := fun w' => Below wwr9.heap.size wwr9 w') (fun _ h => (hHeld.trans (hqwr9.mono hHeld.size)).trans (h.mono (hHeld.trans (hqwr9.mono hHeld.size)).size)) _ _ _ _ ?_
    clear hHeld
    have hHeld : Below wwr9.heap.size wwr9 wwr9 := Below.refl _ _
    refine rtake 10 _ (some 59) _ rfl rfl (by kernel_rfl) (by kernel_rfl) (by kernel_rfl) (fun _ _ _ h => h) (by rfl) hHeld (by intro w hS; go_simp; try with_reducible rfl) ?_
    try (first | (rw [put_some]; dsimp only [List.set]) | rw [put_none])
    refine rtake 11 _ (some 60) _ rfl rfl (by kernel_rfl) (by kernel_rfl) (by kernel_rfl) (fun _ _ _ h => h) (by rfl) hHeld (by intro w hS; go_simp; try with_reducible rfl) ?_
    try (first | (rw [put_some]; dsimp only [List.set]) | rw [put_none])
    refine rtake 12 _ (some 61) _ rfl rfl (by kernel_rfl) (by kernel_rfl) (by kernel_rfl) (fun _ _ _ h => h) (by rfl) hHeld (by intro w hS; go_simp; try with_reducible rfl) ?_
    try (first | (rw [put_some]; dsimp only [List.set]) | rw [put_none])
    refine rtake 13 _ (some 62) _ rfl rfl (by kernel_rfl) (by kernel_rfl) (by kernel_rfl) (fun _ _ _ h => h) (by rfl) hHeld (by intro w hS; exact run_load_op 33 (.tmp 7) rfl _ 0 rfl Q2 _ (row_range (x1.later (hB.trans (hS.mono hB.size)) x1.lt)) Tryz.underlying33 rfl hzQ2.out) ?_
    try (first | (rw [put_some]; dsimp only [List.set]) | rw [put_none])
    refine rtake 14 _ (some 63) _ rfl rfl (by kernel_rfl) (by kernel_rfl) (by kernel_rfl) (fun _ _ _ h => h) (by rfl) hHeld (by intro w hS; go_simp; try with_reducible rfl) ?_
    try (first | (rw [put_some]; dsimp only [List.set]) | rw [put_none])
    refine rtake 15 _ (some 64) _ rfl rfl (by kernel_rfl) (by kernel_rfl) (by kernel_rfl) (fun _ _ _ h => h) (by rfl) hHeld (by intro w hS; have hc := HCL.out w (hB.trans (hS.mono hB.size)); go_simp; try with_reducible rfl) ?_
    try (first | (rw [put_some]; dsimp only [List.set]) | rw [put_none])
    refine rtake 17 _ (some 66) _ rfl rfl (by kernel_rfl) (by kernel_rfl) (by kernel_rfl) (fun _ _ _ h => h) (by rfl) hHeld (by intro w hS; go_simp; try with_reducible rfl) ?_
    try (first | (rw [put_some]; dsimp only [List.set]) | rw [put_none])
    refine rtake 18 _ (some 67) _ rfl rfl (by kernel_rfl) (by kernel_rfl) (by kernel_rfl) (fun _ _ _ h => h) (by rfl) hHeld (by intro w hS; exact run_load_op 33 (.tmp 7) rfl _ 0 rfl Q2 _ (row_range (x1.later (hB.trans (hS.mono hB.size)) x1.lt)) Tryz.underlying33 rfl hzQ2.out) ?_
    try (first | (rw [put_some]; dsimp only [List.set]) | rw [put_none])
    refine rtake 19 _ (some 68) _ rfl rfl (by kernel_rfl) (by kernel_rfl) (by kernel_rfl) (fun _ _ _ h => h) (by rfl) hHeld (by intro w hS; go_simp; try with_reducible rfl) ?_
    try (first | (rw [put_some]; dsimp only [List.set]) | rw [put_none])
    refine rtake 20 _ (some 69) _ rfl rfl (by kernel_rfl) (by kernel_rfl) (by kernel_rfl) (fun _ _ _ h => h) (by rfl) hHeld (by intro w hS; have hc := HCL.out w (hB.trans (hS.mono hB.size)); go_simp; try with_reducible rfl) ?_
    try (first | (rw [put_some]; dsimp only [List.set]) | rw [put_none])
    refine wpAnyH_ready (rs := [16]) (by kernel_rfl) (by simp) (AllReadyH.cons (o := _) rfl (fun K hK => ?_) AllReadyH.nil)
    go_simp
    refine (HG2.out _ hB).mono ?_; rintro e wwr16 ⟨rfl, hqwr16⟩
    try go_wp2_with fail
    refine hK.out _ _ (hHeld.trans (hqwr16.mono hHeld.size)) (fun hHeld' => ?_)
    clear hK K
    try (first | (rw [put_some]; dsimp only [List.set]) | rw [put_none])
    have hB := below_step hB hqwr16
    have hB4 := below_step hB4 hqwr16
    have hB9 := below_step hB9 hqwr16
    have hB16 : Below wwr16.heap.size wwr16 wwr16 := Below.refl _ _
    refine wpAnyH_narrow (S' := fun w' => Below wwr16.heap.size wwr16 w') (fun _ h => (hHeld.trans (hqwr16.mono hHeld.size)).trans (h.mono (hHeld.trans (hqwr16.mono hHeld.size)).size)) _ _ _ _ ?_
    clear hHeld
    have hHeld : Below wwr16.heap.size wwr16 wwr16 := Below.refl _ _
    refine wpAnyH_ready (rs := [21]) (by kernel_rfl) (by simp) (AllReadyH.cons (o := _) rfl (fun K hK => ?_) AllReadyH.nil)
    go_simp
    refine (HR2.out _ hB).mono ?_; rintro e wwr21 ⟨rfl, hqwr21⟩
    try go_wp2_with fail
    refine hK.out _ _ (hHeld.trans (hqwr21.mono hHeld.size)) (fun hHeld' => ?_)
    clear hK K
    try (first | (rw [put_some]; dsimp only [List.set]) | rw [put_none])
    have hB := below_step hB hqwr21
    have hB4 := below_step hB4 hqwr21
    have hB9 := below_step hB9 hqwr21
    have hB16 := below_step hB16 hqwr21
    have hB21 : Below wwr21.heap.size wwr21 wwr21 := Below.refl _ _
    refine wpAnyH_narrow (S' := fun w' => Below wwr21.heap.size wwr21 w') (fun _ h => (hHeld.trans (hqwr21.mono hHeld.size)).trans (h.mono (hHeld.trans (hqwr21.mono hHeld.size)).size)) _ _ _ _ ?_
    clear hHeld
    have hHeld : Below wwr21.heap.size wwr21 wwr21 := Below.refl _ _
    refine rtake 22 _ (some 71) _ rfl rfl (by kernel_rfl) (by kernel_rfl) (by kernel_rfl) (fun _ _ _ h => h) (by rfl) hHeld (by intro w hS; go_simp; try with_reducible rfl) ?_
    try (first | (rw [put_some]; dsimp only [List.set]) | rw [put_none])
    refine rtake 23 _ (some 72) _ rfl rfl (by kernel_rfl) (by kernel_rfl) (by kernel_rfl) (fun _ _ _ h => h) (by rfl) hHeld (by intro w hS; go_simp; try with_reducible rfl) ?_
    try (first | (rw [put_some]; dsimp only [List.set]) | rw [put_none])
    refine rtake 24 _ (some 6) _ rfl rfl (by kernel_rfl) (by kernel_rfl) (by kernel_rfl) (fun _ _ _ h => h) (by rfl) hHeld (by intro w hS; go_simp; try with_reducible rfl) ?_
    try (first | (rw [put_some]; dsimp only [List.set]) | rw [put_none])
    refine wpAnyH_done (by kernel_rfl) ?_ _
    refine NoPanic.normal ?_
    have hBe := hb0.trans (hB.mono hb0.size)
    clear hHeld
    go_wp2
    go_ret
    exact ⟨rfl, hBe⟩
end Go.Proofs.YtjieebmcbpdeiaaGreatDoor
