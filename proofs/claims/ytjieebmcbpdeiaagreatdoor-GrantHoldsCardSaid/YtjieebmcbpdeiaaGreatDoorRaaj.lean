import Derived.Test.YtjieebmcbpdeiaaGreatDoorRaai
import Derived.Test.YtjieebmcbpdeiaaGreatDoorRaah
import Derived.Test.YtjieebmcbpdeiaaGreatDoorRaac
namespace Go.Proofs.YtjieebmcbpdeiaaGreatDoor
set_option maxRecDepth 100000
open Go Go.RowKit
theorem bstr_empty17 (s : List UInt8) : (bstr s).toList.isEmpty = decide (s = []) := by
 rw [bstr_toList]
 cases s <;> rfl
set_option maxHeartbeats 8000000 in
theorem ronly_1 (p : Prd) (A : Option Addr) (c : Nat) (w : World) (h : PrdAt w p A c) (hk : p.kind = 1) :
  Calls Tryz.prog 65 #[.agg (prdV p A c).toArray] w fun e w' => e = .returned (.bool (onlyP p)) ∧ Below w.heap.size w w' := by
 obtain ⟨ok, hnm, hlo, hhi, hpl, hsum⟩ := h
 have hsz := Lib.hid (show (Tryz.prog.info? 28).map (·.size) = some (rngV p.net).length by rw [length_rngV' _ ok.net.a]; exact size_rng)
 have r1 : Row (w.alloc (.cells (prdV p A c).toArray 31)) w.heap.size 31 (prdV p A c) := Row.new w _ _
 have hb1 : Below w.heap.size w (w.alloc (.cells (prdV p A c).toArray 31)) := (Below.refl _ w).alloc (Nat.le_refl _) _
 obtain ⟨x0, x1, x2, x3, x22⟩ := prd_at p A c ok.net.a
 have K4 := Lib.hid ((prd_cells (p := p) (A := A) (c := c) ok.net.a r1).2.2.2.2.1)
 obtain ⟨X, hX⟩ : ∃ X, X = prdV p A c := ⟨_, rfl⟩
 rw [← hX] at x0 x1 x2 x3 x22 r1 hb1 K4 ⊢
 have heq := Lib.hid (fun w' => show (Op.equalIn 10000 28 (.agg (rngV p.net).toArray) (.agg #[.bool false, .int .u8 0, .int .u8 0, .int .u8 0, .int .u8 0, .int .u8 0, .int .u8 0, .int .u8 0, .int .u8 0, .int .u8 0, .int .u8 0, .int .u8 0, .int .u8 0, .int .u8 0, .int .u8 0, .int .u8 0, .int .u8 0, .int .i64 0])).run Tryz.prog w' = .ok (sameR p.net zeroR) w' from eq_rng p.net zeroR ok.net.a zeroR_ok.a w')
 have hsm := Lib.hid (fun w' => fsame_any p.cost 0 w')
 clear hX r1 hnm hsum hpl
 rw [hk] at x0
 by_cases t2 : p.names = []
 case neg =>
  have HX := Lib.hid (show onlyP p = false by unfold onlyP; simp [hk, t2])
  have a2 : ((p.names.length : Int) == 0) = false := by rw [beq_eq_false_iff_ne]; intro h; exact t2 (List.length_eq_zero_iff.1 (by omega))
  clear heq hsm
  clear t2
  generalize rngV p.net = R at *
  generalize p.names.length = N at *
  go_enter Tryz.func65, Tryz.ntmps65
  go_wp2
  go_ret
  exact ⟨by rw [HX.out]; rfl, hb1⟩
 by_cases t3 : p.path = []
 case neg =>
  have HX := Lib.hid (show onlyP p = false by unfold onlyP; simp [hk, t2, t3])
  have a2 : ((p.names.length : Int) == 0) = true := by rw [t2]; rfl
  have a3 : (bstr p.path).toList.isEmpty = false := by rw [bstr_empty17, decide_eq_false t3]
  clear heq hsm
  clear t2 t3
  generalize rngV p.net = R at *
  generalize p.names.length = N at *
  go_enter Tryz.func65, Tryz.ntmps65
  go_wp2
  go_ret
  exact ⟨by rw [HX.out]; rfl, hb1⟩
 by_cases t4 : sameR p.net zeroR = true
 case neg =>
  have HX := Lib.hid (show onlyP p = false by unfold onlyP; simp [hk, t2, t3, t4])
  have a2 : ((p.names.length : Int) == 0) = true := by rw [t2]; rfl
  have a3 : (bstr p.path).toList.isEmpty = true := by rw [bstr_empty17, decide_eq_true t3]
  have a4 := fun w' => (heq.out w').trans (by rw [show sameR p.net zeroR = false from by simpa using t4])
  clear heq hsm
  clear t2 t3 t4
  generalize rngV p.net = R at *
  generalize p.names.length = N at *
  go_enter Tryz.func65, Tryz.ntmps65
  go_wp2_with (first
   | (with_reducible refine wpList_open (d := some 43) ?_ ?_; kernel_rfl; with_reducible refine wpList_load_mid rfl 28 (.tmp 42) rfl w.heap.size 4 rfl R _ K4.out Tryz.underlying28 rfl hsz.out ?_))
  go_ret
  exact ⟨by rw [HX.out]; rfl, hb1⟩
 by_cases t5 : p.cost = 0
 case neg =>
  have HX := Lib.hid (show onlyP p = false by unfold onlyP; simp [hk, t2, t3, t4, t5])
  have a2 : ((p.names.length : Int) == 0) = true := by rw [t2]; rfl
  have a3 : (bstr p.path).toList.isEmpty = true := by rw [bstr_empty17, decide_eq_true t3]
  have a4 := fun w' => (heq.out w').trans (by rw [t4])
  have a5 := Lib.hid (fun w' => (decide_eq_false t5) ▸ hsm.out w')
  clear heq
  clear t2 t3 t4 t5
  generalize rngV p.net = R at *
  generalize p.names.length = N at *
  go_enter Tryz.func65, Tryz.ntmps65
  go_wp2_with (first
   | (with_reducible refine wpList_open (d := some 43) ?_ ?_; kernel_rfl; with_reducible refine wpList_load_mid rfl 28 (.tmp 42) rfl w.heap.size 4 rfl R _ K4.out Tryz.underlying28 rfl hsz.out ?_)
   | (go_at_call 48; refine (a5.out _).mono ?_; rintro e w' ⟨rfl, rfl⟩))
  go_ret
  exact ⟨by rw [HX.out]; rfl, hb1⟩
 have HX := Lib.hid (show onlyP p = true by unfold onlyP; simp [hk, t2, t3, t4, t5])
 have a2 : ((p.names.length : Int) == 0) = true := by rw [t2]; rfl
 have a3 : (bstr p.path).toList.isEmpty = true := by rw [bstr_empty17, decide_eq_true t3]
 have a4 := fun w' => (heq.out w').trans (by rw [t4])
 have a5 := Lib.hid (fun w' => (decide_eq_true t5) ▸ hsm.out w')
 clear heq
 clear t2 t3 t4 t5
 generalize rngV p.net = R at *
 generalize p.names.length = N at *
 go_enter Tryz.func65, Tryz.ntmps65
 go_wp2_with (first
  | (with_reducible refine wpList_open (d := some 43) ?_ ?_; kernel_rfl; with_reducible refine wpList_load_mid rfl 28 (.tmp 42) rfl w.heap.size 4 rfl R _ K4.out Tryz.underlying28 rfl hsz.out ?_)
  | (go_at_call 48; refine (a5.out _).mono ?_; rintro e w' ⟨rfl, rfl⟩))
 go_ret
 exact ⟨by rw [HX.out]; rfl, hb1⟩
set_option maxHeartbeats 8000000 in
theorem ronly_2 (p : Prd) (A : Option Addr) (c : Nat) (w : World) (h : PrdAt w p A c) (hk : p.kind = 2) :
  Calls Tryz.prog 65 #[.agg (prdV p A c).toArray] w fun e w' => e = .returned (.bool (onlyP p)) ∧ Below w.heap.size w w' := by
 obtain ⟨ok, hnm, hlo, hhi, hpl, hsum⟩ := h
 have hsz := Lib.hid (show (Tryz.prog.info? 28).map (·.size) = some (rngV p.net).length by rw [length_rngV' _ ok.net.a]; exact size_rng)
 have r1 : Row (w.alloc (.cells (prdV p A c).toArray 31)) w.heap.size 31 (prdV p A c) := Row.new w _ _
 have hb1 : Below w.heap.size w (w.alloc (.cells (prdV p A c).toArray 31)) := (Below.refl _ w).alloc (Nat.le_refl _) _
 obtain ⟨x0, x1, x2, x3, x22⟩ := prd_at p A c ok.net.a
 have K4 := Lib.hid ((prd_cells (p := p) (A := A) (c := c) ok.net.a r1).2.2.2.2.1)
 obtain ⟨X, hX⟩ : ∃ X, X = prdV p A c := ⟨_, rfl⟩
 rw [← hX] at x0 x1 x2 x3 x22 r1 hb1 K4 ⊢
 have heq := Lib.hid (fun w' => show (Op.equalIn 10000 28 (.agg (rngV p.net).toArray) (.agg #[.bool false, .int .u8 0, .int .u8 0, .int .u8 0, .int .u8 0, .int .u8 0, .int .u8 0, .int .u8 0, .int .u8 0, .int .u8 0, .int .u8 0, .int .u8 0, .int .u8 0, .int .u8 0, .int .u8 0, .int .u8 0, .int .u8 0, .int .i64 0])).run Tryz.prog w' = .ok (sameR p.net zeroR) w' from eq_rng p.net zeroR ok.net.a zeroR_ok.a w')
 have hsm := Lib.hid (fun w' => fsame_any p.cost 0 w')
 clear hX r1 hnm hsum hpl
 rw [hk] at x0
 by_cases t2 : p.names = []
 case neg =>
  have HX := Lib.hid (show onlyP p = false by unfold onlyP; simp [hk, t2])
  have a2 : ((p.names.length : Int) == 0) = false := by rw [beq_eq_false_iff_ne]; intro h; exact t2 (List.length_eq_zero_iff.1 (by omega))
  clear heq hsm
  clear t2
  generalize rngV p.net = R at *
  generalize p.names.length = N at *
  go_enter Tryz.func65, Tryz.ntmps65
  go_wp2
  go_ret
  exact ⟨by rw [HX.out]; rfl, hb1⟩
 by_cases t3 : p.path = []
 case neg =>
  have HX := Lib.hid (show onlyP p = false by unfold onlyP; simp [hk, t2, t3])
  have a2 : ((p.names.length : Int) == 0) = true := by rw [t2]; rfl
  have a3 : (bstr p.path).toList.isEmpty = false := by rw [bstr_empty17, decide_eq_false t3]
  clear heq hsm
  clear t2 t3
  generalize rngV p.net = R at *
  generalize p.names.length = N at *
  go_enter Tryz.func65, Tryz.ntmps65
  go_wp2
  go_ret
  exact ⟨by rw [HX.out]; rfl, hb1⟩
 by_cases t4 : sameR p.net zeroR = true
 case neg =>
  have HX := Lib.hid (show onlyP p = false by unfold onlyP; simp [hk, t2, t3, t4])
  have a2 : ((p.names.length : Int) == 0) = true := by rw [t2]; rfl
  have a3 : (bstr p.path).toList.isEmpty = true := by rw [bstr_empty17, decide_eq_true t3]
  have a4 := fun w' => (heq.out w').trans (by rw [show sameR p.net zeroR = false from by simpa using t4])
  clear heq hsm
  clear t2 t3 t4
  generalize rngV p.net = R at *
  generalize p.names.length = N at *
  go_enter Tryz.func65, Tryz.ntmps65
  go_wp2_with (first
   | (with_reducible refine wpList_open (d := some 43) ?_ ?_; kernel_rfl; with_reducible refine wpList_load_mid rfl 28 (.tmp 42) rfl w.heap.size 4 rfl R _ K4.out Tryz.underlying28 rfl hsz.out ?_))
  go_ret
  exact ⟨by rw [HX.out]; rfl, hb1⟩
 by_cases t5 : p.cost = 0
 case neg =>
  have HX := Lib.hid (show onlyP p = false by unfold onlyP; simp [hk, t2, t3, t4, t5])
  have a2 : ((p.names.length : Int) == 0) = true := by rw [t2]; rfl
  have a3 : (bstr p.path).toList.isEmpty = true := by rw [bstr_empty17, decide_eq_true t3]
  have a4 := fun w' => (heq.out w').trans (by rw [t4])
  have a5 := Lib.hid (fun w' => (decide_eq_false t5) ▸ hsm.out w')
  clear heq
  clear t2 t3 t4 t5
  generalize rngV p.net = R at *
  generalize p.names.length = N at *
  go_enter Tryz.func65, Tryz.ntmps65
  go_wp2_with (first
   | (with_reducible refine wpList_open (d := some 43) ?_ ?_; kernel_rfl; with_reducible refine wpList_load_mid rfl 28 (.tmp 42) rfl w.heap.size 4 rfl R _ K4.out Tryz.underlying28 rfl hsz.out ?_)
   | (go_at_call 48; refine (a5.out _).mono ?_; rintro e w' ⟨rfl, rfl⟩))
  go_ret
  exact ⟨by rw [HX.out]; rfl, hb1⟩
 have HX := Lib.hid (show onlyP p = true by unfold onlyP; simp [hk, t2, t3, t4, t5])
 have a2 : ((p.names.length : Int) == 0) = true := by rw [t2]; rfl
 have a3 : (bstr p.path).toList.isEmpty = true := by rw [bstr_empty17, decide_eq_true t3]
 have a4 := fun w' => (heq.out w').trans (by rw [t4])
 have a5 := Lib.hid (fun w' => (decide_eq_true t5) ▸ hsm.out w')
 clear heq
 clear t2 t3 t4 t5
 generalize rngV p.net = R at *
 generalize p.names.length = N at *
 go_enter Tryz.func65, Tryz.ntmps65
 go_wp2_with (first
  | (with_reducible refine wpList_open (d := some 43) ?_ ?_; kernel_rfl; with_reducible refine wpList_load_mid rfl 28 (.tmp 42) rfl w.heap.size 4 rfl R _ K4.out Tryz.underlying28 rfl hsz.out ?_)
  | (go_at_call 48; refine (a5.out _).mono ?_; rintro e w' ⟨rfl, rfl⟩))
 go_ret
 exact ⟨by rw [HX.out]; rfl, hb1⟩
set_option maxHeartbeats 8000000 in
theorem ronly_3 (p : Prd) (A : Option Addr) (c : Nat) (w : World) (h : PrdAt w p A c) (hk : p.kind = 3) :
  Calls Tryz.prog 65 #[.agg (prdV p A c).toArray] w fun e w' => e = .returned (.bool (onlyP p)) ∧ Below w.heap.size w w' := by
 obtain ⟨ok, hnm, hlo, hhi, hpl, hsum⟩ := h
 have hsz := Lib.hid (show (Tryz.prog.info? 28).map (·.size) = some (rngV p.net).length by rw [length_rngV' _ ok.net.a]; exact size_rng)
 have r1 : Row (w.alloc (.cells (prdV p A c).toArray 31)) w.heap.size 31 (prdV p A c) := Row.new w _ _
 have hb1 : Below w.heap.size w (w.alloc (.cells (prdV p A c).toArray 31)) := (Below.refl _ w).alloc (Nat.le_refl _) _
 obtain ⟨x0, x1, x2, x3, x22⟩ := prd_at p A c ok.net.a
 have K4 := Lib.hid ((prd_cells (p := p) (A := A) (c := c) ok.net.a r1).2.2.2.2.1)
 obtain ⟨X, hX⟩ : ∃ X, X = prdV p A c := ⟨_, rfl⟩
 rw [← hX] at x0 x1 x2 x3 x22 r1 hb1 K4 ⊢
 have heq := Lib.hid (fun w' => show (Op.equalIn 10000 28 (.agg (rngV p.net).toArray) (.agg #[.bool false, .int .u8 0, .int .u8 0, .int .u8 0, .int .u8 0, .int .u8 0, .int .u8 0, .int .u8 0, .int .u8 0, .int .u8 0, .int .u8 0, .int .u8 0, .int .u8 0, .int .u8 0, .int .u8 0, .int .u8 0, .int .u8 0, .int .i64 0])).run Tryz.prog w' = .ok (sameR p.net zeroR) w' from eq_rng p.net zeroR ok.net.a zeroR_ok.a w')
 have hsm := Lib.hid (fun w' => fsame_any p.cost 0 w')
 clear hX r1 hnm hsum hpl
 rw [hk] at x0
 by_cases t1 : p.time = 0
 case neg =>
  have HX := Lib.hid (show onlyP p = false by unfold onlyP; simp [hk, t1])
  have a1 : ((p.time : Int) == 0) = false := by rw [beq_eq_false_iff_ne]; omega
  clear heq hsm
  clear t1
  generalize rngV p.net = R at *
  generalize p.names.length = N at *
  go_enter Tryz.func65, Tryz.ntmps65
  go_wp2
  go_ret
  exact ⟨by rw [HX.out]; rfl, hb1⟩
 by_cases t3 : p.path = []
 case neg =>
  have HX := Lib.hid (show onlyP p = false by unfold onlyP; simp [hk, t1, t3])
  have a1 : ((p.time : Int) == 0) = true := by rw [t1]; rfl
  have a3 : (bstr p.path).toList.isEmpty = false := by rw [bstr_empty17, decide_eq_false t3]
  clear heq hsm
  clear t1 t3
  generalize rngV p.net = R at *
  generalize p.names.length = N at *
  go_enter Tryz.func65, Tryz.ntmps65
  go_wp2
  go_ret
  exact ⟨by rw [HX.out]; rfl, hb1⟩
 by_cases t4 : sameR p.net zeroR = true
 case neg =>
  have HX := Lib.hid (show onlyP p = false by unfold onlyP; simp [hk, t1, t3, t4])
  have a1 : ((p.time : Int) == 0) = true := by rw [t1]; rfl
  have a3 : (bstr p.path).toList.isEmpty = true := by rw [bstr_empty17, decide_eq_true t3]
  have a4 := fun w' => (heq.out w').trans (by rw [show sameR p.net zeroR = false from by simpa using t4])
  clear heq hsm
  clear t1 t3 t4
  generalize rngV p.net = R at *
  generalize p.names.length = N at *
  go_enter Tryz.func65, Tryz.ntmps65
  go_wp2_with (first
   | (with_reducible refine wpList_open (d := some 43) ?_ ?_; kernel_rfl; with_reducible refine wpList_load_mid rfl 28 (.tmp 42) rfl w.heap.size 4 rfl R _ K4.out Tryz.underlying28 rfl hsz.out ?_))
  go_ret
  exact ⟨by rw [HX.out]; rfl, hb1⟩
 by_cases t5 : p.cost = 0
 case neg =>
  have HX := Lib.hid (show onlyP p = false by unfold onlyP; simp [hk, t1, t3, t4, t5])
  have a1 : ((p.time : Int) == 0) = true := by rw [t1]; rfl
  have a3 : (bstr p.path).toList.isEmpty = true := by rw [bstr_empty17, decide_eq_true t3]
  have a4 := fun w' => (heq.out w').trans (by rw [t4])
  have a5 := Lib.hid (fun w' => (decide_eq_false t5) ▸ hsm.out w')
  clear heq
  clear t1 t3 t4 t5
  generalize rngV p.net = R at *
  generalize p.names.length = N at *
  go_enter Tryz.func65, Tryz.ntmps65
  go_wp2_with (first
   | (with_reducible refine wpList_open (d := some 43) ?_ ?_; kernel_rfl; with_reducible refine wpList_load_mid rfl 28 (.tmp 42) rfl w.heap.size 4 rfl R _ K4.out Tryz.underlying28 rfl hsz.out ?_)
   | (go_at_call 48; refine (a5.out _).mono ?_; rintro e w' ⟨rfl, rfl⟩))
  go_ret
  exact ⟨by rw [HX.out]; rfl, hb1⟩
 have HX := Lib.hid (show onlyP p = true by unfold onlyP; simp [hk, t1, t3, t4, t5])
 have a1 : ((p.time : Int) == 0) = true := by rw [t1]; rfl
 have a3 : (bstr p.path).toList.isEmpty = true := by rw [bstr_empty17, decide_eq_true t3]
 have a4 := fun w' => (heq.out w').trans (by rw [t4])
 have a5 := Lib.hid (fun w' => (decide_eq_true t5) ▸ hsm.out w')
 clear heq
 clear t1 t3 t4 t5
 generalize rngV p.net = R at *
 generalize p.names.length = N at *
 go_enter Tryz.func65, Tryz.ntmps65
 go_wp2_with (first
  | (with_reducible refine wpList_open (d := some 43) ?_ ?_; kernel_rfl; with_reducible refine wpList_load_mid rfl 28 (.tmp 42) rfl w.heap.size 4 rfl R _ K4.out Tryz.underlying28 rfl hsz.out ?_)
  | (go_at_call 48; refine (a5.out _).mono ?_; rintro e w' ⟨rfl, rfl⟩))
 go_ret
 exact ⟨by rw [HX.out]; rfl, hb1⟩
set_option maxHeartbeats 8000000 in
theorem ronly_4 (p : Prd) (A : Option Addr) (c : Nat) (w : World) (h : PrdAt w p A c) (hk : p.kind = 4) :
  Calls Tryz.prog 65 #[.agg (prdV p A c).toArray] w fun e w' => e = .returned (.bool (onlyP p)) ∧ Below w.heap.size w w' := by
 obtain ⟨ok, hnm, hlo, hhi, hpl, hsum⟩ := h
 have hsz := Lib.hid (show (Tryz.prog.info? 28).map (·.size) = some (rngV p.net).length by rw [length_rngV' _ ok.net.a]; exact size_rng)
 have r1 : Row (w.alloc (.cells (prdV p A c).toArray 31)) w.heap.size 31 (prdV p A c) := Row.new w _ _
 have hb1 : Below w.heap.size w (w.alloc (.cells (prdV p A c).toArray 31)) := (Below.refl _ w).alloc (Nat.le_refl _) _
 obtain ⟨x0, x1, x2, x3, x22⟩ := prd_at p A c ok.net.a
 have K4 := Lib.hid ((prd_cells (p := p) (A := A) (c := c) ok.net.a r1).2.2.2.2.1)
 obtain ⟨X, hX⟩ : ∃ X, X = prdV p A c := ⟨_, rfl⟩
 rw [← hX] at x0 x1 x2 x3 x22 r1 hb1 K4 ⊢
 have heq := Lib.hid (fun w' => show (Op.equalIn 10000 28 (.agg (rngV p.net).toArray) (.agg #[.bool false, .int .u8 0, .int .u8 0, .int .u8 0, .int .u8 0, .int .u8 0, .int .u8 0, .int .u8 0, .int .u8 0, .int .u8 0, .int .u8 0, .int .u8 0, .int .u8 0, .int .u8 0, .int .u8 0, .int .u8 0, .int .u8 0, .int .i64 0])).run Tryz.prog w' = .ok (sameR p.net zeroR) w' from eq_rng p.net zeroR ok.net.a zeroR_ok.a w')
 have hsm := Lib.hid (fun w' => fsame_any p.cost 0 w')
 clear hX r1 hnm hsum hpl
 rw [hk] at x0
 by_cases t1 : p.time = 0
 case neg =>
  have HX := Lib.hid (show onlyP p = false by unfold onlyP; simp [hk, t1])
  have a1 : ((p.time : Int) == 0) = false := by rw [beq_eq_false_iff_ne]; omega
  clear heq hsm
  clear t1
  generalize rngV p.net = R at *
  generalize p.names.length = N at *
  go_enter Tryz.func65, Tryz.ntmps65
  go_wp2
  go_ret
  exact ⟨by rw [HX.out]; rfl, hb1⟩
 by_cases t2 : p.names = []
 case neg =>
  have HX := Lib.hid (show onlyP p = false by unfold onlyP; simp [hk, t1, t2])
  have a1 : ((p.time : Int) == 0) = true := by rw [t1]; rfl
  have a2 : ((p.names.length : Int) == 0) = false := by rw [beq_eq_false_iff_ne]; intro h; exact t2 (List.length_eq_zero_iff.1 (by omega))
  clear heq hsm
  clear t1 t2
  generalize rngV p.net = R at *
  generalize p.names.length = N at *
  go_enter Tryz.func65, Tryz.ntmps65
  go_wp2
  go_ret
  exact ⟨by rw [HX.out]; rfl, hb1⟩
 by_cases t4 : sameR p.net zeroR = true
 case neg =>
  have HX := Lib.hid (show onlyP p = false by unfold onlyP; simp [hk, t1, t2, t4])
  have a1 : ((p.time : Int) == 0) = true := by rw [t1]; rfl
  have a2 : ((p.names.length : Int) == 0) = true := by rw [t2]; rfl
  have a4 := fun w' => (heq.out w').trans (by rw [show sameR p.net zeroR = false from by simpa using t4])
  clear heq hsm
  clear t1 t2 t4
  generalize rngV p.net = R at *
  generalize p.names.length = N at *
  go_enter Tryz.func65, Tryz.ntmps65
  go_wp2_with (first
   | (with_reducible refine wpList_open (d := some 43) ?_ ?_; kernel_rfl; with_reducible refine wpList_load_mid rfl 28 (.tmp 42) rfl w.heap.size 4 rfl R _ K4.out Tryz.underlying28 rfl hsz.out ?_))
  go_ret
  exact ⟨by rw [HX.out]; rfl, hb1⟩
 by_cases t5 : p.cost = 0
 case neg =>
  have HX := Lib.hid (show onlyP p = false by unfold onlyP; simp [hk, t1, t2, t4, t5])
  have a1 : ((p.time : Int) == 0) = true := by rw [t1]; rfl
  have a2 : ((p.names.length : Int) == 0) = true := by rw [t2]; rfl
  have a4 := fun w' => (heq.out w').trans (by rw [t4])
  have a5 := Lib.hid (fun w' => (decide_eq_false t5) ▸ hsm.out w')
  clear heq
  clear t1 t2 t4 t5
  generalize rngV p.net = R at *
  generalize p.names.length = N at *
  go_enter Tryz.func65, Tryz.ntmps65
  go_wp2_with (first
   | (with_reducible refine wpList_open (d := some 43) ?_ ?_; kernel_rfl; with_reducible refine wpList_load_mid rfl 28 (.tmp 42) rfl w.heap.size 4 rfl R _ K4.out Tryz.underlying28 rfl hsz.out ?_)
   | (go_at_call 48; refine (a5.out _).mono ?_; rintro e w' ⟨rfl, rfl⟩))
  go_ret
  exact ⟨by rw [HX.out]; rfl, hb1⟩
 have HX := Lib.hid (show onlyP p = true by unfold onlyP; simp [hk, t1, t2, t4, t5])
 have a1 : ((p.time : Int) == 0) = true := by rw [t1]; rfl
 have a2 : ((p.names.length : Int) == 0) = true := by rw [t2]; rfl
 have a4 := fun w' => (heq.out w').trans (by rw [t4])
 have a5 := Lib.hid (fun w' => (decide_eq_true t5) ▸ hsm.out w')
 clear heq
 clear t1 t2 t4 t5
 generalize rngV p.net = R at *
 generalize p.names.length = N at *
 go_enter Tryz.func65, Tryz.ntmps65
 go_wp2_with (first
  | (with_reducible refine wpList_open (d := some 43) ?_ ?_; kernel_rfl; with_reducible refine wpList_load_mid rfl 28 (.tmp 42) rfl w.heap.size 4 rfl R _ K4.out Tryz.underlying28 rfl hsz.out ?_)
  | (go_at_call 48; refine (a5.out _).mono ?_; rintro e w' ⟨rfl, rfl⟩))
 go_ret
 exact ⟨by rw [HX.out]; rfl, hb1⟩
set_option maxHeartbeats 8000000 in
theorem ronly_5 (p : Prd) (A : Option Addr) (c : Nat) (w : World) (h : PrdAt w p A c) (hk : p.kind = 5) :
  Calls Tryz.prog 65 #[.agg (prdV p A c).toArray] w fun e w' => e = .returned (.bool (onlyP p)) ∧ Below w.heap.size w w' := by
 obtain ⟨ok, hnm, hlo, hhi, hpl, hsum⟩ := h
 have hsz := Lib.hid (show (Tryz.prog.info? 28).map (·.size) = some (rngV p.net).length by rw [length_rngV' _ ok.net.a]; exact size_rng)
 have r1 : Row (w.alloc (.cells (prdV p A c).toArray 31)) w.heap.size 31 (prdV p A c) := Row.new w _ _
 have hb1 : Below w.heap.size w (w.alloc (.cells (prdV p A c).toArray 31)) := (Below.refl _ w).alloc (Nat.le_refl _) _
 obtain ⟨x0, x1, x2, x3, x22⟩ := prd_at p A c ok.net.a
 have K4 := Lib.hid ((prd_cells (p := p) (A := A) (c := c) ok.net.a r1).2.2.2.2.1)
 obtain ⟨X, hX⟩ : ∃ X, X = prdV p A c := ⟨_, rfl⟩
 rw [← hX] at x0 x1 x2 x3 x22 r1 hb1 K4 ⊢
 have heq := Lib.hid (fun w' => show (Op.equalIn 10000 28 (.agg (rngV p.net).toArray) (.agg #[.bool false, .int .u8 0, .int .u8 0, .int .u8 0, .int .u8 0, .int .u8 0, .int .u8 0, .int .u8 0, .int .u8 0, .int .u8 0, .int .u8 0, .int .u8 0, .int .u8 0, .int .u8 0, .int .u8 0, .int .u8 0, .int .u8 0, .int .i64 0])).run Tryz.prog w' = .ok (sameR p.net zeroR) w' from eq_rng p.net zeroR ok.net.a zeroR_ok.a w')
 have hsm := Lib.hid (fun w' => fsame_any p.cost 0 w')
 clear hX r1 hnm hsum hpl
 rw [hk] at x0
 by_cases t1 : p.time = 0
 case neg =>
  have HX := Lib.hid (show onlyP p = false by unfold onlyP; simp [hk, t1])
  have a1 : ((p.time : Int) == 0) = false := by rw [beq_eq_false_iff_ne]; omega
  clear heq hsm
  clear t1
  generalize rngV p.net = R at *
  generalize p.names.length = N at *
  go_enter Tryz.func65, Tryz.ntmps65
  go_wp2
  go_ret
  exact ⟨by rw [HX.out]; rfl, hb1⟩
 by_cases t2 : p.names = []
 case neg =>
  have HX := Lib.hid (show onlyP p = false by unfold onlyP; simp [hk, t1, t2])
  have a1 : ((p.time : Int) == 0) = true := by rw [t1]; rfl
  have a2 : ((p.names.length : Int) == 0) = false := by rw [beq_eq_false_iff_ne]; intro h; exact t2 (List.length_eq_zero_iff.1 (by omega))
  clear heq hsm
  clear t1 t2
  generalize rngV p.net = R at *
  generalize p.names.length = N at *
  go_enter Tryz.func65, Tryz.ntmps65
  go_wp2
  go_ret
  exact ⟨by rw [HX.out]; rfl, hb1⟩
 by_cases t3 : p.path = []
 case neg =>
  have HX := Lib.hid (show onlyP p = false by unfold onlyP; simp [hk, t1, t2, t3])
  have a1 : ((p.time : Int) == 0) = true := by rw [t1]; rfl
  have a2 : ((p.names.length : Int) == 0) = true := by rw [t2]; rfl
  have a3 : (bstr p.path).toList.isEmpty = false := by rw [bstr_empty17, decide_eq_false t3]
  clear heq hsm
  clear t1 t2 t3
  generalize rngV p.net = R at *
  generalize p.names.length = N at *
  go_enter Tryz.func65, Tryz.ntmps65
  go_wp2
  go_ret
  exact ⟨by rw [HX.out]; rfl, hb1⟩
 by_cases t5 : p.cost = 0
 case neg =>
  have HX := Lib.hid (show onlyP p = false by unfold onlyP; simp [hk, t1, t2, t3, t5])
  have a1 : ((p.time : Int) == 0) = true := by rw [t1]; rfl
  have a2 : ((p.names.length : Int) == 0) = true := by rw [t2]; rfl
  have a3 : (bstr p.path).toList.isEmpty = true := by rw [bstr_empty17, decide_eq_true t3]
  have a5 := Lib.hid (fun w' => (decide_eq_false t5) ▸ hsm.out w')
  clear heq
  clear t1 t2 t3 t5
  generalize rngV p.net = R at *
  generalize p.names.length = N at *
  go_enter Tryz.func65, Tryz.ntmps65
  go_wp2_with (first
   | (go_at_call 48; refine (a5.out _).mono ?_; rintro e w' ⟨rfl, rfl⟩))
  go_ret
  exact ⟨by rw [HX.out]; rfl, hb1⟩
 have HX := Lib.hid (show onlyP p = true by unfold onlyP; simp [hk, t1, t2, t3, t5])
 have a1 : ((p.time : Int) == 0) = true := by rw [t1]; rfl
 have a2 : ((p.names.length : Int) == 0) = true := by rw [t2]; rfl
 have a3 : (bstr p.path).toList.isEmpty = true := by rw [bstr_empty17, decide_eq_true t3]
 have a5 := Lib.hid (fun w' => (decide_eq_true t5) ▸ hsm.out w')
 clear heq
 clear t1 t2 t3 t5
 generalize rngV p.net = R at *
 generalize p.names.length = N at *
 go_enter Tryz.func65, Tryz.ntmps65
 go_wp2_with (first
  | (go_at_call 48; refine (a5.out _).mono ?_; rintro e w' ⟨rfl, rfl⟩))
 go_ret
 exact ⟨by rw [HX.out]; rfl, hb1⟩
set_option maxHeartbeats 8000000 in
theorem ronly_6 (p : Prd) (A : Option Addr) (c : Nat) (w : World) (h : PrdAt w p A c) (hk : p.kind = 6) :
  Calls Tryz.prog 65 #[.agg (prdV p A c).toArray] w fun e w' => e = .returned (.bool (onlyP p)) ∧ Below w.heap.size w w' := by
 obtain ⟨ok, hnm, hlo, hhi, hpl, hsum⟩ := h
 have hsz := Lib.hid (show (Tryz.prog.info? 28).map (·.size) = some (rngV p.net).length by rw [length_rngV' _ ok.net.a]; exact size_rng)
 have r1 : Row (w.alloc (.cells (prdV p A c).toArray 31)) w.heap.size 31 (prdV p A c) := Row.new w _ _
 have hb1 : Below w.heap.size w (w.alloc (.cells (prdV p A c).toArray 31)) := (Below.refl _ w).alloc (Nat.le_refl _) _
 obtain ⟨x0, x1, x2, x3, x22⟩ := prd_at p A c ok.net.a
 have K4 := Lib.hid ((prd_cells (p := p) (A := A) (c := c) ok.net.a r1).2.2.2.2.1)
 obtain ⟨X, hX⟩ : ∃ X, X = prdV p A c := ⟨_, rfl⟩
 rw [← hX] at x0 x1 x2 x3 x22 r1 hb1 K4 ⊢
 have heq := Lib.hid (fun w' => show (Op.equalIn 10000 28 (.agg (rngV p.net).toArray) (.agg #[.bool false, .int .u8 0, .int .u8 0, .int .u8 0, .int .u8 0, .int .u8 0, .int .u8 0, .int .u8 0, .int .u8 0, .int .u8 0, .int .u8 0, .int .u8 0, .int .u8 0, .int .u8 0, .int .u8 0, .int .u8 0, .int .u8 0, .int .i64 0])).run Tryz.prog w' = .ok (sameR p.net zeroR) w' from eq_rng p.net zeroR ok.net.a zeroR_ok.a w')
 have hsm := Lib.hid (fun w' => fsame_any p.cost 0 w')
 clear hX r1 hnm hsum hpl
 rw [hk] at x0
 by_cases t1 : p.time = 0
 case neg =>
  have HX := Lib.hid (show onlyP p = false by unfold onlyP; simp [hk, t1])
  have a1 : ((p.time : Int) == 0) = false := by rw [beq_eq_false_iff_ne]; omega
  clear heq hsm
  clear t1
  generalize rngV p.net = R at *
  generalize p.names.length = N at *
  go_enter Tryz.func65, Tryz.ntmps65
  go_wp2
  go_ret
  exact ⟨by rw [HX.out]; rfl, hb1⟩
 by_cases t2 : p.names = []
 case neg =>
  have HX := Lib.hid (show onlyP p = false by unfold onlyP; simp [hk, t1, t2])
  have a1 : ((p.time : Int) == 0) = true := by rw [t1]; rfl
  have a2 : ((p.names.length : Int) == 0) = false := by rw [beq_eq_false_iff_ne]; intro h; exact t2 (List.length_eq_zero_iff.1 (by omega))
  clear heq hsm
  clear t1 t2
  generalize rngV p.net = R at *
  generalize p.names.length = N at *
  go_enter Tryz.func65, Tryz.ntmps65
  go_wp2
  go_ret
  exact ⟨by rw [HX.out]; rfl, hb1⟩
 by_cases t3 : p.path = []
 case neg =>
  have HX := Lib.hid (show onlyP p = false by unfold onlyP; simp [hk, t1, t2, t3])
  have a1 : ((p.time : Int) == 0) = true := by rw [t1]; rfl
  have a2 : ((p.names.length : Int) == 0) = true := by rw [t2]; rfl
  have a3 : (bstr p.path).toList.isEmpty = false := by rw [bstr_empty17, decide_eq_false t3]
  clear heq hsm
  clear t1 t2 t3
  generalize rngV p.net = R at *
  generalize p.names.length = N at *
  go_enter Tryz.func65, Tryz.ntmps65
  go_wp2
  go_ret
  exact ⟨by rw [HX.out]; rfl, hb1⟩
 by_cases t4 : sameR p.net zeroR = true
 case neg =>
  have HX := Lib.hid (show onlyP p = false by unfold onlyP; simp [hk, t1, t2, t3, t4])
  have a1 : ((p.time : Int) == 0) = true := by rw [t1]; rfl
  have a2 : ((p.names.length : Int) == 0) = true := by rw [t2]; rfl
  have a3 : (bstr p.path).toList.isEmpty = true := by rw [bstr_empty17, decide_eq_true t3]
  have a4 := fun w' => (heq.out w').trans (by rw [show sameR p.net zeroR = false from by simpa using t4])
  clear heq hsm
  clear t1 t2 t3 t4
  generalize rngV p.net = R at *
  generalize p.names.length = N at *
  go_enter Tryz.func65, Tryz.ntmps65
  go_wp2_with (first
   | (with_reducible refine wpList_open (d := some 43) ?_ ?_; kernel_rfl; with_reducible refine wpList_load_mid rfl 28 (.tmp 42) rfl w.heap.size 4 rfl R _ K4.out Tryz.underlying28 rfl hsz.out ?_))
  go_ret
  exact ⟨by rw [HX.out]; rfl, hb1⟩
 have HX := Lib.hid (show onlyP p = true by unfold onlyP; simp [hk, t1, t2, t3, t4])
 have a1 : ((p.time : Int) == 0) = true := by rw [t1]; rfl
 have a2 : ((p.names.length : Int) == 0) = true := by rw [t2]; rfl
 have a3 : (bstr p.path).toList.isEmpty = true := by rw [bstr_empty17, decide_eq_true t3]
 have a4 := fun w' => (heq.out w').trans (by rw [t4])
 clear heq hsm
 clear t1 t2 t3 t4
 generalize rngV p.net = R at *
 generalize p.names.length = N at *
 go_enter Tryz.func65, Tryz.ntmps65
 go_wp2_with (first
  | (with_reducible refine wpList_open (d := some 43) ?_ ?_; kernel_rfl; with_reducible refine wpList_load_mid rfl 28 (.tmp 42) rfl w.heap.size 4 rfl R _ K4.out Tryz.underlying28 rfl hsz.out ?_))
 go_ret
 exact ⟨by rw [HX.out]; rfl, hb1⟩
set_option maxHeartbeats 8000000 in
theorem ronly_none (p : Prd) (A : Option Addr) (c : Nat) (w : World) (h : PrdAt w p A c) (e1 : p.kind ≠ 1) (e2 : p.kind ≠ 2) (e3 : p.kind ≠ 3) (e4 : p.kind ≠ 4) (e5 : p.kind ≠ 5) (e6 : p.kind ≠ 6) :
  Calls Tryz.prog 65 #[.agg (prdV p A c).toArray] w fun e w' => e = .returned (.bool (onlyP p)) ∧ Below w.heap.size w w' := by
 obtain ⟨ok, hnm, hlo, hhi, hpl, hsum⟩ := h
 have hsz := Lib.hid (show (Tryz.prog.info? 28).map (·.size) = some (rngV p.net).length by rw [length_rngV' _ ok.net.a]; exact size_rng)
 have r1 : Row (w.alloc (.cells (prdV p A c).toArray 31)) w.heap.size 31 (prdV p A c) := Row.new w _ _
 have hb1 : Below w.heap.size w (w.alloc (.cells (prdV p A c).toArray 31)) := (Below.refl _ w).alloc (Nat.le_refl _) _
 obtain ⟨x0, x1, x2, x3, x22⟩ := prd_at p A c ok.net.a
 have K4 := Lib.hid ((prd_cells (p := p) (A := A) (c := c) ok.net.a r1).2.2.2.2.1)
 obtain ⟨X, hX⟩ : ∃ X, X = prdV p A c := ⟨_, rfl⟩
 rw [← hX] at x0 x1 x2 x3 x22 r1 hb1 K4 ⊢
 have heq := Lib.hid (fun w' => show (Op.equalIn 10000 28 (.agg (rngV p.net).toArray) (.agg #[.bool false, .int .u8 0, .int .u8 0, .int .u8 0, .int .u8 0, .int .u8 0, .int .u8 0, .int .u8 0, .int .u8 0, .int .u8 0, .int .u8 0, .int .u8 0, .int .u8 0, .int .u8 0, .int .u8 0, .int .u8 0, .int .u8 0, .int .i64 0])).run Tryz.prog w' = .ok (sameR p.net zeroR) w' from eq_rng p.net zeroR ok.net.a zeroR_ok.a w')
 have hsm := Lib.hid (fun w' => fsame_any p.cost 0 w')
 clear hX r1 hnm hsum hpl
 have n1 : (p.kind == 1) = false := by rw [beq_eq_false_iff_ne]; exact e1
 have n2 : (p.kind == 2) = false := by rw [beq_eq_false_iff_ne]; exact e2
 have n3 : (p.kind == 3) = false := by rw [beq_eq_false_iff_ne]; exact e3
 have n4 : (p.kind == 4) = false := by rw [beq_eq_false_iff_ne]; exact e4
 have n5 : (p.kind == 5) = false := by rw [beq_eq_false_iff_ne]; exact e5
 have n6 : (p.kind == 6) = false := by rw [beq_eq_false_iff_ne]; exact e6
 by_cases t1 : p.time = 0
 case neg =>
  have HX := Lib.hid (show onlyP p = false by unfold onlyP; simp [e1, e2, e3, e4, e5, e6, t1])
  have a1 : ((p.time : Int) == 0) = false := by rw [beq_eq_false_iff_ne]; omega
  clear heq hsm
  clear e1 e2 e3 e4 e5 e6
  clear t1
  generalize rngV p.net = R at *
  generalize p.names.length = N at *
  generalize p.kind = K at *
  go_enter Tryz.func65, Tryz.ntmps65
  go_wp2
  go_ret
  exact ⟨by rw [HX.out]; rfl, hb1⟩
 by_cases t2 : p.names = []
 case neg =>
  have HX := Lib.hid (show onlyP p = false by unfold onlyP; simp [e1, e2, e3, e4, e5, e6, t1, t2])
  have a1 : ((p.time : Int) == 0) = true := by rw [t1]; rfl
  have a2 : ((p.names.length : Int) == 0) = false := by rw [beq_eq_false_iff_ne]; intro h; exact t2 (List.length_eq_zero_iff.1 (by omega))
  clear heq hsm
  clear e1 e2 e3 e4 e5 e6
  clear t1 t2
  generalize rngV p.net = R at *
  generalize p.names.length = N at *
  generalize p.kind = K at *
  go_enter Tryz.func65, Tryz.ntmps65
  go_wp2
  go_ret
  exact ⟨by rw [HX.out]; rfl, hb1⟩
 by_cases t3 : p.path = []
 case neg =>
  have HX := Lib.hid (show onlyP p = false by unfold onlyP; simp [e1, e2, e3, e4, e5, e6, t1, t2, t3])
  have a1 : ((p.time : Int) == 0) = true := by rw [t1]; rfl
  have a2 : ((p.names.length : Int) == 0) = true := by rw [t2]; rfl
  have a3 : (bstr p.path).toList.isEmpty = false := by rw [bstr_empty17, decide_eq_false t3]
  clear heq hsm
  clear e1 e2 e3 e4 e5 e6
  clear t1 t2 t3
  generalize rngV p.net = R at *
  generalize p.names.length = N at *
  generalize p.kind = K at *
  go_enter Tryz.func65, Tryz.ntmps65
  go_wp2
  go_ret
  exact ⟨by rw [HX.out]; rfl, hb1⟩
 by_cases t4 : sameR p.net zeroR = true
 case neg =>
  have HX := Lib.hid (show onlyP p = false by unfold onlyP; simp [e1, e2, e3, e4, e5, e6, t1, t2, t3, t4])
  have a1 : ((p.time : Int) == 0) = true := by rw [t1]; rfl
  have a2 : ((p.names.length : Int) == 0) = true := by rw [t2]; rfl
  have a3 : (bstr p.path).toList.isEmpty = true := by rw [bstr_empty17, decide_eq_true t3]
  have a4 := fun w' => (heq.out w').trans (by rw [show sameR p.net zeroR = false from by simpa using t4])
  clear heq hsm
  clear e1 e2 e3 e4 e5 e6
  clear t1 t2 t3 t4
  generalize rngV p.net = R at *
  generalize p.names.length = N at *
  generalize p.kind = K at *
  go_enter Tryz.func65, Tryz.ntmps65
  go_wp2_with (first
   | (with_reducible refine wpList_open (d := some 43) ?_ ?_; kernel_rfl; with_reducible refine wpList_load_mid rfl 28 (.tmp 42) rfl w.heap.size 4 rfl R _ K4.out Tryz.underlying28 rfl hsz.out ?_))
  go_ret
  exact ⟨by rw [HX.out]; rfl, hb1⟩
 by_cases t5 : p.cost = 0
 case neg =>
  have HX := Lib.hid (show onlyP p = false by unfold onlyP; simp [e1, e2, e3, e4, e5, e6, t1, t2, t3, t4, t5])
  have a1 : ((p.time : Int) == 0) = true := by rw [t1]; rfl
  have a2 : ((p.names.length : Int) == 0) = true := by rw [t2]; rfl
  have a3 : (bstr p.path).toList.isEmpty = true := by rw [bstr_empty17, decide_eq_true t3]
  have a4 := fun w' => (heq.out w').trans (by rw [t4])
  have a5 := Lib.hid (fun w' => (decide_eq_false t5) ▸ hsm.out w')
  clear heq
  clear e1 e2 e3 e4 e5 e6
  clear t1 t2 t3 t4 t5
  generalize rngV p.net = R at *
  generalize p.names.length = N at *
  generalize p.kind = K at *
  go_enter Tryz.func65, Tryz.ntmps65
  go_wp2_with (first
   | (with_reducible refine wpList_open (d := some 43) ?_ ?_; kernel_rfl; with_reducible refine wpList_load_mid rfl 28 (.tmp 42) rfl w.heap.size 4 rfl R _ K4.out Tryz.underlying28 rfl hsz.out ?_)
   | (go_at_call 48; refine (a5.out _).mono ?_; rintro e w' ⟨rfl, rfl⟩))
  go_ret
  exact ⟨by rw [HX.out]; rfl, hb1⟩
 have HX := Lib.hid (show onlyP p = true by unfold onlyP; simp [e1, e2, e3, e4, e5, e6, t1, t2, t3, t4, t5])
 have a1 : ((p.time : Int) == 0) = true := by rw [t1]; rfl
 have a2 : ((p.names.length : Int) == 0) = true := by rw [t2]; rfl
 have a3 : (bstr p.path).toList.isEmpty = true := by rw [bstr_empty17, decide_eq_true t3]
 have a4 := fun w' => (heq.out w').trans (by rw [t4])
 have a5 := Lib.hid (fun w' => (decide_eq_true t5) ▸ hsm.out w')
 clear heq
 clear e1 e2 e3 e4 e5 e6
 clear t1 t2 t3 t4 t5
 generalize rngV p.net = R at *
 generalize p.names.length = N at *
 generalize p.kind = K at *
 go_enter Tryz.func65, Tryz.ntmps65
 go_wp2_with (first
  | (with_reducible refine wpList_open (d := some 43) ?_ ?_; kernel_rfl; with_reducible refine wpList_load_mid rfl 28 (.tmp 42) rfl w.heap.size 4 rfl R _ K4.out Tryz.underlying28 rfl hsz.out ?_)
  | (go_at_call 48; refine (a5.out _).mono ?_; rintro e w' ⟨rfl, rfl⟩))
 go_ret
 exact ⟨by rw [HX.out]; rfl, hb1⟩
theorem ronly_any (p : Prd) (A : Option Addr) (c : Nat) (w : World) (h : PrdAt w p A c) :
  Calls Tryz.prog 65 #[.agg (prdV p A c).toArray] w fun e w' => e = .returned (.bool (onlyP p)) ∧ Below w.heap.size w w' := by
 by_cases e1 : p.kind = 1
 case pos => exact ronly_1 p A c w h e1
 by_cases e2 : p.kind = 2
 case pos => exact ronly_2 p A c w h e2
 by_cases e3 : p.kind = 3
 case pos => exact ronly_3 p A c w h e3
 by_cases e4 : p.kind = 4
 case pos => exact ronly_4 p A c w h e4
 by_cases e5 : p.kind = 5
 case pos => exact ronly_5 p A c w h e5
 by_cases e6 : p.kind = 6
 case pos => exact ronly_6 p A c w h e6
 exact ronly_none p A c w h e1 e2 e3 e4 e5 e6
theorem digI_ten (c : UInt8) : digI 10 c = if 48 ≤ c.toNat ∧ c.toNat ≤ 57 then (c.toNat : Int) - 48 else -1 := by
 have h : ∀ n : Fin 256, digI 10 (UInt8.ofNat n.1) = if 48 ≤ n.1 ∧ n.1 ≤ 57 then (n.1 : Int) - 48 else -1 := by decide +kernel
 have := h ⟨c.toNat, c.toNat_lt⟩
 simpa using this
theorem foldV_bad (s : List UInt8) (k m : Nat) (h : k < s.length) (hc : ¬ (48 ≤ (s.getD k 0).toNat ∧ (s.getD k 0).toNat ≤ 57)) : foldV 10 m (s.drop k) = none := by
 rw [foldV_at 10 m k s h, digI_ten, if_neg hc]; rfl
theorem foldV_good (s : List UInt8) (k m : Nat) (h : k < s.length) (hc : 48 ≤ (s.getD k 0).toNat ∧ (s.getD k 0).toNat ≤ 57) : foldV 10 m (s.drop k) = foldV 10 (m * 10 + ((s.getD k 0).toNat - 48)) (s.drop (k + 1)) := by
 rw [foldV_at 10 m k s h, digI_ten, if_pos hc, if_neg (by omega)]
 congr 1
 omega
def GaveDigits (most : Nat) (s : List UInt8) (w : World) (e : Ending) (w' : World) : Prop :=
 ∃ n : Nat, e = .returned (.tuple #[.int .u64 (n : Int), .bool (valueL 10 most s).isSome]) ∧ n < 10 ^ most ∧ (∀ v, valueL 10 most s = some v → n = v) ∧ Below w.heap.size w w'
set_option maxHeartbeats 4000000 in
theorem fdigits_any (s : List UInt8) (hs : s.length ≤ 1000) (most : Nat) (hm : most ≤ 16) (w : World) : Calls Tryz.prog 98 #[.string (bstr s), .int .i64 most] w (GaveDigits most s w) := by
 have hz := size_bstr s
 by_cases hlong : most < s.length
 ·have HV := Lib.hid (show valueL 10 most s = none by unfold valueL; rw [if_pos (.inr hlong)])
  have a1 : (most : Int) < (s.length : Int) := by omega
  clear hlong
  go_enter Tryz.func98, Tryz.ntmps98
  go_wp2
  go_ret2
  exact ⟨0, by rw [HV.out]; rfl, Nat.pow_pos (by omega), (fun v h => by rw [HV.out] at h; cases h), Below.refl _ _⟩
 ·have a1 : (s.length : Int) ≤ (most : Int) := by omega
  have HV := Lib.hid (show valueL 10 most s = if s.length = 0 then none else match foldV 10 0 s with
   | none => none
   | some n => if numL 10 n = s then some n else none by
    unfold valueL
    by_cases h0 : s.length = 0
    ·rw [if_pos (.inl h0), if_pos h0]
    ·rw [if_neg (by omega), if_neg h0]; rfl)
  have hl16 : s.length ≤ 16 := by omega
  go_enter Tryz.func98, Tryz.ntmps98
  go_wp2
  have HLM := Lib.hid (show s.length ≤ most by omega)
  clear a1 hlong
  go_loop [6, 7] (fun x i => ∃ k m : Nat, k ≤ s.length ∧ i = .int .i64 k ∧ x = .int .u64 m ∧ m < 10 ^ k ∧ foldV 10 m (s.drop k) = foldV 10 0 s) (fun _ i => s.length - (intOf i).toNat)
  case atStart => exact ⟨0, 0, by omega, rfl, rfl, by decide, rfl⟩
  case round =>
   obtain ⟨k, m, hk, rfl, rfl, hmk, hf⟩ := hrel
   by_cases hlt : k < s.length
   ·have hlt' : (k : Int) < (s.length : Int) := by omega
    have hix := index_bstr s k hlt
    have HB := Lib.hid (fun h => hf.symm.trans (foldV_bad s k m hlt h))
    have HG := Lib.hid (fun h => (foldV_good s k m hlt h).symm.trans hf)
    have hbd := byte_bd (s.getD k 0)
    generalize s.getD k 0 = c at *
    clear hf
    by_cases hc : 48 ≤ c.toNat ∧ c.toNat ≤ 57
    ·have HN := Lib.hid (HG.out hc)
     have c1 : decide ((c.toNat : Int) < 48) = false := decide_eq_false (by omega)
     have c2 : decide ((57 : Int) < (c.toNat : Int)) = false := decide_eq_false (by omega)
     have hP : 10 ^ k ≤ 10 ^ 15 := Nat.pow_le_pow_right (by omega) (by omega)
     have HP := Lib.hid (show 10 ^ (k + 1) = 10 ^ k * 10 from Nat.pow_succ ..)
     have hw1 : IntKind.u64.wrap ((m : Int) * 10) = (m : Int) * 10 := by rw [IntKind.wrap_u64]; omega
     have hw0 : IntKind.u64.wrap (c.toNat : Int) = (c.toNat : Int) := by rw [IntKind.wrap_u64]; omega
     have hw2 : IntKind.u64.wrap ((m : Int) * 10 + (c.toNat : Int)) = (m : Int) * 10 + (c.toNat : Int) := by rw [IntKind.wrap_u64]; omega
     have hw3 : IntKind.u64.wrap ((m : Int) * 10 + (c.toNat : Int) - 48) = ((m * 10 + (c.toNat - 48) : Nat) : Int) := by rw [IntKind.wrap_u64]; omega
     have hm2 : m * 10 + (c.toNat - 48) < 10 ^ (k + 1) := by rw [HP.out]; omega
     generalize m * 10 + (c.toNat - 48) = m2 at *
     clear HB HG hc hP
     go_wp2
     go_round
     case rel => exact ⟨k + 1, m2, by omega, by go_num, rfl, hm2, HN.out⟩
     case measure => simp [intOf]; omega
    ·have HN := Lib.hid (HB.out hc)
     have HW := Lib.hid (show valueL 10 most s = none by rw [HV.out, HN.out]; split <;> rfl)
     clear HB HG HV HN
     by_cases c1 : c.toNat < 48
     ·have c1' : (c.toNat : Int) < 48 := by omega
      clear hc c1
      go_wp2
      go_ret2
      exact ⟨0, by rw [HW.out]; rfl, Nat.pow_pos (by omega), (fun v h => by rw [HW.out] at h; cases h), Below.refl _ _⟩
     ·have c1' : decide ((c.toNat : Int) < 48) = false := decide_eq_false (by omega)
      have c2' : (57 : Int) < (c.toNat : Int) := by omega
      clear hc c1
      go_wp2
      go_ret2
      exact ⟨0, by rw [HW.out]; rfl, Nat.pow_pos (by omega), (fun v h => by rw [HW.out] at h; cases h), Below.refl _ _⟩
   ·obtain rfl : k = s.length := by omega
    have hf0 : foldV 10 0 s = some m := by rw [← hf, List.drop_length]; rfl
    have hval : valueL 10 most s = if numL 10 m = s then some m else none := by
     rw [HV.out, hf0]
     by_cases h0 : s.length = 0
     ·have e := List.length_eq_zero_iff.1 h0
      rw [if_pos h0, if_neg (by rw [e]; exact numL_ne 10 m)]
     ·rw [if_neg h0]
    have hm16 : m < 10 ^ most := Nat.lt_of_lt_of_le hmk (Nat.pow_le_pow_right (by omega) HLM.out)
    have hm64 : m < 2 ^ 64 := by have : 10 ^ s.length ≤ 10 ^ 16 := Nat.pow_le_pow_right (by omega) hl16; omega
    have hn := Lib.hid (fun w' => fnum_any m m w' (Nat.le_refl _) hm64)
    have he := bstr_beq (numL 10 m) s
    have HW := Lib.hid hval
    clear HV hf hf0 hval hmk
    by_cases hs2 : numL 10 m = s
    ·have HX := Lib.hid (HW.out.trans (if_pos hs2))
     rw [decide_eq_true hs2] at he
     clear HW hs2
     generalize numL 10 m = X at *
     go_wp2_with (go_at_call 127; refine (hn.out _).mono ?_; rintro e w1 ⟨rfl, hb1⟩)
     go_ret2
     exact ⟨m, by rw [HX.out]; rfl, hm16, (fun v h => by rw [HX.out] at h; exact Option.some.inj h), hb1⟩
    ·have HX := Lib.hid (HW.out.trans (if_neg hs2))
     rw [decide_eq_false hs2] at he
     clear HW hs2
     generalize numL 10 m = X at *
     go_wp2_with (go_at_call 127; refine (hn.out _).mono ?_; rintro e w1 ⟨rfl, hb1⟩)
     go_ret2
     exact ⟨m, by rw [HX.out]; rfl, hm16, (fun v h => by rw [HX.out] at h; cases h), hb1⟩
theorem ofC_off (m : Nat) (p : Int) (h : m % 2 = 0 ∨ 2 ^ 53 ≤ m ∨ p < -1074 ∨ 1023 < p) : ofC m p = none := by unfold ofC; rw [if_pos h]
theorem ofC_on (m : Nat) (p : Int) (h : ¬ (m % 2 = 0 ∨ 2 ^ 53 ≤ m ∨ p < -1074 ∨ 1023 < p)) : ofC m p = if 971 < (upC 52 m p).2 then none else some (bitsC (upC 52 m p).1 (upC 52 m p).2) := by unfold ofC; rw [if_neg h]
theorem up_stop (f M : Nat) (P : Int) (h : ¬ (M < 2 ^ 52 ∧ -1074 < P)) : upC f M P = (M, P) := by
 cases f with
 | zero => rfl
 | succ f => rw [upC, if_neg h]
theorem up_go (f M : Nat) (P : Int) (h : M < 2 ^ 52 ∧ -1074 < P) : upC (f + 1) M P = upC f (2 * M) (P - 1) := by rw [upC, if_pos h]
set_option maxHeartbeats 4000000 in
theorem fof_any (m : Nat) (p : Int) (hm : m < 2 ^ 64) (hp1 : -1000000 ≤ p) (hp2 : p ≤ 1000000) (w : World) : Calls Tryz.prog 99 #[.int .u64 m, .int .i64 p] w fun e w' => e = .returned (.tuple #[.float .f64 ((ofC m p).getD 0), .bool (ofC m p).isSome]) ∧ w = w' := by
 obtain ⟨V, hV⟩ : ∃ V, V = ofC m p := ⟨_, rfl⟩
 have HV := Lib.hid hV
 rw [← hV]
 clear hV
 by_cases h1 : m % 2 = 0
 ·have a1 : ((m : Int)).tmod 2 = 0 := by rw [Int.tmod_eq_emod_of_nonneg (by omega)]; omega
  have HW := Lib.hid (HV.out.trans (ofC_off m p (.inl h1)))
  clear HV h1
  go_enter Tryz.func99, Tryz.ntmps99
  go_wp2
  go_ret2
  exact ⟨by rw [HW.out]; rfl, rfl⟩
 have a1 : ((m : Int)).tmod 2 = 1 := by rw [Int.tmod_eq_emod_of_nonneg (by omega)]; omega
 by_cases h2 : 2 ^ 53 ≤ m
 ·have a2 : (9007199254740992 : Int) ≤ (m : Int) := by omega
  have HW := Lib.hid (HV.out.trans (ofC_off m p (.inr (.inl h2))))
  clear HV h1 h2
  go_enter Tryz.func99, Tryz.ntmps99
  go_wp2
  go_ret2
  exact ⟨by rw [HW.out]; rfl, rfl⟩
 have a2 : decide ((9007199254740992 : Int) ≤ (m : Int)) = false := decide_eq_false (by omega)
 by_cases h3 : p < -1074
 ·have HW := Lib.hid (HV.out.trans (ofC_off m p (.inr (.inr (.inl h3)))))
  clear HV h1 h2
  go_enter Tryz.func99, Tryz.ntmps99
  go_wp2
  go_ret2
  exact ⟨by rw [HW.out]; rfl, rfl⟩
 have a3 : decide (p < -1074) = false := decide_eq_false h3
 by_cases h4 : 1023 < p
 ·have HW := Lib.hid (HV.out.trans (ofC_off m p (.inr (.inr (.inr h4)))))
  clear HV h1 h2 h3
  go_enter Tryz.func99, Tryz.ntmps99
  go_wp2
  go_ret2
  exact ⟨by rw [HW.out]; rfl, rfl⟩
 have a4 : decide (1023 < p) = false := decide_eq_false h4
 have HW := Lib.hid (HV.out.trans (ofC_on m p (by omega)))
 have hm0 : 0 < m := by omega
 have hm1 : m < 2 ^ 53 := by omega
 have hq0 : -1074 ≤ p := by omega
 have hq1 : p ≤ 1023 := by omega
 clear HV h1 h2 h3 h4 hp1 hp2 hm
 go_enter Tryz.func99, Tryz.ntmps99
 go_wp2
 clear a1 a2 a3 a4
 go_loop [0, 1] (fun x y => ∃ (f M : Nat) (P : Int), x = .int .u64 M ∧ y = .int .i64 P ∧ 0 < M ∧ M < 2 ^ 53 ∧ -1074 ≤ P ∧ P ≤ 1023 ∧ upC f M P = upC 52 m p ∧ 2 ^ 52 ≤ M * 2 ^ f) (fun x _ => 2 ^ 53 - (intOf x).toNat)
 case atStart => exact ⟨52, m, p, rfl, rfl, hm0, hm1, hq0, hq1, rfl, Nat.le_mul_of_pos_left _ hm0⟩
 case round =>
  clear hm0 hm1 hq0 hq1
  obtain ⟨f, M, P, rfl, rfl, h1, h2, h3, h4, h5, h6⟩ := hrel
  by_cases hc : M < 2 ^ 52 ∧ -1074 < P
  ·obtain ⟨g, rfl⟩ : ∃ g, f = g + 1 := by
    cases f with
    | zero => rw [Nat.pow_zero, Nat.mul_one] at h6; omega
    | succ g => exact ⟨g, rfl⟩
   have c1 : (M : Int) < 4503599627370496 := by omega
   have c2 : -1074 < P := hc.2
   obtain ⟨M2, hM2⟩ : ∃ M2, M2 = 2 * M := ⟨_, rfl⟩
   have HR := Lib.hid (show 0 < M2 ∧ M2 < 2 ^ 53 ∧ -1074 ≤ P - 1 ∧ P - 1 ≤ 1023 ∧ upC g M2 (P - 1) = upC 52 m p ∧ 2 ^ 52 ≤ M2 * 2 ^ g ∧ M < M2 from
    ⟨by omega, by omega, by omega, by omega, by rw [hM2, ← up_go g M P hc, h5], by
     have e : M * 2 ^ (g + 1) = 2 * M * 2 ^ g := by rw [Nat.pow_succ, ← Nat.mul_assoc, Nat.mul_comm, ← Nat.mul_assoc]
     rw [hM2, ← e]; exact h6, by omega⟩)
   have hw1 : IntKind.u64.wrap ((M : Int) * 2) = (M2 : Int) := by rw [IntKind.wrap_u64]; omega
   have hw2 : IntKind.i64.wrap (P - 1) = P - 1 := by rw [IntKind.wrap_i64]; omega
   have HM := Lib.hid hM2
   clear hc h5 h6 h4 hM2
   go_wp2
   go_round
   case rel =>
    obtain ⟨r1, r2, r3, r4, r5, r6, -⟩ := HR.out
    exact ⟨g, M2, P - 1, rfl, rfl, r1, r2, r3, r4, r5, r6⟩
   case measure =>
    obtain ⟨r1, r2, r3, r4, r5, r6, r7⟩ := HR.out
    simp [intOf]; omega
  ·have HU := Lib.hid (show V = if 971 < P then none else some (bitsC M P) by rw [HW.out, ← h5, up_stop f M P hc])
   clear HW h5 h6
   by_cases hM : M < 2 ^ 52
   ·have hP : P = -1074 := by omega
    subst hP
    have c1 : (M : Int) < 4503599627370496 := by omega
    have HX := Lib.hid (show V = some M by rw [HU.out, if_neg (by omega)]; unfold bitsC; rw [if_pos hM])
    clear HU hc hM
    go_wp2
    go_ret2
    exact ⟨by rw [HX.out]; rfl, rfl⟩
   ·have c1 : decide ((M : Int) < 4503599627370496) = false := decide_eq_false (by omega)
    by_cases hP : 971 < P
    ·have HX := Lib.hid (HU.out.trans (if_pos hP))
     clear HU hc hM
     go_wp2
     go_ret2
     exact ⟨by rw [HX.out]; rfl, rfl⟩
    ·have c3 : P ≤ 971 := by omega
     obtain ⟨E, rfl⟩ : ∃ E : Nat, P = (E : Int) - 1075 := ⟨(P + 1075).toNat, by omega⟩
     have HX := Lib.hid (show V = some (E * 2 ^ 52 + M - 2 ^ 52) by rw [HU.out, if_neg hP]; unfold bitsC; rw [if_neg hM, show ((E : Int) - 1075 + 1075).toNat = E by omega])
     have hw0 : IntKind.i64.wrap (E : Int) = (E : Int) := by rw [IntKind.wrap_i64]; omega
     have hw1 : IntKind.i64.wrap ((E : Int) - 1075 + 1075) = (E : Int) := by rw [IntKind.wrap_i64]; omega
     have hw2 : IntKind.u64.wrap (E : Int) = (E : Int) := by rw [IntKind.wrap_u64]; omega
     obtain ⟨B, hB⟩ : ∃ B, B = E * 2 ^ 52 := ⟨_, rfl⟩
     have hw3 : IntKind.u64.wrap ((E : Int) * 4503599627370496) = (B : Int) := by rw [IntKind.wrap_u64]; omega
     rw [← hB] at HX
     have hw4 : IntKind.u64.wrap ((B : Int) + (M : Int)) = (B : Int) + (M : Int) := by rw [IntKind.wrap_u64]; omega
     obtain ⟨Z, hZ⟩ : ∃ Z, Z = B + M - 2 ^ 52 := ⟨_, rfl⟩
     have hw5 : IntKind.u64.wrap ((B : Int) + (M : Int) - 4503599627370496) = (Z : Int) := by rw [IntKind.wrap_u64]; omega
     rw [← hZ] at HX
     have c4 : decide (971 < (E : Int) - 1075) = false := decide_eq_false (by omega)
     clear HU hc hM hP hB hZ h2 h3 h4 c3
     go_wp2
     go_ret2
     exact ⟨by rw [HX.out]; rfl, rfl⟩
theorem bstr_is15 (l k : List UInt8) : ((bstr l).toList == k) = decide (l = k) := by
 rw [bstr_toList, Bool.eq_iff_iff, beq_iff_eq, decide_eq_true_iff]
def fourC : List Nat := [0, 9223372036854775808, 9218868437227405312, 18442240474082181120]
theorem text_zero : textC 0 = [48] := by decide +kernel
theorem text_mzero : textC 9223372036854775808 = [45, 48] := by decide +kernel
theorem text_inf : textC 9218868437227405312 = [105, 110, 102] := by decide +kernel
theorem text_minf : textC 18442240474082181120 = [45, 105, 110, 102] := by decide +kernel
theorem four_ok (j : Nat) (h : j < 4) : fourC.getD j 0 < 2 ^ 64 ∧ nanC (fourC.getD j 0) = false := by
 have : j = 0 ∨ j = 1 ∨ j = 2 ∨ j = 3 := by omega
 rcases this with rfl | rfl | rfl | rfl <;> exact ⟨by decide, by decide +kernel⟩
theorem parse_four (s : List UInt8) (j : Nat) (h : j < 4) (e : s = textC (fourC.getD j 0)) : parseC s = some (fourC.getD j 0) :=
 (parseC_iff s _).2 ⟨(four_ok j h).1, (four_ok j h).2, e.symm⟩
theorem parse_pos (s : List UInt8) (h4 : ∀ j, j < 4 → s ≠ textC (fourC.getD j 0)) (h : s.getD 0 0 ≠ 45) : parseC s = magP s := by
 have e : parseC s = bodyP s := by
  cases s with
  | nil => rfl
  | cons c r => exact parseC_other c r h
 rw [e]
 unfold bodyP
 rw [if_neg (fun e => h4 0 (by omega) (by rw [e]; exact text_zero.symm)), if_neg (fun e => h4 2 (by omega) (by rw [e]; exact text_inf.symm))]
theorem parse_neg (r : List UInt8) (h4 : ∀ j, j < 4 → (45 : UInt8) :: r ≠ textC (fourC.getD j 0)) : parseC (45 :: r) = (magP r).map (2 ^ 63 + ·) := by
 show (bodyP r).map (2 ^ 63 + ·) = _
 unfold bodyP
 rw [if_neg (fun e => h4 1 (by omega) (by rw [e]; exact text_mzero.symm)), if_neg (fun e => h4 3 (by omega) (by rw [e]; exact text_minf.symm))]
theorem parse_neg' (s r : List UInt8) (e : s = 45 :: r) (h4 : ∀ j, j < 4 → s ≠ textC (fourC.getD j 0)) : parseC s = (magP r).map (2 ^ 63 + ·) := by
 subst e; exact parse_neg r h4
theorem tail_bstr' (x : UInt8) (r : List UInt8) (n : Nat) (h : n = r.length + 1) : (bstr (x :: r)).extract 1 n = bstr r := by
 subst h
 rw [extract_bstr12, List.drop_succ_cons, List.drop_zero, Nat.add_sub_cancel, List.take_length]
theorem cutP_hit (R : List UInt8) (k : Nat) (hk : k < R.length) (h : R.getD k 0 = 112) (hno : ∀ j, j < k → R.getD j 0 ≠ 112) : cutP R = some (R.take k, R.drop (k + 1)) := by
 have e : R = R.take k ++ 112 :: R.drop (k + 1) := by
  have hg : R[k] = 112 := by rw [List.getD_eq_getElem?_getD, List.getElem?_eq_getElem hk] at h; exact h
  conv => lhs; rw [← List.take_append_drop k R, List.drop_eq_getElem_cons hk, hg]
 conv => lhs; rw [e]
 refine cutP_at _ _ fun hm => ?_
 obtain ⟨j, hj⟩ := List.getElem?_of_mem hm
 have hjk : j < k := by have := (List.getElem?_eq_some_iff.1 hj).1; rw [List.length_take] at this; omega
 refine hno j hjk ?_
 rw [List.getElem?_take, if_pos hjk] at hj
 rw [List.getD_eq_getElem?_getD, hj]; rfl
theorem cutP_miss (R : List UInt8) (hno : ∀ j, j < R.length → R.getD j 0 ≠ 112) : cutP R = none := by
 cases h : cutP R with
 | none => rfl
 | some x =>
  obtain ⟨t, u⟩ := x
  have e := cutP_some R t u h
  have hl : t.length < R.length := by rw [e, List.length_append, List.length_cons]; omega
  refine absurd ?_ (hno t.length hl)
  conv => lhs; rw [e]
  rw [List.getD_eq_getElem?_getD, List.getElem?_append_right (Nat.le_refl _), Nat.sub_self]; rfl
theorem magP_cut (R t u : List UInt8) (h : cutP R = some (t, u)) : magP R = match valueL 10 16 t, parseI u with
  | some m, some p => ofC m p
  | _, _ => none := by unfold magP; rw [h]; rfl
theorem magP_miss (R : List UInt8) (h : cutP R = none) : magP R = none := by unfold magP; rw [h]
theorem parseI_strip (r : List UInt8) (h : ¬ (r = [] ∨ r = [48])) : parseI (45 :: r) = (valueL 10 4 r).map fun n : Nat => -(n : Int) := by
 unfold parseI
 simp only [if_neg h]
theorem parseI_keep (u : List UInt8) (h : u.getD 0 0 ≠ 45 ∨ u.length ≤ 1 ∨ u = [45, 48]) : parseI u = (valueL 10 4 u).map fun n : Nat => (n : Int) := by
 cases u with
 | nil => rfl
 | cons c r =>
  by_cases hc : c = 45
  ·subst hc
   have hr : r = [] ∨ r = [48] := by
    rcases h with h | h | h
    ·exact absurd rfl h
    ·left; exact List.length_eq_zero_iff.1 (by simpa using h)
    ·right; exact (List.cons.inj h).2
   unfold parseI
   simp only [if_pos hr]
  ·exact parseI_other c r hc
theorem mag_pos (a : Nat) (h : FinC a) : a < 2 ^ 64 ∧ magC a = a ∧ negC a = false := by
 obtain ⟨h1, h2⟩ := h
 refine ⟨by omega, by unfold magC; omega, by unfold negC; exact decide_eq_false (by omega)⟩
theorem mul_one_bits (a : Nat) (h : FinC a) : floatBits .mul .f64 4607182418800017408 a = some a := by
 obtain ⟨h1, h2, h3⟩ := mag_pos a h
 show Ieee.double.mul 4607182418800017408 a = some a
 rw [mul_unit false _ a read_one h1 (by rw [h2]; exact h), h2, h3]; rfl
theorem mul_minus_bits (a : Nat) (h : FinC a) : floatBits .mul .f64 13830554455654793216 a = some (2 ^ 63 + a) := by
 obtain ⟨h1, h2, h3⟩ := mag_pos a h
 show Ieee.double.mul 13830554455654793216 a = some (2 ^ 63 + a)
 rw [mul_unit true _ a read_minus h1 (by rw [h2]; exact h), h2, h3]; rfl
theorem index_floats (b n c k : Nat) (hk : k < n) (w : World) :
  (Instr.indexAt 108 (.slice (some ⟨b, 0, none⟩) n c) (.int .i64 k)).run Tryz.prog w = .ok (.pointer (some ⟨b, k, none⟩)) w := by
 have h : (k : Int) < (n : Int) := by omega
 go_simp
def joinC (O1 O2 : Option Nat) (g : Nat → Int) : Option Nat :=
 match O1, O2 with
 | some m, some n => ofC m (g n)
 | _, _ => none
theorem join_none1 (O2 : Option Nat) (g : Nat → Int) : joinC none O2 g = none := rfl
theorem join_none2 (O1 : Option Nat) (g : Nat → Int) : joinC O1 none g = none := by cases O1 <;> rfl
theorem join_keep (R t u : List UInt8) (hc : cutP R = some (t, u)) (h : u.getD 0 0 ≠ 45 ∨ u.length ≤ 1 ∨ u = [45, 48]) : magP R = joinC (valueL 10 16 t) (valueL 10 4 u) (fun n => (n : Int)) := by
 rw [magP_cut R t u hc, parseI_keep u h]
 cases valueL 10 16 t <;> cases valueL 10 4 u <;> rfl
theorem join_strip (R t r : List UInt8) (hc : cutP R = some (t, 45 :: r)) (h : ¬ (r = [] ∨ r = [48])) : magP R = joinC (valueL 10 16 t) (valueL 10 4 r) (fun n => -(n : Int)) := by
 rw [magP_cut R t _ hc, parseI_strip r h]
 cases valueL 10 16 t <;> cases valueL 10 4 r <;> rfl
theorem ofC_fin (m : Nat) (p : Int) (a : Nat) (h : ofC m p = some a) : FinC a := ((ofC_iff m p a).1 h).1
theorem four_cell {w : World} {g : Nat} {t : TypeId} (h : Row w g t [.float .f64 0, .float .f64 9223372036854775808, .float .f64 9218868437227405312, .float .f64 18442240474082181120]) (k : Nat) (hk : k < 4) : w.cell? ⟨g, k, none⟩ = some (.float .f64 (fourC.getD k 0)) := by
 rw [h.cell]
 have : k = 0 ∨ k = 1 ∨ k = 2 ∨ k = 3 := by omega
 rcases this with rfl | rfl | rfl | rfl <;> rfl
end Go.Proofs.YtjieebmcbpdeiaaGreatDoor
