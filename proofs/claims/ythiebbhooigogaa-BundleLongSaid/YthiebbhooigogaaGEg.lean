/- Texts of this claim, one behind the other. -/
import Derived.Test.YthiebbhooigogaaGEl
import Derived.Test.YthiebbhooigogaaTp1
/- LAYER 11: package bundle: token. -/
namespace Go.Proofs.Ythiebbhooigogaa
open Go Go.RowKit

theorem zbun : bunV zeroK none 0 none 0 0 = [Value.int .u64 0, .string { data := #[] }, .slice none 0 0, .bool false, .int .u8 0, .int .u8 0, .int .u8 0, .int .u8 0, .int .u8 0, .int .u8 0, .int .u8 0, .int .u8 0, .int .u8 0, .int .u8 0, .int .u8 0, .int .u8 0, .int .u8 0, .int .u8 0, .int .u8 0, .int .u8 0, .int .u8 0, .int .u8 0, .int .u8 0, .int .u8 0, .int .u8 0, .int .u8 0, .int .u8 0, .int .u8 0, .int .u8 0, .int .u8 0, .int .u8 0, .int .u8 0, .int .u8 0, .int .u8 0, .int .u8 0, .int .u8 0, .slice none 0 0] := by kernel_rfl
def tokK (k : UInt8) (f : Fd) : Tok := if f.1 = k then tkF f else zeroK
def okK (k : UInt8) (f : Fd) : Bool := decide (f.1 = k) && okF f
theorem tokK_ok (k : UInt8) (f : Fd) : (tokK k f).Ok := by unfold tokK; split; exact tkF_ok f; exact zeroK_ok
set_option maxRecDepth 20000 in
set_option maxHeartbeats 2000000 in
theorem btoken_any (k : UInt8) (f : Fd) (hf : f.2.length ≤ 1000000) (w : World) :
    Calls Try.prog 38 #[.int .u8 (k.toNat : Int), .agg #[.int .u8 (f.1.toNat : Int), .string (bstr f.2)]] w fun e w' => ∃ B d, e = .returned (.tuple #[.agg (tokV (tokK k f) B d).toArray, .bool (okK k f)]) ∧ Sl w' B (d * 5) ((tokK k f).cavs.flatMap cavV) ∧ (∀ a, B = some a → w.heap.size ≤ a.block) ∧ Below w.heap.size w w' := by
  obtain ⟨x, T⟩ := f
  have hfT : T.length ≤ 1000000 := hf
  clear hf
  obtain ⟨Z, hZ⟩ : ∃ Z, Z = tokV zeroK none 0 := ⟨_, rfl⟩
  have hzl : Z.length = 36 := by rw [hZ]; exact length_tokV zeroK_ok none 0
  have hzK := Lib.hid (show (Try.prog.info? 27).map (·.size) = some Z.toArray.size by rw [size_tok, List.size_toArray, hzl])
  have h36Z := Lib.hid (show 36 = Z.toArray.size by rw [List.size_toArray, hzl])
  have HZ := Lib.hid hZ
  obtain ⟨r0, r1, hb1, _⟩ := two_rows (w := w) (A := [Value.int .u8 (x.toNat : Int), .string (bstr T)]) (B := [Value.int .u64 0, .string { data := #[] }, .slice none 0 0, .bool false, .int .u8 0, .int .u8 0, .int .u8 0, .int .u8 0, .int .u8 0, .int .u8 0, .int .u8 0, .int .u8 0, .int .u8 0, .int .u8 0, .int .u8 0, .int .u8 0, .int .u8 0, .int .u8 0, .int .u8 0, .int .u8 0, .int .u8 0, .int .u8 0, .int .u8 0, .int .u8 0, .int .u8 0, .int .u8 0, .int .u8 0, .int .u8 0, .int .u8 0, .int .u8 0, .int .u8 0, .int .u8 0, .int .u8 0, .int .u8 0, .int .u8 0, .int .u8 0]) (tA := 55) (tB := 27) rfl
  have k0 : ((w.alloc (.cells [Value.int .u8 (x.toNat : Int), .string (bstr T)].toArray 55)).alloc (.cells [Value.int .u64 0, .string { data := #[] }, .slice none 0 0, .bool false, .int .u8 0, .int .u8 0, .int .u8 0, .int .u8 0, .int .u8 0, .int .u8 0, .int .u8 0, .int .u8 0, .int .u8 0, .int .u8 0, .int .u8 0, .int .u8 0, .int .u8 0, .int .u8 0, .int .u8 0, .int .u8 0, .int .u8 0, .int .u8 0, .int .u8 0, .int .u8 0, .int .u8 0, .int .u8 0, .int .u8 0, .int .u8 0, .int .u8 0, .int .u8 0, .int .u8 0, .int .u8 0, .int .u8 0, .int .u8 0, .int .u8 0, .int .u8 0].toArray 27)).cell? ⟨w.heap.size, 0, none⟩ = some (.int .u8 (x.toNat : Int)) := by rw [r0.cell]; rfl
  have k1 : ((w.alloc (.cells [Value.int .u8 (x.toNat : Int), .string (bstr T)].toArray 55)).alloc (.cells [Value.int .u64 0, .string { data := #[] }, .slice none 0 0, .bool false, .int .u8 0, .int .u8 0, .int .u8 0, .int .u8 0, .int .u8 0, .int .u8 0, .int .u8 0, .int .u8 0, .int .u8 0, .int .u8 0, .int .u8 0, .int .u8 0, .int .u8 0, .int .u8 0, .int .u8 0, .int .u8 0, .int .u8 0, .int .u8 0, .int .u8 0, .int .u8 0, .int .u8 0, .int .u8 0, .int .u8 0, .int .u8 0, .int .u8 0, .int .u8 0, .int .u8 0, .int .u8 0, .int .u8 0, .int .u8 0, .int .u8 0, .int .u8 0].toArray 27)).cell? ⟨w.heap.size, 1, none⟩ = some (.string (bstr T)) := by rw [r0.cell]; rfl
  have R1 := Lib.hid (show ((w.alloc (.cells [Value.int .u8 (x.toNat : Int), .string (bstr T)].toArray 55)).alloc (.cells [Value.int .u64 0, .string { data := #[] }, .slice none 0 0, .bool false, .int .u8 0, .int .u8 0, .int .u8 0, .int .u8 0, .int .u8 0, .int .u8 0, .int .u8 0, .int .u8 0, .int .u8 0, .int .u8 0, .int .u8 0, .int .u8 0, .int .u8 0, .int .u8 0, .int .u8 0, .int .u8 0, .int .u8 0, .int .u8 0, .int .u8 0, .int .u8 0, .int .u8 0, .int .u8 0, .int .u8 0, .int .u8 0, .int .u8 0, .int .u8 0, .int .u8 0, .int .u8 0, .int .u8 0, .int .u8 0, .int .u8 0, .int .u8 0].toArray 27)).heap[w.heap.size + 1]? = some (.cells [Value.int .u64 0, .string { data := #[] }, .slice none 0 0, .bool false, .int .u8 0, .int .u8 0, .int .u8 0, .int .u8 0, .int .u8 0, .int .u8 0, .int .u8 0, .int .u8 0, .int .u8 0, .int .u8 0, .int .u8 0, .int .u8 0, .int .u8 0, .int .u8 0, .int .u8 0, .int .u8 0, .int .u8 0, .int .u8 0, .int .u8 0, .int .u8 0, .int .u8 0, .int .u8 0, .int .u8 0, .int .u8 0, .int .u8 0, .int .u8 0, .int .u8 0, .int .u8 0, .int .u8 0, .int .u8 0, .int .u8 0, .int .u8 0].toArray 27 (0, 0)) from r1)
  have rz : Row ((w.alloc (.cells [Value.int .u8 (x.toNat : Int), .string (bstr T)].toArray 55)).alloc (.cells [Value.int .u64 0, .string { data := #[] }, .slice none 0 0, .bool false, .int .u8 0, .int .u8 0, .int .u8 0, .int .u8 0, .int .u8 0, .int .u8 0, .int .u8 0, .int .u8 0, .int .u8 0, .int .u8 0, .int .u8 0, .int .u8 0, .int .u8 0, .int .u8 0, .int .u8 0, .int .u8 0, .int .u8 0, .int .u8 0, .int .u8 0, .int .u8 0, .int .u8 0, .int .u8 0, .int .u8 0, .int .u8 0, .int .u8 0, .int .u8 0, .int .u8 0, .int .u8 0, .int .u8 0, .int .u8 0, .int .u8 0, .int .u8 0].toArray 27)) (w.heap.size + 1) 27 Z := by rw [hZ, ztok]; exact r1
  clear r0 hzl
  by_cases hx : x = k
  · have HO := Lib.hid (show okK k (x, T) = (decT T).isSome by show (decide (x = k) && okF (x, T)) = _; rw [decide_eq_true hx]; rfl)
    have HT := Lib.hid (show tokK k (x, T) = (decT T).getD zeroK from if_pos hx)
    subst hx
    rw [HO.out, HT.out]
    have hdec := Lib.hid (fun A n c w1 h hn => pdec_fresh A n c T w1 h hn hfT)
    have hoD : ((decT T).getD zeroK).Ok := tkF_ok (x, T)
    generalize (decT T).getD zeroK = u at *
    obtain ⟨er, her⟩ : ∃ er : Int, er = if (decT T).isSome then 0 else 2 := ⟨_, rfl⟩
    rw [← her] at hdec
    have hee : (er == 0) = (decT T).isSome := by rw [her]; cases (decT T).isSome <;> rfl
    generalize (decT T).isSome = R at *
    clear her
    have hxb := byte_bd x
    generalize (x.toNat : Int) = xv at *
    go_enter Try.func38, Try.ntmps38
    go_wp2_with (first
      | (refine wpList_conv_string rfl (.tmp 15) rfl T rfl ?_; intro A6 c6 w6 hsl6 hb6; have rz := rz.later hb6 rz.lt; have hbw6 := hb1.trans (hb6.mono hb1.size))
      | (go_at_call 56; refine (hdec.out _ _ _ _ hsl6 rfl).mono ?_; rintro e w7 ⟨B7, d7, rfl, hsl7, hfr7, hb7⟩; have rz := rz.later hb7 rz.lt; have hbw7 := hbw6.trans (hb7.mono hbw6.size); have hlV := length_tokV hoD B7 d7; have hone := all_one (tokV_one u B7 d7); obtain ⟨V, hV⟩ : ∃ V, V = tokV u B7 d7 := ⟨_, rfl⟩; rw [← hV] at hlV hone ⊢; have HV := Lib.hid hV; have hzV := Lib.hid (show (Try.prog.info? 27).map (·.size) = some V.toArray.size by rw [size_tok, List.size_toArray, hlV]); have h36 := Lib.hid (show 36 = V.toArray.size by rw [List.size_toArray, hlV]); have honeV := Lib.hid hone; clear hV hlV hone hb7)
      | (with_reducible refine wpList_store_row rfl 27 (.tmp 6) (.tmp 18) rfl w7.heap.size V.toArray rfl rfl 27 _ (heap_alloc_new w7 _) hzV.out (Eq.trans (by kernel_rfl) h36.out) honeV.out ?_; refine Hid.out ?_))
    refine Lib.hid ?_
    generalize hw8 : World.setRow _ _ _ = w8
    obtain ⟨r8, hb8⟩ := row_new_set (xs := V) hw8
    have rz := rz.later hb8 rz.lt
    have hbw8 := hbw7.trans (hb8.mono hbw7.size)
    have hsl8 := hsl7.later (Nat.le_refl _) hb8
    have R8 := Lib.hid (show w8.heap[w7.heap.size]? = some (.cells V.toArray 27 (0, 0)) from r8)
    have RZ := Lib.hid (show w8.heap[w.heap.size + 1]? = some (.cells Z.toArray 27 (0, 0)) from rz)
    have hfr : ∀ a, B7 = some a → w.heap.size + 2 ≤ a.block := fun a ha => by
      have h1 := hfr7 a ha
      have h2 := hb6.size
      have h3 : ((w.alloc (.cells [Value.int .u8 xv, .string (bstr T)].toArray 55)).alloc (.cells [Value.int .u64 0, .string { data := #[] }, .slice none 0 0, .bool false, .int .u8 0, .int .u8 0, .int .u8 0, .int .u8 0, .int .u8 0, .int .u8 0, .int .u8 0, .int .u8 0, .int .u8 0, .int .u8 0, .int .u8 0, .int .u8 0, .int .u8 0, .int .u8 0, .int .u8 0, .int .u8 0, .int .u8 0, .int .u8 0, .int .u8 0, .int .u8 0, .int .u8 0, .int .u8 0, .int .u8 0, .int .u8 0, .int .u8 0, .int .u8 0, .int .u8 0, .int .u8 0, .int .u8 0, .int .u8 0, .int .u8 0, .int .u8 0].toArray 27)).heap.size = w.heap.size + 2 := by rw [World.size_alloc, World.size_alloc]
      omega
    clear hw8 r8 hb8 hb6 hb1 r1 R1 rz k0 k1 hfr7 hsl7
    go_wp2_with (first
      | (with_reducible refine wpList_load_row rfl 27 (.tmp 6) rfl w7.heap.size rfl 27 V.toArray (0, 0) _ R8.out Try.underlying27 rfl hzV.out ?_)
      | (with_reducible refine wpList_store_row rfl 27 (.tmp 4) (.tmp 20) rfl (w.heap.size + 1) V.toArray rfl rfl 27 Z.toArray RZ.out hzV.out (Eq.trans h36Z.out.symm h36.out) honeV.out ?_; refine Hid.out ?_))
    refine Lib.hid ?_
    generalize hw9 : World.setRow _ _ _ = w9
    obtain ⟨r9, hg9⟩ := row_set (xs := V) (old := Z) RZ.out hw9
    have R9 := Lib.hid (show w9.heap[w.heap.size + 1]? = some (.cells V.toArray 27 (0, 0)) from r9)
    have hb9 := hbw8.grown hg9 hbw8.size (fun k h => by cases h; exact Nat.le_succ _)
    have hsl9 := hsl8.apart hg9 (fun _ a ha => by have := hfr a ha; omega)
    clear hw9 r9 hg9
    go_wp2_with fail
    exact ⟨rfl, _, results_row_tmp rfl _ _ (w.heap.size + 1) 27 V.toArray (0, 0) _ rfl R9.out Try.underlying27 rfl hzV.out _ rfl, B7, d7, by rw [← HV.out]; rfl, hsl9, (fun a ha => by have := hfr a ha; omega), hb9⟩
  · have HO := Lib.hid (show okK k (x, T) = false by show (decide (x = k) && okF (x, T)) = _; rw [decide_eq_false hx]; rfl)
    have HT := Lib.hid (show tokK k (x, T) = zeroK from if_neg hx)
    rw [HO.out, HT.out]
    have hne : ((x.toNat : Int) != (k.toNat : Int)) = true := by
      rw [bne_iff_ne]
      exact fun h => hx (UInt8.toNat_inj.1 (by omega))
    have hxb := byte_bd x
    have hkb := byte_bd k
    clear hx
    generalize (x.toNat : Int) = xv at *
    generalize (k.toNat : Int) = kv at *
    go_enter Try.func38, Try.ntmps38
    go_wp2_with (with_reducible refine wpList_store_row rfl 27 (.tmp 4) (.tmp 12) rfl (w.heap.size + 1) _ rfl rfl 27 _ R1.out (by kernel_rfl) (by kernel_rfl) (by kernel_rfl) ?_; refine Hid.out ?_)
    refine Lib.hid ?_
    generalize hw9 : World.setRow _ _ _ = w9
    obtain ⟨r9, hg9⟩ := row_set (xs := [Value.int .u64 0, .string { data := #[] }, .slice none 0 0, .bool false, .int .u8 0, .int .u8 0, .int .u8 0, .int .u8 0, .int .u8 0, .int .u8 0, .int .u8 0, .int .u8 0, .int .u8 0, .int .u8 0, .int .u8 0, .int .u8 0, .int .u8 0, .int .u8 0, .int .u8 0, .int .u8 0, .int .u8 0, .int .u8 0, .int .u8 0, .int .u8 0, .int .u8 0, .int .u8 0, .int .u8 0, .int .u8 0, .int .u8 0, .int .u8 0, .int .u8 0, .int .u8 0, .int .u8 0, .int .u8 0, .int .u8 0, .int .u8 0]) (old := [Value.int .u64 0, .string { data := #[] }, .slice none 0 0, .bool false, .int .u8 0, .int .u8 0, .int .u8 0, .int .u8 0, .int .u8 0, .int .u8 0, .int .u8 0, .int .u8 0, .int .u8 0, .int .u8 0, .int .u8 0, .int .u8 0, .int .u8 0, .int .u8 0, .int .u8 0, .int .u8 0, .int .u8 0, .int .u8 0, .int .u8 0, .int .u8 0, .int .u8 0, .int .u8 0, .int .u8 0, .int .u8 0, .int .u8 0, .int .u8 0, .int .u8 0, .int .u8 0, .int .u8 0, .int .u8 0, .int .u8 0, .int .u8 0]) r1 hw9
    rw [← ztok, ← HZ.out] at r9
    have R9 := Lib.hid (show w9.heap[w.heap.size + 1]? = some (.cells Z.toArray 27 (0, 0)) from r9)
    have hb9 := hb1.grown hg9 hb1.size (fun k h => by cases h; exact Nat.le_succ _)
    clear hw9 r9 hg9
    go_wp2_with fail
    exact ⟨rfl, _, results_row_tmp rfl _ _ (w.heap.size + 1) 27 Z.toArray (0, 0) _ rfl R9.out Try.underlying27 rfl hzK.out _ rfl, none, 0, by rw [HZ.out]; rfl, ⟨.inl rfl, Nat.le_refl _, fun _ => rfl⟩, (fun a h => by cases h), hb9⟩
end Go.Proofs.Ythiebbhooigogaa

/- LAYER 11: package bundle: read. -/
namespace Go.Proofs.Ythiebbhooigogaa
open Go Go.RowKit

def okL (l : List UInt8) : Bool := match allF l with | none => false | some fs => kindsB fs && fs.all okF
def bunL (l : List UInt8) : Bun := if okL l then readB (allD l) else zeroB
theorem bunL_false {l : List UInt8} (h : okL l = false) : bunL l = zeroB := by unfold bunL; rw [h]; rfl
theorem okL_cons {l : List UInt8} {f : Fd} {fs : List Fd} (h : allF l = some (f :: fs)) : okL l = (okK 16 f && fs.all (okK 17)) := by
  unfold okL
  rw [h]
  show (decide (f.1 = 16) && fs.all (fun g => decide (g.1 = 17)) && (okF f && fs.all okF)) = (decide (f.1 = 16) && okF f && fs.all (okK 17))
  have e : ∀ fs : List Fd, fs.all (okK 17) = (fs.all (fun g => decide (g.1 = 17)) && fs.all okF) := by
    intro fs
    induction fs with
    | nil => rfl
    | cons g gs ih =>
      rw [List.all_cons, List.all_cons, List.all_cons, ih]
      unfold okK
      cases decide (g.1 = 17) <;> cases okF g <;> simp
  rw [e]
  cases decide (f.1 = 16) <;> cases okF f <;> cases fs.all (fun g => decide (g.1 = 17)) <;> cases fs.all okF <;> rfl
theorem okK_parts {k : UInt8} {f : Fd} (h : okK k f = true) : tokK k f = tkF f := by
  unfold okK at h
  rw [Bool.and_eq_true, decide_eq_true_eq] at h
  exact if_pos h.1
theorem map_okK : ∀ fs : List Fd, fs.all (okK 17) = true → fs.map (tokK 17) = fs.map tkF
  | [], _ => rfl
  | f :: fs, h => by
    rw [List.all_cons, Bool.and_eq_true] at h
    rw [List.map_cons, List.map_cons, okK_parts h.1, map_okK fs h.2]
theorem bunL_true {l : List UInt8} {f : Fd} {fs : List Fd} (h : allF l = some (f :: fs)) (h1 : okK 16 f = true) (h2 : fs.all (okK 17) = true) : okL l = true ∧ bunL l = ⟨tokK 16 f, fs.map (tokK 17)⟩ := by
  have h3 : okL l = true := by rw [okL_cons h, h1, h2]; rfl
  refine ⟨h3, ?_⟩
  unfold bunL allD
  rw [h3, h, if_pos rfl, okK_parts h1, map_okK fs h2]; rfl
theorem bunOk_map (t : Tok) (ht : t.Ok) (fs : List Fd) (k : UInt8) : Bun.Ok ⟨t, fs.map (tokK k)⟩ := ⟨ht, fun d hd => by obtain ⟨g, _, rfl⟩ := List.mem_map.1 hd; exact tokK_ok k g⟩
set_option maxRecDepth 20000 in
set_option maxHeartbeats 4000000 in
theorem bread_any (A : Option Addr) (n c : Nat) (l : List UInt8) (w : World) (hs : Sl w A c (byts l)) (hn : n = l.length) (hm : l.length ≤ 1000000) :
    Calls Try.prog 22 #[.slice A n c] w fun e w' => ∃ v, e = .returned (.tuple #[v, .bool (okL l)]) ∧ BunV (w.heap.size + 1) (bunL l) w' v ∧ Below w.heap.size w w' := by
  subst hn
  obtain ⟨i0, hi, hz0, hz1, hz2⟩ := info_tok
  obtain ⟨Z, hZ⟩ : ∃ Z, Z = bunV zeroK none 0 none 0 0 := ⟨_, rfl⟩
  have hzl : Z.length = 37 := by rw [hZ]; exact length_bunV zeroK_ok none 0 none 0 0
  have hzK := Lib.hid (show (Try.prog.info? 30).map (·.size) = some Z.toArray.size by rw [size_bun, List.size_toArray, hzl])
  have h37Z := Lib.hid (show 37 = Z.toArray.size by rw [List.size_toArray, hzl])
  have HZ := Lib.hid hZ
  have hb1 := (Below.refl w.heap.size w).alloc (Nat.le_refl _) (.cells [Value.int .u64 0, .string { data := #[] }, .slice none 0 0, .bool false, .int .u8 0, .int .u8 0, .int .u8 0, .int .u8 0, .int .u8 0, .int .u8 0, .int .u8 0, .int .u8 0, .int .u8 0, .int .u8 0, .int .u8 0, .int .u8 0, .int .u8 0, .int .u8 0, .int .u8 0, .int .u8 0, .int .u8 0, .int .u8 0, .int .u8 0, .int .u8 0, .int .u8 0, .int .u8 0, .int .u8 0, .int .u8 0, .int .u8 0, .int .u8 0, .int .u8 0, .int .u8 0, .int .u8 0, .int .u8 0, .int .u8 0, .int .u8 0, .slice none 0 0].toArray 30)
  have rz : Row (w.alloc (.cells [Value.int .u64 0, .string { data := #[] }, .slice none 0 0, .bool false, .int .u8 0, .int .u8 0, .int .u8 0, .int .u8 0, .int .u8 0, .int .u8 0, .int .u8 0, .int .u8 0, .int .u8 0, .int .u8 0, .int .u8 0, .int .u8 0, .int .u8 0, .int .u8 0, .int .u8 0, .int .u8 0, .int .u8 0, .int .u8 0, .int .u8 0, .int .u8 0, .int .u8 0, .int .u8 0, .int .u8 0, .int .u8 0, .int .u8 0, .int .u8 0, .int .u8 0, .int .u8 0, .int .u8 0, .int .u8 0, .int .u8 0, .int .u8 0, .slice none 0 0].toArray 30)) w.heap.size 30 Z := by rw [hZ, zbun]; exact Row.new w 30 _
  have hs1 := hs.later (Nat.le_refl _) hb1
  have hall := Lib.hid (fun w1 h => fall_any A l.length c l w1 h rfl hm)
  clear hZ hzl hs
  cases hA : allF l with
  | none =>
    have HO := Lib.hid (show okL l = false by unfold okL; rw [hA])
    rw [hA, show allD l = [] by unfold allD; rw [hA]; rfl] at hall
    clear hA hm
    go_enter Try.func22, Try.ntmps22
    go_wp2_with (first
        | (go_at_call 37; refine (hall.out _ hs1).mono ?_; rintro e w2 ⟨A2, c2, rfl, hsl2, hb2⟩; have hbw2 := hb1.trans (hb2.mono hb1.size); have RZ := Lib.hid (show w2.heap[w.heap.size]? = some (.cells Z.toArray 30 (0, 0)) from rz.later hb2 rz.lt))
        | (with_reducible refine wpList_store_row rfl 30 (.tmp 2) (.tmp 24) rfl w.heap.size _ rfl rfl 30 Z.toArray RZ.out (by kernel_rfl) (Eq.trans h37Z.out.symm (by kernel_rfl)) (by kernel_rfl) ?_; refine Hid.out ?_))
    refine Lib.hid ?_
    generalize hw9 : World.setRow _ _ _ = w9
    obtain ⟨r9, hg9⟩ := row_set (xs := [Value.int .u64 0, .string { data := #[] }, .slice none 0 0, .bool false, .int .u8 0, .int .u8 0, .int .u8 0, .int .u8 0, .int .u8 0, .int .u8 0, .int .u8 0, .int .u8 0, .int .u8 0, .int .u8 0, .int .u8 0, .int .u8 0, .int .u8 0, .int .u8 0, .int .u8 0, .int .u8 0, .int .u8 0, .int .u8 0, .int .u8 0, .int .u8 0, .int .u8 0, .int .u8 0, .int .u8 0, .int .u8 0, .int .u8 0, .int .u8 0, .int .u8 0, .int .u8 0, .int .u8 0, .int .u8 0, .int .u8 0, .int .u8 0, .slice none 0 0]) (show Row _ w.heap.size 30 Z from RZ.out) hw9
    rw [← zbun, ← HZ.out] at r9
    have R9 := Lib.hid (show w9.heap[w.heap.size]? = some (.cells Z.toArray 30 (0, 0)) from r9)
    have hb9 := hbw2.grown hg9 hbw2.size (fun k h => by cases h; exact Nat.le_refl _)
    clear hw9 r9 hg9
    go_wp2_with fail
    exact ⟨rfl, _, results_row_tmp rfl _ _ w.heap.size 30 Z.toArray (0, 0) _ rfl R9.out Try.underlying30 rfl hzK.out _ rfl, .agg Z.toArray, by rw [HO.out]; rfl, by rw [HZ.out, bunL_false HO.out]; exact BunV.zero _ _, hb9⟩
  | some fs =>
  rw [hA, show allD l = fs by unfold allD; rw [hA]; rfl] at hall
  cases fs with
  | nil =>
    have HO := Lib.hid (show okL l = false by unfold okL; rw [hA]; rfl)
    clear hA hm
    go_enter Try.func22, Try.ntmps22
    go_wp2_with (first
        | (go_at_call 37; refine (hall.out _ hs1).mono ?_; rintro e w2 ⟨A2, c2, rfl, hsl2, hb2⟩; have hbw2 := hb1.trans (hb2.mono hb1.size); have RZ := Lib.hid (show w2.heap[w.heap.size]? = some (.cells Z.toArray 30 (0, 0)) from rz.later hb2 rz.lt))
        | (with_reducible refine wpList_store_row rfl 30 (.tmp 2) (.tmp 24) rfl w.heap.size _ rfl rfl 30 Z.toArray RZ.out (by kernel_rfl) (Eq.trans h37Z.out.symm (by kernel_rfl)) (by kernel_rfl) ?_; refine Hid.out ?_))
    refine Lib.hid ?_
    generalize hw9 : World.setRow _ _ _ = w9
    obtain ⟨r9, hg9⟩ := row_set (xs := [Value.int .u64 0, .string { data := #[] }, .slice none 0 0, .bool false, .int .u8 0, .int .u8 0, .int .u8 0, .int .u8 0, .int .u8 0, .int .u8 0, .int .u8 0, .int .u8 0, .int .u8 0, .int .u8 0, .int .u8 0, .int .u8 0, .int .u8 0, .int .u8 0, .int .u8 0, .int .u8 0, .int .u8 0, .int .u8 0, .int .u8 0, .int .u8 0, .int .u8 0, .int .u8 0, .int .u8 0, .int .u8 0, .int .u8 0, .int .u8 0, .int .u8 0, .int .u8 0, .int .u8 0, .int .u8 0, .int .u8 0, .int .u8 0, .slice none 0 0]) (show Row _ w.heap.size 30 Z from RZ.out) hw9
    rw [← zbun, ← HZ.out] at r9
    have R9 := Lib.hid (show w9.heap[w.heap.size]? = some (.cells Z.toArray 30 (0, 0)) from r9)
    have hb9 := hbw2.grown hg9 hbw2.size (fun k h => by cases h; exact Nat.le_refl _)
    clear hw9 r9 hg9
    go_wp2_with fail
    exact ⟨rfl, _, results_row_tmp rfl _ _ w.heap.size 30 Z.toArray (0, 0) _ rfl R9.out Try.underlying30 rfl hzK.out _ rfl, .agg Z.toArray, by rw [HO.out]; rfl, by rw [HZ.out, bunL_false HO.out]; exact BunV.zero _ _, hb9⟩
  | cons f fs =>
  have hfl : ∀ g ∈ f :: fs, g.2.length ≤ 1000000 := fun g hg => by have := (allF_back l _ hA).2 g hg; omega
  have hjl : (f :: fs).length * 2 ≤ l.length := by
    have h1 := joinL_len (f :: fs)
    rw [(allF_back l _ hA).1] at h1; exact h1
  have hcl : fs.length ≤ 1000000 := by rw [List.length_cons] at hjl; omega
  have HOc := Lib.hid (okL_cons hA)
  have HBt := Lib.hid (fun h1 h2 => bunL_true hA h1 h2)
  have huk4 := tokK_ok 16 f
  have htk := Lib.hid (show ∀ w', Calls Try.prog 38 #[.int .u8 16, .agg (fdV f).toArray] w' _ from fun w' => btoken_any 16 f (hfl f List.mem_cons_self) w')
  obtain ⟨VF, hVF⟩ : ∃ V, V = fdV f := ⟨_, rfl⟩
  have hzF := Lib.hid (show (Try.prog.info? 55).map (·.size) = some VF.length by rw [hVF]; exact size_ff)
  obtain ⟨u4, hu4⟩ : ∃ u, u = tokK 16 f := ⟨_, rfl⟩
  obtain ⟨R4, hR4⟩ : ∃ R, R = okK 16 f := ⟨_, rfl⟩
  rw [← hVF, ← hu4, ← hR4] at htk
  rw [← hu4] at huk4 HBt
  rw [← hR4] at HOc HBt
  have HVF := Lib.hid hVF
  clear hA hm hjl hu4 hR4 hVF
  go_enter Try.func22, Try.ntmps22
  go_wp2_with (first
      | (go_at_call 37; refine (hall.out _ hs1).mono ?_; rintro e w2 ⟨A2, c2, rfl, hsl2, hb2⟩; have hbw2 := hb1.trans (hb2.mono hb1.size); have rz := rz.later hb2 rz.lt; obtain ⟨b2, o2, A3, rfl, hslc, hsl3, hA3, hlt2⟩ := cut_fd A2 c2 f fs w2 hsl2; have HSZ2 := Lib.hid (show w.heap.size + 1 ≤ w2.heap.size by have := hb2.size; rw [World.size_alloc] at this; exact this); have hix0 : ∀ w, (Instr.indexAt 57 (.slice (some ⟨b2, o2, none⟩) (fs.length + 1) c2) (.int .i64 0)).run Try.prog w = .ok (.pointer (some ⟨b2, o2, none⟩)) w := (fun w => index_ff (some ⟨b2, o2, none⟩) b2 o2 (fs.length + 1) c2 0 rfl (by omega) w); have hrg0 : w2.rangeAt b2 o2 VF := (by rw [HVF.out]; exact hsl2.thing (k := 2) (fun _ _ => rfl) 0 f rfl); clear hb2 hsl2)
      | (with_reducible refine wpList_load_mid rfl 55 (.tmp 27) rfl b2 o2 rfl VF _ hrg0 Try.underlying55 rfl hzF.out ?_)
      | (go_at_call 38; refine (htk.out _).mono ?_; rintro e w4 ⟨B4, d4, rfl, hsl4, hfr4, hb4⟩; have hlV4 := length_tokV huk4 B4 d4; have hon4 := tokV_one u4 B4 d4; obtain ⟨V4, hV4⟩ : ∃ V, V = tokV u4 B4 d4 := ⟨_, rfl⟩; rw [← hV4] at hlV4 hon4 ⊢; have HV4 := Lib.hid hV4; have HlV4 := Lib.hid hlV4; have hzV4 := Lib.hid (show (Try.prog.info? 27).map (·.size) = some V4.toArray.size by rw [size_tok, List.size_toArray, hlV4]); have h36V4 := Lib.hid (show 36 = V4.toArray.size by rw [List.size_toArray, hlV4]); have honl4 := Lib.hid hon4; have honeV4 := Lib.hid (all_one hon4); clear hV4 hlV4 hon4)
      | (with_reducible refine wpList_store_row rfl 27 (.tmp 6) (.tmp 30) rfl w4.heap.size V4.toArray rfl rfl 27 _ (heap_alloc_new w4 _) hzV4.out (Eq.trans (by kernel_rfl) h36V4.out) honeV4.out ?_; refine Hid.out ?_))
  refine Lib.hid ?_
  generalize hw5 : World.setRow _ _ _ = w5
  obtain ⟨r5, hb5⟩ := row_new_set (xs := V4) hw5
  have hbw4 := hbw2.trans (hb4.mono hbw2.size)
  have hbw5 := hbw4.trans (hb5.mono hbw4.size)
  have rz := (rz.later hb4 rz.lt).later hb5 (rz.later hb4 rz.lt).lt
  have RZ := Lib.hid (show w5.heap[w.heap.size]? = some (.cells Z.toArray 30 (0, 0)) from rz)
  have R5 := Lib.hid (show w5.heap[w4.heap.size]? = some (.cells V4.toArray 27 (0, 0)) from r5)
  have hsl4 := hsl4.later (Nat.le_refl _) hb5
  have hsl3 := (hsl3.later (Nat.le_refl _) hb4).later (Nat.le_refl _) hb5
  have HF4 := Lib.hid (show ∀ a, B4 = some a → w.heap.size + 1 ≤ a.block from fun a ha => Nat.le_trans HSZ2.out (hfr4 a ha))
  have HL2 := Lib.hid (show b2 < w5.heap.size from Nat.lt_of_lt_of_le (Nat.lt_of_lt_of_le hlt2 hb4.size) hb5.size)
  clear hw5 r5 hb5 hb4 hbw4 hbw2 hfr4 hlt2 hrg0 hix0 hb1 hs1 hall htk rz
  cases R4 with
  | false =>
    have HO := Lib.hid (show okL l = false by rw [HOc.out]; rfl)
    clear hslc hsl3 HBt
    go_wp2_with (first
        | (with_reducible refine wpList_store_row rfl 30 (.tmp 2) (.tmp 34) rfl w.heap.size _ rfl rfl 30 Z.toArray RZ.out (by kernel_rfl) (Eq.trans h37Z.out.symm (by kernel_rfl)) (by kernel_rfl) ?_; refine Hid.out ?_))
    refine Lib.hid ?_
    generalize hw9 : World.setRow _ _ _ = w9
    obtain ⟨r9, hg9⟩ := row_set (xs := [Value.int .u64 0, .string { data := #[] }, .slice none 0 0, .bool false, .int .u8 0, .int .u8 0, .int .u8 0, .int .u8 0, .int .u8 0, .int .u8 0, .int .u8 0, .int .u8 0, .int .u8 0, .int .u8 0, .int .u8 0, .int .u8 0, .int .u8 0, .int .u8 0, .int .u8 0, .int .u8 0, .int .u8 0, .int .u8 0, .int .u8 0, .int .u8 0, .int .u8 0, .int .u8 0, .int .u8 0, .int .u8 0, .int .u8 0, .int .u8 0, .int .u8 0, .int .u8 0, .int .u8 0, .int .u8 0, .int .u8 0, .int .u8 0, .slice none 0 0]) (show Row _ w.heap.size 30 Z from RZ.out) hw9
    rw [← zbun, ← HZ.out] at r9
    have R9 := Lib.hid (show w9.heap[w.heap.size]? = some (.cells Z.toArray 30 (0, 0)) from r9)
    have hb9 := hbw5.grown hg9 hbw5.size (fun k h => by cases h; exact Nat.le_refl _)
    clear hw9 r9 hg9
    go_wp2_with fail
    exact ⟨rfl, _, results_row_tmp rfl _ _ w.heap.size 30 Z.toArray (0, 0) _ rfl R9.out Try.underlying30 rfl hzK.out _ rfl, .agg Z.toArray, by rw [HO.out]; rfl, by rw [HZ.out, bunL_false HO.out]; exact BunV.zero _ _, hb9⟩
  | true =>
    have hbuild := Lib.hid (build_bun V4 HlV4.out)
    obtain ⟨V7, hV7⟩ : ∃ V, V = V4 ++ [Value.slice none 0 0] := ⟨_, rfl⟩
    have hl7 : V7.length = 37 := by rw [hV7, List.length_append, HlV4.out]; rfl
    have ho7 : ∀ v ∈ V7, v.oneCell' = true := fun v hv => by
      rw [hV7] at hv
      rcases List.mem_append.1 hv with h | h
      · exact honl4.out v h
      · rw [List.mem_singleton.1 h]; rfl
    rw [← hV7] at hbuild
    have HV7 := Lib.hid (show V7 = bunV u4 B4 d4 none 0 0 by rw [hV7, HV4.out]; rfl)
    have hz7 := Lib.hid (show (Try.prog.info? 30).map (·.size) = some V7.toArray.size by rw [size_bun, List.size_toArray, hl7])
    have h37 := Lib.hid (show 37 = V7.toArray.size by rw [List.size_toArray, hl7])
    have hone7 := Lib.hid (all_one ho7)
    clear hV7 hl7 ho7
    go_wp2_with (first
        | (with_reducible refine wpList_load_row rfl 27 (.tmp 6) rfl w4.heap.size rfl 27 V4.toArray (0, 0) _ R5.out Try.underlying27 rfl hzV4.out ?_)
        | (refine wpList_build1 rfl 30 0 (.tmp 35) rfl (.agg V4.toArray) _ rfl (hbuild.out _) ?_)
        | (with_reducible refine wpList_store_row rfl 30 (.tmp 7) (.tmp 36) rfl w5.heap.size V7.toArray rfl rfl 30 _ (heap_alloc_new w5 _) hz7.out (Eq.trans (by kernel_rfl) h37.out) hone7.out ?_; refine Hid.out ?_))
    refine Lib.hid ?_
    generalize hw6 : World.setRow _ _ _ = w6
    obtain ⟨r6, hb6⟩ := row_new_set (xs := V7) hw6
    rw [HV7.out] at r6
    have hat0 : BunAt w6 (w.heap.size + 1) w6.heap.size w5.heap.size ⟨u4, []⟩ := BunAt.start r6 (hsl4.later (Nat.le_refl _) hb6) (fun hp a ha => ⟨HF4.out a ha, by have := hsl4.block_lt (by rw [length_cavsV]; omega) ha; omega⟩)
    have hlg := r6.lt
    have hbw6 := hbw5.trans (hb6.mono hbw5.size)
    have hsl3 := hsl3.later (Nat.le_refl _) hb6
    have HG0 : w.heap.size < w5.heap.size := Row.lt (show Row w5 w.heap.size 30 Z from RZ.out)
    have RZ := Lib.hid (show w6.heap[w.heap.size]? = some (.cells Z.toArray 30 (0, 0)) from Row.later (show Row w5 w.heap.size 30 Z from RZ.out) hb6 (Row.lt RZ.out))
    have HG := Lib.hid HG0
    clear hw6 r6 hb6 hbuild hsl4 hbw5
    generalize w5.heap.size = g at *
    have HCL := Lib.hid hcl
    clear rz hcl
    go_wp2_with fail
    go_loopw [40] (fun i wr => ∃ k : Nat, k ≤ fs.length ∧ i = .int .i64 k ∧ (fs.take k).all (okK 17) = true ∧ BunAt wr (w.heap.size + 1) w6.heap.size g ⟨u4, (fs.take k).map (tokK 17)⟩ ∧ w6.grownBy wr (some g)) (fun i _ => fs.length - (intOf i).toNat)
    case atStart => exact ⟨0, by omega, rfl, rfl, hat0, grown_refl _ _⟩
    case round =>
      clear hat0
      obtain ⟨k, hk, rfl, hall, hat, hgr⟩ := hrel
      have hslr := hsl3.apart hgr (fun _ a ha => by have := hA3 a ha; have := HL2.out; omega)
      have hbw : Below w.heap.size w wr := hbw6.grown hgr hbw6.size (fun k h => by cases h; omega)
      have RZ := Lib.hid (show wr.heap[w.heap.size]? = some (.cells Z.toArray 30 (0, 0)) from (hgr.block w.heap.size (by have := hbw6.size; omega) (fun e => by have := Option.some.inj e; omega)).trans RZ.out)
      by_cases hlt : k < fs.length
      · obtain ⟨ff, hff⟩ : ∃ ff, fs[k]? = some ff := ⟨_, List.getElem?_eq_getElem hlt⟩
        obtain ⟨b3, o3, hA3e, hb0, hr0⟩ := hslr.rd.get (i := 0) (by rw [length_fdsV]; omega)
        subst hA3e
        clear hb0 hr0 hA3
        have hix := index_ff (some ⟨b3, o3, none⟩) b3 o3 fs.length (c2 - 1) k rfl hlt
        have hrg := hslr.thing (k := 2) (fun _ _ => rfl) k ff hff
        have hmem := List.mem_of_getElem? hff
        have huk8 := tokK_ok 17 ff
        have htd := Lib.hid (show ∀ w', Calls Try.prog 38 #[.int .u8 17, .agg (fdV ff).toArray] w' _ from fun w' => btoken_any 17 ff (hfl ff (List.mem_cons_of_mem _ hmem)) w')
        have HA := Lib.hid (all_take_of (f := okK 17) hall hff)
        have HB := Lib.hid (all_bad_of (f := okK 17) hff)
        have HM := Lib.hid (show (fs.take (k + 1)).map (tokK 17) = (fs.take k).map (tokK 17) ++ [tokK 17 ff] by rw [List.take_add_one, List.map_append, hff]; rfl)
        have hkl : k ≤ 1000000 := by have := HCL.out; omega
        obtain ⟨u8, hu8⟩ : ∃ u, u = tokK 17 ff := ⟨_, rfl⟩
        obtain ⟨VD, hVD⟩ : ∃ V, V = fdV ff := ⟨_, rfl⟩
        have hzD := Lib.hid (show (Try.prog.info? 55).map (·.size) = some VD.length by rw [hVD]; exact size_ff)
        have hzD2 := Lib.hid (show (Try.prog.info? 55).map (·.size) = some VD.toArray.size by rw [hVD]; exact size_ff)
        have h2D := Lib.hid (show (2 : Nat) = VD.toArray.size by rw [hVD]; rfl)
        have hoD := Lib.hid (all_one (show ∀ v ∈ VD, v.oneCell' = true by rw [hVD]; exact fun v hv => fdV_one [ff] v (by simpa using hv)))
        rw [← hVD] at htd hrg
        rw [← hu8] at htd huk8 HM
        generalize okK 17 ff = R8 at *
        generalize hms : (fs.take k).map (tokK 17) = ms at *
        have hmsl : ms.length ≤ 1000000 := by rw [← hms, List.length_map, List.length_take]; omega
        clear hVD hu8 hff hmem hslr hall hfl hms
        go_wp2_with (first
            | (with_reducible refine wpList_load_mid rfl 55 (.tmp 42) rfl b3 (o3 + k * 2) rfl VD _ hrg Try.underlying55 rfl hzD.out ?_)
            | (with_reducible refine wpList_store_row rfl 55 (.tmp 9) (.tmp 43) rfl wr.heap.size VD.toArray rfl rfl 55 _ (heap_alloc_new wr _) hzD2.out (Eq.trans (by kernel_rfl) h2D.out) hoD.out ?_; refine Hid.out ?_))
        refine Lib.hid ?_
        generalize hw7 : World.setRow _ _ _ = w7
        obtain ⟨r7, hb7⟩ := row_new_set (xs := VD) hw7
        have R7 := Lib.hid (show w7.heap[wr.heap.size]? = some (.cells VD.toArray 55 (0, 0)) from r7)
        have hbw7 := hbw.trans (hb7.mono hbw.size)
        clear hw7 r7 hrg hix
        go_wp2_with (first
            | (with_reducible refine wpList_load_row rfl 55 (.tmp 9) rfl wr.heap.size rfl 55 VD.toArray (0, 0) _ R7.out Try.underlying55 rfl hzD2.out ?_)
            | (go_at_call 38; refine (htd.out _).mono ?_; rintro e w8 ⟨B8, d8, rfl, hsl8, hfr8, hb8⟩; have hlV8 := length_tokV huk8 B8 d8; have hon8 := tokV_one u8 B8 d8; obtain ⟨V8, hV8⟩ : ∃ V, V = tokV u8 B8 d8 := ⟨_, rfl⟩; rw [← hV8] at hlV8 hon8 ⊢; have HV8 := Lib.hid hV8; have HlV8 := Lib.hid hlV8; have hzV8 := Lib.hid (show (Try.prog.info? 27).map (·.size) = some V8.toArray.size by rw [size_tok, List.size_toArray, hlV8]); have h36V8 := Lib.hid (show 36 = V8.toArray.size by rw [List.size_toArray, hlV8]); have honl8 := Lib.hid hon8; have honeV8 := Lib.hid (all_one hon8); clear hV8 hlV8 hon8)
            | (with_reducible refine wpList_store_row rfl 27 (.tmp 10) (.tmp 47) rfl w8.heap.size V8.toArray rfl rfl 27 _ (heap_alloc_new w8 _) hzV8.out (Eq.trans (by kernel_rfl) h36V8.out) honeV8.out ?_; refine Hid.out ?_))
        refine Lib.hid ?_
        generalize hw9 : World.setRow _ _ _ = w9
        obtain ⟨r9, hb9⟩ := row_new_set (xs := V8) hw9
        have hbr9 := (hb7.trans (hb8.mono hb7.size)).trans (hb9.mono (hb7.trans (hb8.mono hb7.size)).size)
        have hbw9 := hbw.trans (hbr9.mono hbw.size)
        have R9 := Lib.hid (show w9.heap[w8.heap.size]? = some (.cells V8.toArray 27 (0, 0)) from r9)
        have RZ := Lib.hid (show w9.heap[w.heap.size]? = some (.cells Z.toArray 30 (0, 0)) from Row.later (show Row wr w.heap.size 30 Z from RZ.out) hbr9 (Row.lt RZ.out))
        have hsl9 := hsl8.later (Nat.le_refl _) hb9
        obtain ⟨A9, c9, B9, d9, ds, hds, rGr, ownr, hcvr⟩ := hat
        have HBL := Lib.hid (show ∀ p, B9 = some p → p.block < wr.heap.size from fun p hp => (ownr.lt p.block (by rw [hp]; rfl)).2)
        have rG := rGr.later hbr9 rGr.lt
        have own9 := ownk_later ownr hbr9 (Nat.le_refl _)
        have hcv9 : ∀ e ∈ (u4, A9, c9) :: ds, Cvs w9 e ∧ Apart (w.heap.size + 1) g B9 e := fun e he => ⟨(hcvr e he).1.later (Nat.le_refl _) hbr9, (hcvr e he).2⟩
        have HDS := Lib.hid hds
        have hgr9 := grown_trans hgr (grown_of_below hbr9 _)
        have HF8 := Lib.hid (show ∀ a, B8 = some a → wr.heap.size ≤ a.block from fun a ha => Nat.le_trans hb7.size (hfr8 a ha))
        have HGR := Lib.hid (show w6.heap.size ≤ wr.heap.size from hgr.size)
        have hlr9 : wr.heap.size ≤ w9.heap.size := hbr9.size
        clear hw9 r9 hb9 hb8 hb7 hbw7 hfr8 hsl8 hgr R7 rGr ownr hcvr hds
        cases R8 with
        | false =>
          have HO := Lib.hid (show okL l = false by rw [HOc.out, HB.out rfl]; rfl)
          clear HA HB HM hsl9 hgr9 hslc hlr9 hkl hmsl rG own9 hcv9
          go_wp2_with (first
              | (with_reducible refine wpList_store_row rfl 30 (.tmp 2) (.tmp 51) rfl w.heap.size _ rfl rfl 30 Z.toArray RZ.out (by kernel_rfl) (Eq.trans h37Z.out.symm (by kernel_rfl)) (by kernel_rfl) ?_; refine Hid.out ?_))
          refine Lib.hid ?_
          generalize hw9 : World.setRow _ _ _ = w9
          obtain ⟨r9, hg9⟩ := row_set (xs := [Value.int .u64 0, .string { data := #[] }, .slice none 0 0, .bool false, .int .u8 0, .int .u8 0, .int .u8 0, .int .u8 0, .int .u8 0, .int .u8 0, .int .u8 0, .int .u8 0, .int .u8 0, .int .u8 0, .int .u8 0, .int .u8 0, .int .u8 0, .int .u8 0, .int .u8 0, .int .u8 0, .int .u8 0, .int .u8 0, .int .u8 0, .int .u8 0, .int .u8 0, .int .u8 0, .int .u8 0, .int .u8 0, .int .u8 0, .int .u8 0, .int .u8 0, .int .u8 0, .int .u8 0, .int .u8 0, .int .u8 0, .int .u8 0, .slice none 0 0]) (show Row _ w.heap.size 30 Z from RZ.out) hw9
          rw [← zbun, ← HZ.out] at r9
          have R9 := Lib.hid (show w9.heap[w.heap.size]? = some (.cells Z.toArray 30 (0, 0)) from r9)
          have hb9 := hbw9.grown hg9 hbw9.size (fun k h => by cases h; exact Nat.le_refl _)
          clear hw9 r9 hg9
          go_wp2_with fail
          exact ⟨rfl, _, results_row_tmp rfl _ _ w.heap.size 30 Z.toArray (0, 0) _ rfl R9.out Try.underlying30 rfl hzK.out _ rfl, .agg Z.toArray, by rw [HO.out]; rfl, by rw [HZ.out, bunL_false HO.out]; exact BunV.zero _ _, hb9⟩

        | true =>
          have hall' := HA.out rfl
          clear HA HB
          have hdl : ds.length = ms.length := by rw [← toks_len ds, HDS.out]
          have HDL := Lib.hid (show ds.length ≤ 1000000 by rw [hdl]; exact hmsl)
          have n1 : ds.length + 1 ≤ maxLen := by unfold maxLen; have := HDL.out; omega
          have n2 : (ds.length + 1) * 88 ≤ 140737488355328 := by have := HDL.out; omega
          have hcg : w9.cell? ⟨g, 36, none⟩ = some (.slice B9 ds.length d9) := row_bun_dis huk4 rG
          have hbo := Lib.hid (build_one V8 HlV8.out)
          have hb10 := (Below.refl w9.heap.size w9).alloc (Nat.le_refl _) (.cells V8.toArray 27)
          have own10 := ownk_later own9 hb10 (Nat.le_refl _)
          have rG10 := rG.later hb10 rG.lt
          have hcv10 : ∀ e ∈ (u4, A9, c9) :: ds, Cvs (w9.alloc (.cells V8.toArray 27)) e ∧ Apart (w.heap.size + 1) g B9 e := fun e he => ⟨(hcv9 e he).1.later (Nat.le_refl _) hb10, (hcv9 e he).2⟩
          have hsz10 : w9.heap.size ≤ (w9.alloc (.cells V8.toArray 27)).heap.size := hb10.size
          have hfrB := ownk_fresh own9
          have hdd10 : Cvs (w9.alloc (.cells V8.toArray 27)) (u8, B8, d8) ∧ Apart (w.heap.size + 1) g B9 (u8, B8, d8) := by
            refine ⟨Sl.later hsl9 (Nat.le_refl _) hb10, fun hp a ha => ?_⟩
            have h1 := HF8.out a ha
            have h2 := HGR.out
            refine ⟨by omega, by omega, fun p hpB => ?_⟩
            have h3 : p.block < wr.heap.size := HBL.out _ hpB
            omega
          have hl10 := tok_sl w9 V8
          rw [HlV8.out] at hl10
          have hbase : w6.heap.size ≤ (w9.alloc (.cells V8.toArray 27)).heap.size := by have := HGR.out; omega
          have HALL := Lib.hid hall'
          have HHG := Lib.hid (show g < w6.heap.size from hlg)
          have hclk := HCL.out
          clear hdl hmsl hkl hlr9 hall' hsz10 own9 rG hcv9 hfrB hsl9 hslc
          go_wp2_with (first
              | (with_reducible refine wpList_load_row rfl 27 (.tmp 10) rfl w8.heap.size rfl 27 V8.toArray (0, 0) _ R9.out Try.underlying27 rfl hzV8.out ?_)
              | (refine wpList_slice1 rfl 28 1 0 (.tmp 54) rfl (.agg V8.toArray) _ rfl (hbo.out _) ?_)
              | (at_builtin; refine wpList_append_one rfl (.tmp 53) (.tmp 55) 28 rfl w6.heap.size 27 i0 _ 36 88 Try.underlying28 hi hz0 hz1 (by omega) hz2 rfl _ ds.length (ds.flatMap disV) rfl own10 ⟨w9.heap.size, 0, none⟩ 1 V8 rfl HlV8.out (by rw [Nat.one_mul]; exact hl10) honl8.out n1 n2 hbase ?_; intro v11 w11 own11 hg11 hnew11; obtain ⟨B11, d11, rfl, _, _⟩ := Sl.of_ownk own11; obtain ⟨hat11, hc11, hf11⟩ := bunAt_append huk4 HHG.out rG10 own10 hcv10 hdd10 (by rw [HV8.out] at own11; exact own11) hg11 hnew11; have hgr11 := grown_own (grown_trans hgr9 (grown_of_below hb10 _)) hg11 (fun k hk => (own10.lt k hk).1); clear own11 hg11 hnew11))
          have hgrF := grown_trans hgr11 (grown_setCell w11 g 36 (.slice B11 (ds.length + 1) d11))
          rw [HDS.out, ← HM.out] at hat11
          go_roundw
          case rel => exact ⟨k + 1, by omega, by go_num, HALL.out, hat11, hgrF⟩
          case measure => simp [intOf]; omega
      · obtain rfl : k = fs.length := by omega
        rw [List.take_length] at hall hat
        obtain ⟨HO, HBn⟩ := HBt.out (by trivial) hall
        obtain ⟨VX, rX, hlX, honX, hbX⟩ := hat.bunV (bunOk_map u4 huk4 fs 17) (by have := HG.out; omega)
        have RX := Lib.hid (show wr.heap[g]? = some (.cells VX.toArray 30 (0, 0)) from rX)
        have hzX := Lib.hid (show (Try.prog.info? 30).map (·.size) = some VX.toArray.size by rw [size_bun, List.size_toArray, hlX])
        have h37X := Lib.hid (show 37 = VX.toArray.size by rw [List.size_toArray, hlX])
        have honeX := Lib.hid (all_one honX)
        have HO2 := Lib.hid HO
        have HBn2 := Lib.hid HBn
        clear hat hslr hall hlt hk hslc rX hlX honX HO HBn hsl3 hfl hA3
        generalize fs.length = n at *
        go_wp2_with (first
            | (with_reducible refine wpList_load_row rfl 30 (.tmp 7) rfl g rfl 30 VX.toArray (0, 0) _ RX.out Try.underlying30 rfl hzX.out ?_)
            | (with_reducible refine wpList_store_row rfl 30 (.tmp 2) (.tmp 59) rfl w.heap.size VX.toArray rfl rfl 30 Z.toArray RZ.out hzX.out (Eq.trans h37Z.out.symm h37X.out) honeX.out ?_; refine Hid.out ?_))
        refine Lib.hid ?_
        generalize hw9 : World.setRow _ _ _ = w9
        obtain ⟨r9, hg9⟩ := row_set (xs := VX) (show Row _ w.heap.size 30 Z from RZ.out) hw9
        have R9 := Lib.hid (show w9.heap[w.heap.size]? = some (.cells VX.toArray 30 (0, 0)) from r9)
        have hb9 := hbw.grown hg9 hbw.size (fun k h => by cases h; exact Nat.le_refl _)
        have hbX9 := hbX.set hg9 (Nat.lt_succ_self _)
        clear hw9 r9 hg9
        go_wp2_with fail
        exact ⟨rfl, _, results_row_tmp rfl _ _ w.heap.size 30 VX.toArray (0, 0) _ rfl R9.out Try.underlying30 rfl hzX.out _ rfl, .agg VX.toArray, by rw [HO2.out]; rfl, by rw [HBn2.out]; exact hbX9, hb9⟩
end Go.Proofs.Ythiebbhooigogaa

/- LAYER 11: the contracts by BunV; package bundle: Decode. -/
namespace Go.Proofs.Ythiebbhooigogaa
open Go Go.RowKit

theorem BunV.cells {lo : Nat} {b : Bun} {w : World} {v : Value} (h : BunV lo b w v) (hb : b.Ok) : ∃ V : List Value, v = .agg V.toArray ∧ V.length = 37 ∧ (∀ u ∈ V, u.oneCell' = true) ∧ BunV lo b w (.agg V.toArray) := by
  obtain ⟨A, c, B, d, ds, h1, h2⟩ := h
  exact ⟨_, h1, length_bunV hb.root A c B ds.length d, bunV_one _ _ _ _ _ _, A, c, B, d, ds, rfl, h2⟩
theorem bunOf_dis {t : Tok} {ds : List Dis} {b : Bun} (h : b = bunOf t ds) : b.dis = toks ds := by rw [h]
section
variable {lo : Nat} {b : Bun} {w : World} {v : Value}
theorem bcheck_v (hb : b.Ok) (hf : b.Fit) (h : BunV lo b w v) : Calls Try.prog 12 #[v] w fun e w' => e = .returned (.int .i64 (chkB b)) ∧ Below w.heap.size w w' := by
  obtain ⟨A, c, B, d, ds, rfl, hbo, hs, hp⟩ := h.parts
  have hd := bunOf_dis hbo
  have h1 := bcheck_any b.root ds hb.root (by rw [← hd]; exact hb.dis) A c B d w hs hp hf.root (by rw [← hd]; exact hf.dis)
  rw [← hbo] at h1; exact h1
theorem rbcheck_v (hb : b.Ok) (h : BunV lo b w v) : Calls Try.prog 13 #[v] w fun e w' => e = .returned (.bool (checkB b)) ∧ Below w.heap.size w w' := by
  obtain ⟨A, c, B, d, ds, rfl, hbo, hs, hp⟩ := h.parts
  have hd := bunOf_dis hbo
  have h1 := rbcheck_any b.root ds hb.root (by rw [← hd]; exact hb.dis) A c B d w hs hp
  rw [← hbo] at h1; exact h1
theorem benc_v (hb : b.Ok) (hf : b.Fit) (hm : checkB b = true → (bytesB b).length ≤ 1000000) (h : BunV lo b w v) : Calls Try.prog 8 #[v] w fun e w' => ∃ B d, e = .returned (.tuple #[.slice B (encB b).length d, .int .i64 (errB b)]) ∧ Sl w' B d (byts (encB b)) ∧ Below w.heap.size w w' := by
  obtain ⟨A, c, B, d, ds, rfl, hbo, hs, hp⟩ := h.parts
  have hd := bunOf_dis hbo
  have h1 := benc_any b.root ds hb.root (by rw [← hd]; exact hb.dis) A c B d w hs hp hf.root (by rw [← hd]; exact hf.dis) (by rw [← hbo]; exact hm)
  rw [← hbo] at h1; exact h1
theorem rbenc_v (hb : b.Ok) (hm : checkB b = true → (bytesB b).length ≤ 1000000) (h : BunV lo b w v) : Calls Try.prog 9 #[v] w fun e w' => ∃ B d, e = .returned (.tuple #[.slice B (encB b).length d, .int .i64 (errB b)]) ∧ Sl w' B d (byts (encB b)) ∧ Below w.heap.size w w' := by
  obtain ⟨A, c, B, d, ds, rfl, hbo, hs, hp⟩ := h.parts
  have hd := bunOf_dis hbo
  have h1 := rbenc_any b.root ds hb.root (by rw [← hd]; exact hb.dis) A c B d w hs hp (by rw [← hbo]; exact hm)
  rw [← hbo] at h1; exact h1
theorem rbbytes_v (hb : b.Ok) (hc : checkB b = true) (hm : (bytesB b).length ≤ 1000000) (h : BunV lo b w v) : Calls Try.prog 21 #[v] w (GaveBytes (bytesB b) w) := by
  obtain ⟨A, c, B, d, ds, rfl, hbo, hs, hp⟩ := h.parts
  have hd := bunOf_dis hbo
  have hok : ∀ e ∈ toks ds, e.Ok := by rw [← hd]; exact hb.dis
  have h1 := rbbytes_any b.root ds hb.root hok A c B d w hs hp (check_bun_len hb.root hok (by rw [← hbo]; exact hc)) (by rw [← hbo]; exact hm)
  rw [← hbo] at h1; exact h1
theorem rlarge_v (hb : b.Ok) (hf : b.Fit) (h : BunV lo b w v) : Calls Try.prog 7 #[v] w fun e w' => e = .returned (.int .i64 (if largeB b then 1 else 0)) ∧ Below w.heap.size w w' := by
  obtain ⟨A, c, B, d, ds, rfl, hbo, hs, hp⟩ := h.parts
  have hd := bunOf_dis hbo
  have h1 := rlarge_any b.root ds hb.root hf.root (by rw [← hd]; exact hb.dis) (by rw [← hd]; exact hf.dis) A c B d w hs hp (by rw [← toks_len, ← hd]; exact hf.many)
  rw [← hbo] at h1; exact h1
end
def errD (l : List UInt8) : Int := if 65536 < l.length then 3 else if (decB l).isSome then 0 else 2
def bunD (l : List UInt8) : Bun := if 65536 < l.length then zeroB else (decB l).getD zeroB
theorem decB_okL (l : List UInt8) : decB l = if okL l = true ∧ checkB (bunL l) = true then some (bunL l) else none := by
  cases hA : allF l with
  | none =>
    have h1 : okL l = false := by unfold okL; rw [hA]
    rw [h1, if_neg (fun h => Bool.false_ne_true h.1)]
    unfold decB; rw [hA]
  | some fs =>
    rw [decB_kinds l fs hA]
    have h1 : okL l = (kindsB fs && fs.all okF) := by unfold okL; rw [hA]
    cases hk : okL l with
    | false =>
      rw [if_neg (show ¬ (false = true ∧ checkB (bunL l) = true) from fun h => Bool.false_ne_true h.1), if_neg]
      rintro ⟨h2, h3, _⟩
      rw [h1, h2, h3] at hk
      cases hk
    | true =>
      rw [h1, Bool.and_eq_true] at hk
      have hb : bunL l = readB fs := by
        unfold bunL allD
        rw [h1, hk.1, hk.2, hA]; rfl
      rw [hb]
      by_cases hc : checkB (readB fs) = true
      · rw [if_pos ⟨hk.1, hk.2, hc⟩, if_pos ⟨rfl, hc⟩]
      · rw [if_neg (fun h => hc h.2.2), if_neg (fun h => hc h.2)]
theorem zeroB_fit : zeroB.Fit := ⟨zero_fit, (fun _ h => by cases h), by decide⟩
theorem readB_fit (fs : List Fd) (h : fs.length ≤ 1000000) : (readB fs).Fit := by
  cases fs with
  | nil => exact zeroB_fit
  | cons f fs =>
    refine ⟨(decT_fit f.2).2.1, fun d hd => ?_, ?_⟩
    · obtain ⟨g, _, rfl⟩ := List.mem_map.1 hd; exact (decT_fit g.2).2.1
    · show (fs.map tkF).length ≤ _
      rw [List.length_map]
      rw [List.length_cons] at h; omega
theorem bunL_ok (l : List UInt8) : (bunL l).Ok := by unfold bunL; split; exact readB_ok _; exact zeroB_ok
theorem allD_len (l : List UInt8) : (allD l).length * 2 ≤ l.length := by
  unfold allD
  cases h : allF l with
  | none => exact Nat.zero_le _
  | some fs =>
    have h1 := joinL_len fs
    rw [(allF_back l fs h).1] at h1; exact h1
theorem bunL_fit (l : List UInt8) (h : l.length ≤ 1000000) : (bunL l).Fit := by
  unfold bunL
  split
  · exact readB_fit _ (by have := allD_len l; omega)
  · exact zeroB_fit
theorem bunD_ok (l : List UInt8) : (bunD l).Ok := by
  unfold bunD
  split
  · exact zeroB_ok
  · cases h : decB l with
    | none => exact zeroB_ok
    | some b => exact (decB_back l b h).2.2
set_option maxRecDepth 20000 in
set_option maxHeartbeats 2000000 in
theorem bdec_any (A : Option Addr) (n c : Nat) (l : List UInt8) (w : World) (hs : Sl w A c (byts l)) (hn : n = l.length) (hm : l.length ≤ 1000000) :
    Calls Try.prog 10 #[.slice A n c] w fun e w' => ∃ v, e = .returned (.tuple #[v, .int .i64 (errD l)]) ∧ BunV (w.heap.size + 1) (bunD l) w' v ∧ Below w.heap.size w w' := by
  subst hn
  obtain ⟨Z, hZ⟩ : ∃ Z, Z = bunV zeroK none 0 none 0 0 := ⟨_, rfl⟩
  have hzl : Z.length = 37 := by rw [hZ]; exact length_bunV zeroK_ok none 0 none 0 0
  have hzK := Lib.hid (show (Try.prog.info? 30).map (·.size) = some Z.toArray.size by rw [size_bun, List.size_toArray, hzl])
  have h37Z := Lib.hid (show 37 = Z.toArray.size by rw [List.size_toArray, hzl])
  have HZ := Lib.hid hZ
  have hb1 := (Below.refl w.heap.size w).alloc (Nat.le_refl _) (.cells [Value.int .u64 0, .string { data := #[] }, .slice none 0 0, .bool false, .int .u8 0, .int .u8 0, .int .u8 0, .int .u8 0, .int .u8 0, .int .u8 0, .int .u8 0, .int .u8 0, .int .u8 0, .int .u8 0, .int .u8 0, .int .u8 0, .int .u8 0, .int .u8 0, .int .u8 0, .int .u8 0, .int .u8 0, .int .u8 0, .int .u8 0, .int .u8 0, .int .u8 0, .int .u8 0, .int .u8 0, .int .u8 0, .int .u8 0, .int .u8 0, .int .u8 0, .int .u8 0, .int .u8 0, .int .u8 0, .int .u8 0, .int .u8 0, .slice none 0 0].toArray 30)
  have rz : Row (w.alloc (.cells [Value.int .u64 0, .string { data := #[] }, .slice none 0 0, .bool false, .int .u8 0, .int .u8 0, .int .u8 0, .int .u8 0, .int .u8 0, .int .u8 0, .int .u8 0, .int .u8 0, .int .u8 0, .int .u8 0, .int .u8 0, .int .u8 0, .int .u8 0, .int .u8 0, .int .u8 0, .int .u8 0, .int .u8 0, .int .u8 0, .int .u8 0, .int .u8 0, .int .u8 0, .int .u8 0, .int .u8 0, .int .u8 0, .int .u8 0, .int .u8 0, .int .u8 0, .int .u8 0, .int .u8 0, .int .u8 0, .int .u8 0, .int .u8 0, .slice none 0 0].toArray 30)) w.heap.size 30 Z := by rw [hZ, zbun]; exact Row.new w 30 _
  have RZ := Lib.hid (show (w.alloc (.cells [Value.int .u64 0, .string { data := #[] }, .slice none 0 0, .bool false, .int .u8 0, .int .u8 0, .int .u8 0, .int .u8 0, .int .u8 0, .int .u8 0, .int .u8 0, .int .u8 0, .int .u8 0, .int .u8 0, .int .u8 0, .int .u8 0, .int .u8 0, .int .u8 0, .int .u8 0, .int .u8 0, .int .u8 0, .int .u8 0, .int .u8 0, .int .u8 0, .int .u8 0, .int .u8 0, .int .u8 0, .int .u8 0, .int .u8 0, .int .u8 0, .int .u8 0, .int .u8 0, .int .u8 0, .int .u8 0, .int .u8 0, .int .u8 0, .slice none 0 0].toArray 30)).heap[w.heap.size]? = some (.cells Z.toArray 30 (0, 0)) from rz)
  have hs1 := hs.later (Nat.le_refl _) hb1
  clear hZ hzl hs
  by_cases hl : 65536 < l.length
  · have hl' : (65536 : Int) < (l.length : Int) := by omega
    have HE := Lib.hid (show errD l = 3 from if_pos hl)
    have HB := Lib.hid (show bunD l = zeroB from if_pos hl)
    clear hl hm
    go_enter Try.func10, Try.ntmps10
    go_wp2_with (first
        | (with_reducible refine wpList_store_row rfl 30 (.tmp 2) (.tmp 9) rfl w.heap.size _ rfl rfl 30 Z.toArray RZ.out (by kernel_rfl) (Eq.trans h37Z.out.symm (by kernel_rfl)) (by kernel_rfl) ?_; refine Hid.out ?_))
    refine Lib.hid ?_
    generalize hw9 : World.setRow _ _ _ = w9
    obtain ⟨r9, hg9⟩ := row_set (xs := [Value.int .u64 0, .string { data := #[] }, .slice none 0 0, .bool false, .int .u8 0, .int .u8 0, .int .u8 0, .int .u8 0, .int .u8 0, .int .u8 0, .int .u8 0, .int .u8 0, .int .u8 0, .int .u8 0, .int .u8 0, .int .u8 0, .int .u8 0, .int .u8 0, .int .u8 0, .int .u8 0, .int .u8 0, .int .u8 0, .int .u8 0, .int .u8 0, .int .u8 0, .int .u8 0, .int .u8 0, .int .u8 0, .int .u8 0, .int .u8 0, .int .u8 0, .int .u8 0, .int .u8 0, .int .u8 0, .int .u8 0, .int .u8 0, .slice none 0 0]) (show Row _ w.heap.size 30 Z from RZ.out) hw9
    rw [← zbun, ← HZ.out] at r9
    have R9 := Lib.hid (show w9.heap[w.heap.size]? = some (.cells Z.toArray 30 (0, 0)) from r9)
    have hb9 := hb1.grown hg9 hb1.size (fun k h => by cases h; exact Nat.le_refl _)
    clear hw9 r9 hg9
    go_wp2_with fail
    exact ⟨rfl, _, results_row_tmp rfl _ _ w.heap.size 30 Z.toArray (0, 0) _ rfl R9.out Try.underlying30 rfl hzK.out _ rfl, .agg Z.toArray, by rw [HE.out]; rfl, by rw [HZ.out, HB.out]; exact BunV.zero _ _, hb9⟩
  · have hl' : (l.length : Int) ≤ 65536 := by omega
    have hread := Lib.hid (fun w1 h => bread_any A l.length c l w1 h rfl hm)
    have HD := decB_okL l
    have hXok := bunL_ok l
    have hXfit := bunL_fit l hm
    have HE := Lib.hid (show errD l = if (decB l).isSome then 0 else 2 from if_neg hl)
    have HB := Lib.hid (show bunD l = (decB l).getD zeroB from if_neg hl)
    generalize bunL l = X at *
    generalize hR : okL l = R at *
    have hck := Lib.hid (fun w' v (h : BunV (w.heap.size + 1) X w' v) => bcheck_v hXok hXfit h)
    clear hl hm hR
    go_enter Try.func10, Try.ntmps10
    go_wp2_with (first
        | (go_at_call 22; refine (hread.out _ hs1).mono ?_; rintro e w2 ⟨v2, rfl, hv2, hb2⟩; obtain ⟨V2, rfl, hl2, ho2, _⟩ := hv2.cells hXok; have hz2 := Lib.hid (show (Try.prog.info? 30).map (·.size) = some V2.toArray.size by rw [size_bun, List.size_toArray, hl2]); have hz2l := Lib.hid (show (Try.prog.info? 30).map (·.size) = some V2.length by rw [size_bun, hl2]); have h372 := Lib.hid (show 37 = V2.toArray.size by rw [List.size_toArray, hl2]); have hone2 := Lib.hid (all_one ho2); have rz2 := rz.later hb2 rz.lt; have hbw2 := hb1.trans (hb2.mono hb1.size); clear hl2 ho2)
        | (with_reducible refine wpList_store_row rfl 30 (.tmp 4) (.tmp 13) rfl w2.heap.size V2.toArray rfl rfl 30 _ (heap_alloc_new w2 _) hz2.out (Eq.trans (by kernel_rfl) h372.out) hone2.out ?_; refine Hid.out ?_))
    refine Lib.hid ?_
    generalize hw3 : World.setRow _ _ _ = w3
    obtain ⟨r3, hb3⟩ := row_new_set (xs := V2) hw3
    have hbw3 := hbw2.trans (hb3.mono hbw2.size)
    have hv3 : BunV (w.heap.size + 1) X w3 (.agg V2.toArray) := (hv2.later hb3).mono (by rw [World.size_alloc]; exact Nat.le_succ _)
    have rz3 := rz2.later hb3 rz2.lt
    have RZ := Lib.hid (show w3.heap[w.heap.size]? = some (.cells Z.toArray 30 (0, 0)) from rz3)
    have R3 := Lib.hid (show w3.heap[w2.heap.size]? = some (.cells V2.toArray 30 (0, 0)) from r3)
    clear hw3 r3 hb3 hb2 hv2 hread hs1 rz rz2 hb1
    cases R with
    | false =>
      have HDn := Lib.hid (show decB l = none by rw [HD]; exact if_neg (fun h => Bool.false_ne_true h.1))
      have HE2 := Lib.hid (show errD l = 2 by rw [HE.out, HDn.out]; rfl)
      have HB2 := Lib.hid (show bunD l = zeroB by rw [HB.out, HDn.out]; rfl)
      clear HD HE HB hck
      go_wp2_with (first
          | (with_reducible refine wpList_store_row rfl 30 (.tmp 2) (.tmp 22) rfl w.heap.size _ rfl rfl 30 Z.toArray RZ.out (by kernel_rfl) (Eq.trans h37Z.out.symm (by kernel_rfl)) (by kernel_rfl) ?_; refine Hid.out ?_))
      refine Lib.hid ?_
      generalize hw9 : World.setRow _ _ _ = w9
      obtain ⟨r9, hg9⟩ := row_set (xs := [Value.int .u64 0, .string { data := #[] }, .slice none 0 0, .bool false, .int .u8 0, .int .u8 0, .int .u8 0, .int .u8 0, .int .u8 0, .int .u8 0, .int .u8 0, .int .u8 0, .int .u8 0, .int .u8 0, .int .u8 0, .int .u8 0, .int .u8 0, .int .u8 0, .int .u8 0, .int .u8 0, .int .u8 0, .int .u8 0, .int .u8 0, .int .u8 0, .int .u8 0, .int .u8 0, .int .u8 0, .int .u8 0, .int .u8 0, .int .u8 0, .int .u8 0, .int .u8 0, .int .u8 0, .int .u8 0, .int .u8 0, .int .u8 0, .slice none 0 0]) (show Row _ w.heap.size 30 Z from RZ.out) hw9
      rw [← zbun, ← HZ.out] at r9
      have R9 := Lib.hid (show w9.heap[w.heap.size]? = some (.cells Z.toArray 30 (0, 0)) from r9)
      have hb9 := hbw3.grown hg9 hbw3.size (fun k h => by cases h; exact Nat.le_refl _)
      clear hw9 r9 hg9
      go_wp2_with fail
      exact ⟨rfl, _, results_row_tmp rfl _ _ w.heap.size 30 Z.toArray (0, 0) _ rfl R9.out Try.underlying30 rfl hzK.out _ rfl, .agg Z.toArray, by rw [HE2.out]; rfl, by rw [HZ.out, HB2.out]; exact BunV.zero _ _, hb9⟩
    | true =>
      cases hc : checkB X with
      | false =>
        have HDn := Lib.hid (show decB l = none by rw [HD, hc]; exact if_neg (fun h => Bool.false_ne_true h.2))
        have HE2 := Lib.hid (show errD l = 2 by rw [HE.out, HDn.out]; rfl)
        have HB2 := Lib.hid (show bunD l = zeroB by rw [HB.out, HDn.out]; rfl)
        rw [show chkB X = 1 by unfold chkB; rw [hc]; rfl] at hck
        clear HD HE HB hc
        go_wp2_with (first
            | (refine wpList_step fun K hK => ?_; refine step_load_mid (some 18) rfl (by rfl) 30 (.tmp 4) rfl w2.heap.size 0 rfl V2 _ (row_range (show Row _ w2.heap.size 30 V2 from R3.out)) Try.underlying30 rfl hz2l.out ?_; refine hK _ _ ?_; clear hK)
            | (go_at_call 12; refine (hck.out _ _ hv3).mono ?_; rintro e w4 ⟨rfl, hb4⟩; have hbw4 := hbw3.trans (hb4.mono hbw3.size); have hv4 := hv3.later hb4; have RZ := Lib.hid (show w4.heap[w.heap.size]? = some (.cells Z.toArray 30 (0, 0)) from rz3.later hb4 rz3.lt); have R4 := Lib.hid (show w4.heap[w2.heap.size]? = some (.cells V2.toArray 30 (0, 0)) from Row.later (show Row w3 w2.heap.size 30 V2 from R3.out) hb4 (Row.lt R3.out)); clear hb4)
            | (with_reducible refine wpList_store_row rfl 30 (.tmp 2) (.tmp 22) rfl w.heap.size _ rfl rfl 30 Z.toArray RZ.out (by kernel_rfl) (Eq.trans h37Z.out.symm (by kernel_rfl)) (by kernel_rfl) ?_; refine Hid.out ?_))
        refine Lib.hid ?_
        generalize hw9 : World.setRow _ _ _ = w9
        obtain ⟨r9, hg9⟩ := row_set (xs := [Value.int .u64 0, .string { data := #[] }, .slice none 0 0, .bool false, .int .u8 0, .int .u8 0, .int .u8 0, .int .u8 0, .int .u8 0, .int .u8 0, .int .u8 0, .int .u8 0, .int .u8 0, .int .u8 0, .int .u8 0, .int .u8 0, .int .u8 0, .int .u8 0, .int .u8 0, .int .u8 0, .int .u8 0, .int .u8 0, .int .u8 0, .int .u8 0, .int .u8 0, .int .u8 0, .int .u8 0, .int .u8 0, .int .u8 0, .int .u8 0, .int .u8 0, .int .u8 0, .int .u8 0, .int .u8 0, .int .u8 0, .int .u8 0, .slice none 0 0]) (show Row _ w.heap.size 30 Z from RZ.out) hw9
        rw [← zbun, ← HZ.out] at r9
        have R9 := Lib.hid (show w9.heap[w.heap.size]? = some (.cells Z.toArray 30 (0, 0)) from r9)
        have hb9 := hbw4.grown hg9 hbw4.size (fun k h => by cases h; exact Nat.le_refl _)
        clear hw9 r9 hg9
        go_wp2_with fail
        exact ⟨rfl, _, results_row_tmp rfl _ _ w.heap.size 30 Z.toArray (0, 0) _ rfl R9.out Try.underlying30 rfl hzK.out _ rfl, .agg Z.toArray, by rw [HE2.out]; rfl, by rw [HZ.out, HB2.out]; exact BunV.zero _ _, hb9⟩
      | true =>
        have HDn := Lib.hid (show decB l = some X by rw [HD, hc]; exact if_pos ⟨rfl, rfl⟩)
        have HE2 := Lib.hid (show errD l = 0 by rw [HE.out, HDn.out]; rfl)
        have HB2 := Lib.hid (show bunD l = X by rw [HB.out, HDn.out]; rfl)
        rw [show chkB X = 0 from if_pos hc] at hck
        clear HD HE HB hc
        go_wp2_with (first
            | (refine wpList_step fun K hK => ?_; refine step_load_mid (some 18) rfl (by rfl) 30 (.tmp 4) rfl w2.heap.size 0 rfl V2 _ (row_range (show Row _ w2.heap.size 30 V2 from R3.out)) Try.underlying30 rfl hz2l.out ?_; refine hK _ _ ?_; clear hK)
            | (go_at_call 12; refine (hck.out _ _ hv3).mono ?_; rintro e w4 ⟨rfl, hb4⟩; have hbw4 := hbw3.trans (hb4.mono hbw3.size); have hv4 := hv3.later hb4; have RZ := Lib.hid (show w4.heap[w.heap.size]? = some (.cells Z.toArray 30 (0, 0)) from rz3.later hb4 rz3.lt); have R4 := Lib.hid (show w4.heap[w2.heap.size]? = some (.cells V2.toArray 30 (0, 0)) from Row.later (show Row w3 w2.heap.size 30 V2 from R3.out) hb4 (Row.lt R3.out)); clear hb4)
            | (with_reducible refine wpList_load_row rfl 30 (.tmp 4) rfl w2.heap.size rfl 30 V2.toArray (0, 0) _ R4.out Try.underlying30 rfl hz2.out ?_)
            | (with_reducible refine wpList_store_row rfl 30 (.tmp 2) (.tmp 23) rfl w.heap.size V2.toArray rfl rfl 30 Z.toArray RZ.out hz2.out (Eq.trans h37Z.out.symm h372.out) hone2.out ?_; refine Hid.out ?_))
        refine Lib.hid ?_
        generalize hw9 : World.setRow _ _ _ = w9
        obtain ⟨r9, hg9⟩ := row_set (xs := V2) (show Row _ w.heap.size 30 Z from RZ.out) hw9
        have R9 := Lib.hid (show w9.heap[w.heap.size]? = some (.cells V2.toArray 30 (0, 0)) from r9)
        have hb9 := hbw4.grown hg9 hbw4.size (fun k h => by cases h; exact Nat.le_refl _)
        have hv9 := hv4.set hg9 (Nat.lt_succ_self _)
        clear hw9 r9 hg9
        go_wp2_with fail
        exact ⟨rfl, _, results_row_tmp rfl _ _ w.heap.size 30 V2.toArray (0, 0) _ rfl R9.out Try.underlying30 rfl hz2.out _ rfl, .agg V2.toArray, by rw [HE2.out]; rfl, by rw [HB2.out]; exact hv9, hb9⟩
end Go.Proofs.Ythiebbhooigogaa
