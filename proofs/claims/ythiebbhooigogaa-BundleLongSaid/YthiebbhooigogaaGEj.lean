/- Texts of this claim, one behind the other. -/
import Derived.Test.YthiebbhooigogaaGEg
import Derived.Test.YthiebbhooigogaaDc
import Derived.Test.YthiebbhooigogaaSm
/- LAYER 11: the document's Decode. -/
namespace Go.Proofs.Ythiebbhooigogaa
open Go Go.RowKit

theorem tokV_inj_dummy : True := trivial
theorem splice_tok {t u : Tok} (ht : t.Ok) (hu : u.Ok) (A : Option Addr) (c : Nat) (B : Option Addr) (n d : Nat) (A' : Option Addr) (c' : Nat) : splice (bunV t A c B n d) 0 (tokV u A' c') = bunV u A' c' B n d := by
  have h1 := length_tokV ht A c
  have h2 := length_tokV hu A' c'
  unfold splice bunV
  rw [List.take_zero, List.nil_append, Nat.zero_add, h2, List.drop_append, h1, Nat.sub_self, List.drop_zero, List.drop_of_length_le (by omega), List.nil_append]
theorem bunAt_root {w w' : World} {lo base g : Nat} {t u : Tok} {A : Option Addr} {c : Nat} {B : Option Addr} {d : Nat} {ds : List Dis} {A' : Option Addr} {c' : Nat} (ht : t.Ok) (hu : u.Ok) (hg : g < base)
    (r : Row w' g 30 (splice (bunV t A c B ds.length d) 0 (tokV u A' c'))) (hgr : w.grownBy w' (some g)) (hown : w.ownsRow base 27 36 (.slice B ds.length d) ds.length (ds.flatMap disV))
    (hsl : ∀ e ∈ (t, A, c) :: ds, Cvs w e ∧ Apart lo g B e) (hdd : Cvs w (u, A', c') ∧ Apart lo g B (u, A', c')) : BunAt w' lo base g ⟨u, toks ds⟩ := by
  rw [splice_tok ht hu] at r
  have key : ∀ e, Cvs w e ∧ Apart lo g B e → Cvs w' e ∧ Apart lo g B e := fun e h => ⟨Sl.apart h.1 hgr (fun hx a ha => (h.2 (cavs_pos hx) a ha).2.1), h.2⟩
  refine ⟨A', c', B, d, ds, rfl, r, ownk_grown hown hgr hg, fun e he => ?_⟩
  rcases List.mem_cons.1 he with rfl | he
  · exact key _ hdd
  · exact key _ (hsl e (List.mem_cons_of_mem _ he))
theorem readB_succ {fs : List Fd} {k : Nat} {f : Fd} (hk : k ≠ 0) (h : fs[k]? = some f) : readB (fs.take (k + 1)) = ⟨(readB (fs.take k)).root, (readB (fs.take k)).dis ++ [tkF f]⟩ := by
  cases fs with
  | nil => cases h
  | cons g gs =>
    cases k with
    | zero => exact absurd rfl hk
    | succ k =>
      rw [List.getElem?_cons_succ] at h
      rw [List.take_succ_cons, List.take_succ_cons]
      show Bun.mk (tkF g) ((gs.take (k + 1)).map tkF) = ⟨tkF g, (gs.take k).map tkF ++ [tkF f]⟩
      rw [List.take_add_one, List.map_append, h]; rfl
theorem readB_one {fs : List Fd} {f : Fd} (h : fs[0]? = some f) : readB (fs.take (0 + 1)) = ⟨tkF f, (readB (fs.take 0)).dis⟩ := by
  cases fs with
  | nil => cases h
  | cons g gs =>
    simp only [List.getElem?_cons_zero, Option.some.injEq] at h
    subst h; rfl
theorem decB_D (l : List UInt8) : decB l = if ((allF l).isSome && (allD l).all okF) = true ∧ checkB (readB (allD l)) = true ∧ bytesB (readB (allD l)) = l then some (readB (allD l)) else none := by
  unfold decB allD
  cases h : allF l with
  | none => rw [if_neg (fun h => by have := h.1; cases this)]
  | some fs =>
    show (if fs.all okF = true ∧ checkB (readB fs) = true ∧ bytesB (readB fs) = l then some (readB fs) else none) = if (true && fs.all okF) = true ∧ checkB (readB fs) = true ∧ bytesB (readB fs) = l then some (readB fs) else none
    rw [Bool.true_and]
theorem bytesB_D (l : List UInt8) (hl : l.length ≤ 1000000) (h : ((allF l).isSome && (allD l).all okF) = true) : (bytesB (readB (allD l))).length ≤ 1000000 := by
  unfold allD at h ⊢
  cases hq : allF l with
  | none => rw [hq] at h; cases h
  | some fs =>
    rw [hq] at h
    simp only [Option.isSome_some, Option.getD_some, Bool.true_and] at h ⊢
    cases fs with
    | nil => decide +kernel
    | cons f fs => rw [bytesB_read hq h (fun e => by cases e)]; exact hl
theorem tkF_fit (f : Fd) : (tkF f).Fit := (decT_fit f.2).2.1
set_option maxRecDepth 100000 in
set_option maxHeartbeats 4000000 in
theorem rbdec_any (A : Option Addr) (n c : Nat) (l : List UInt8) (w : World) (hs : Sl w A c (byts l)) (hn : n = l.length) (hm : l.length ≤ 1000000) :
    Calls Try.prog 11 #[.slice A n c] w fun e w' => ∃ v, e = .returned (.tuple #[v, .int .i64 (errD l)]) ∧ BunV (w.heap.size + 1) (bunD l) w' v ∧ Below w.heap.size w w' := by
  subst hn
  obtain ⟨i0, hi, hz0, hz1, hz2⟩ := info_tok
  obtain ⟨Z, hZ⟩ : ∃ Z, Z = bunV zeroK none 0 none 0 0 := ⟨_, rfl⟩
  have hzl : Z.length = 37 := by rw [hZ]; exact length_bunV zeroK_ok none 0 none 0 0
  have hzK := Lib.hid (show (Try.prog.info? 30).map (·.size) = some Z.toArray.size by rw [size_bun, List.size_toArray, hzl])
  have h37Z := Lib.hid (show 37 = Z.toArray.size by rw [List.size_toArray, hzl])
  have HZ := Lib.hid hZ
  have hb1 := (Below.refl w.heap.size w).alloc (Nat.le_refl _) (.cells [Value.int .u64 0, .string { data := #[] }, .slice none 0 0, .bool false, .int .u8 0, .int .u8 0, .int .u8 0, .int .u8 0, .int .u8 0, .int .u8 0, .int .u8 0, .int .u8 0, .int .u8 0, .int .u8 0, .int .u8 0, .int .u8 0, .int .u8 0, .int .u8 0, .int .u8 0, .int .u8 0, .int .u8 0, .int .u8 0, .int .u8 0, .int .u8 0, .int .u8 0, .int .u8 0, .int .u8 0, .int .u8 0, .int .u8 0, .int .u8 0, .int .u8 0, .int .u8 0, .int .u8 0, .int .u8 0, .int .u8 0, .int .u8 0, .slice none 0 0].toArray 30)
  have rz : Row (w.alloc (.cells [Value.int .u64 0, .string { data := #[] }, .slice none 0 0, .bool false, .int .u8 0, .int .u8 0, .int .u8 0, .int .u8 0, .int .u8 0, .int .u8 0, .int .u8 0, .int .u8 0, .int .u8 0, .int .u8 0, .int .u8 0, .int .u8 0, .int .u8 0, .int .u8 0, .int .u8 0, .int .u8 0, .int .u8 0, .int .u8 0, .int .u8 0, .int .u8 0, .int .u8 0, .int .u8 0, .int .u8 0, .int .u8 0, .int .u8 0, .int .u8 0, .int .u8 0, .int .u8 0, .int .u8 0, .int .u8 0, .int .u8 0, .int .u8 0, .slice none 0 0].toArray 30)) w.heap.size 30 Z := by rw [hZ, zbun]; exact Row.new w 30 _
  have RZ := Lib.hid (show (w.alloc (.cells [Value.int .u64 0, .string { data := #[] }, .slice none 0 0, .bool false, .int .u8 0, .int .u8 0, .int .u8 0, .int .u8 0, .int .u8 0, .int .u8 0, .int .u8 0, .int .u8 0, .int .u8 0, .int .u8 0, .int .u8 0, .int .u8 0, .int .u8 0, .int .u8 0, .int .u8 0, .int .u8 0, .int .u8 0, .int .u8 0, .int .u8 0, .int .u8 0, .int .u8 0, .int .u8 0, .int .u8 0, .int .u8 0, .int .u8 0, .int .u8 0, .int .u8 0, .int .u8 0, .int .u8 0, .int .u8 0, .int .u8 0, .int .u8 0, .slice none 0 0].toArray 30)).heap[w.heap.size]? = some (.cells Z.toArray 30 (0, 0)) from rz)
  have hs1 := hs.later (Nat.le_refl _) hb1
  clear hZ hzl
  by_cases hl : 65536 < l.length
  · have hl' : (65536 : Int) < (l.length : Int) := by omega
    have HE := Lib.hid (show errD l = 3 from if_pos hl)
    have HB := Lib.hid (show bunD l = zeroB from if_pos hl)
    clear hl hm hs
    go_enter Try.func11, Try.ntmps11
    go_wp2_with (first
        | (with_reducible refine wpList_store_row rfl 30 (.tmp 2) (.tmp 14) rfl w.heap.size _ rfl rfl 30 Z.toArray RZ.out (by kernel_rfl) (Eq.trans h37Z.out.symm (by kernel_rfl)) (by kernel_rfl) ?_; refine Hid.out ?_))
    refine Lib.hid ?_
    generalize hw9 : World.setRow _ _ _ = w9
    obtain ⟨r9, hg9⟩ := row_set (xs := [Value.int .u64 0, .string { data := #[] }, .slice none 0 0, .bool false, .int .u8 0, .int .u8 0, .int .u8 0, .int .u8 0, .int .u8 0, .int .u8 0, .int .u8 0, .int .u8 0, .int .u8 0, .int .u8 0, .int .u8 0, .int .u8 0, .int .u8 0, .int .u8 0, .int .u8 0, .int .u8 0, .int .u8 0, .int .u8 0, .int .u8 0, .int .u8 0, .int .u8 0, .int .u8 0, .int .u8 0, .int .u8 0, .int .u8 0, .int .u8 0, .int .u8 0, .int .u8 0, .int .u8 0, .int .u8 0, .int .u8 0, .int .u8 0, .slice none 0 0]) (show Row _ w.heap.size 30 Z from RZ.out) hw9
    rw [← zbun, ← HZ.out] at r9
    have R9 := Lib.hid (show w9.heap[w.heap.size]? = some (.cells Z.toArray 30 (0, 0)) from r9)
    have hb9 := hb1.grown hg9 hb1.size (fun k h => by cases h; exact Nat.le_refl _)
    clear hw9 r9 hg9
    go_wp2_with fail
    exact ⟨rfl, _, results_row_tmp rfl _ _ w.heap.size 30 Z.toArray (0, 0) _ rfl R9.out Try.underlying30 rfl hzK.out _ rfl, .agg Z.toArray, by rw [HE.out]; rfl, by rw [HZ.out, HB.out]; exact BunV.zero _ _, hb9⟩
  have hl' : (l.length : Int) ≤ 65536 := by omega
  have hall := Lib.hid (fun w1 h => rallf_any A l.length c l w1 h rfl hm)
  have HD := Lib.hid (decB_D l)
  have HE := Lib.hid (show errD l = if (decB l).isSome then 0 else 2 from if_neg hl)
  have HBn := Lib.hid (show bunD l = (decB l).getD zeroB from if_neg hl)
  have HBY := Lib.hid (bytesB_D l hm)
  have hcl : (allD l).length ≤ 1000000 := by have := allD_len l; omega
  have hfl : ∀ g ∈ allD l, g.2.length ≤ 1000000 := by
    unfold allD
    cases h : allF l with
    | none => exact fun g hg => by cases hg
    | some fs => exact fun g hg => by have := (allF_back l fs h).2 g hg; omega
  generalize allD l = fs at *
  generalize (allF l).isSome = R0 at *
  clear hl hm RZ
  go_enter Try.func11, Try.ntmps11
  go_wp2_with (first
    | (go_at_call 23; refine (hall.out _ hs1).mono ?_; rintro e w2 ⟨A2, c2, rfl, hsl2, hb2⟩; have hbw2 := hb1.trans (hb2.mono hb1.size); have rz2 := rz.later hb2 rz.lt; have HSZ2 := Lib.hid (show w.heap.size + 1 ≤ w2.heap.size by have := hb2.size; rw [World.size_alloc] at this; exact this))
    | (with_reducible refine wpList_store_row rfl 30 (.tmp 6) (.tmp 20) rfl w2.heap.size _ rfl rfl 30 _ (heap_alloc_new w2 _) (by kernel_rfl) (by kernel_rfl) (by kernel_rfl) ?_; refine Hid.out ?_))
  refine Lib.hid ?_
  generalize hw3 : World.setRow _ _ _ = w3
  obtain ⟨r3, hb3⟩ := row_new_set (xs := [Value.int .u64 0, .string { data := #[] }, .slice none 0 0, .bool false, .int .u8 0, .int .u8 0, .int .u8 0, .int .u8 0, .int .u8 0, .int .u8 0, .int .u8 0, .int .u8 0, .int .u8 0, .int .u8 0, .int .u8 0, .int .u8 0, .int .u8 0, .int .u8 0, .int .u8 0, .int .u8 0, .int .u8 0, .int .u8 0, .int .u8 0, .int .u8 0, .int .u8 0, .int .u8 0, .int .u8 0, .int .u8 0, .int .u8 0, .int .u8 0, .int .u8 0, .int .u8 0, .int .u8 0, .int .u8 0, .int .u8 0, .int .u8 0, .slice none 0 0]) hw3
  rw [← zbun] at r3
  have hbw3 := hbw2.trans (hb3.mono hbw2.size)
  have rz3 := rz2.later hb3 rz2.lt
  have RZ := Lib.hid (show w3.heap[w.heap.size]? = some (.cells Z.toArray 30 (0, 0)) from rz3)
  have hsl3 := hsl2.later (Nat.le_refl _) hb3
  have hat0 : BunAt w3 (w.heap.size + 1) w3.heap.size w2.heap.size (readB (fs.take 0)) := BunAt.start r3 ⟨.inl rfl, Nat.le_refl _, fun _ => rfl⟩ (fun hp => by cases hp)
  have HA2 := Lib.hid (show 0 < (fs.flatMap fdV).length → ∀ a, A2 = some a → a.block < w2.heap.size from fun hx a ha => hsl2.block_lt hx ha)
  have hlg := r3.lt
  have HG := Lib.hid (show w.heap.size < w2.heap.size by have := HSZ2.out; omega)
  have HCL := Lib.hid hcl
  clear hw3 r3 hb3 hb2 hbw2 hsl2 rz3 rz2 hb1 hs1 rz hall hcl
  generalize w2.heap.size = g at *
  go_wp2_with fail
  go_loopw [5, 23] (fun v i wr => ∃ k : Nat, k ≤ fs.length ∧ i = .int .i64 k ∧ v = .bool (R0 && (fs.take k).all okF) ∧ BunAt wr (w.heap.size + 1) w3.heap.size g (readB (fs.take k)) ∧ w3.grownBy wr (some g)) (fun _ i _ => fs.length - (intOf i).toNat)
  case atStart => exact ⟨0, by omega, rfl, by simp, hat0, grown_refl _ _⟩
  case round =>
    clear hat0
    obtain ⟨k, hk, rfl, rfl, hat, hgr⟩ := hrel
    have hslr := hsl3.apart hgr (fun hx a ha => by have := HA2.out hx a ha; omega)
    have hG := HG.out
    have hbw : Below w.heap.size w wr := hbw3.grown hgr hbw3.size (fun k h => by cases h; omega)
    have RZ := Lib.hid (show wr.heap[w.heap.size]? = some (.cells Z.toArray 30 (0, 0)) from (hgr.block w.heap.size (by omega) (fun e => by have := Option.some.inj e; omega)).trans RZ.out)
    by_cases hlt : k < fs.length
    · obtain ⟨⟨x, T⟩, hff⟩ : ∃ ff, fs[k]? = some ff := ⟨_, List.getElem?_eq_getElem hlt⟩
      obtain ⟨b3, o3, hA3e, hb0, hr0⟩ := hslr.rd.get (i := 0) (by rw [length_fdsV]; omega)
      subst hA3e
      clear hb0 hr0
      have hix := index_fd (some ⟨b3, o3, none⟩) b3 o3 fs.length c2 k rfl hlt
      have hrg := hslr.thing (k := 2) (fun _ _ => rfl) k (x, T) hff
      have hmem := List.mem_of_getElem? hff
      have huk8 := tkF_ok (x, T)
      have hdec := Lib.hid (show ∀ A n c w1, Sl w1 A c (byts T) → n = T.length → Calls Try.prog 24 #[.slice A n c] w1 fun e w' => ∃ B d, e = .returned (.tuple #[.agg (tokV (tkF (x, T)) B d).toArray, .bool (okF (x, T))]) ∧ Sl w' B (d * 5) ((tkF (x, T)).cavs.flatMap cavV) ∧ (∀ a, B = some a → w1.heap.size ≤ a.block) ∧ Below w1.heap.size w1 w' from fun A n c w1 h hn => rdec_fresh A n c T w1 h hn (hfl (x, T) hmem))
      have HO := Lib.hid (show (R0 && (fs.take (k + 1)).all okF) = ((R0 && (fs.take k).all okF) && okF (x, T)) by rw [List.take_add_one, List.all_append, hff, ← Bool.and_assoc]; simp)
      have HRS := Lib.hid (fun hk => readB_succ hk hff)
      have HR1 := Lib.hid (show k = 0 → readB (fs.take (k + 1)) = ⟨tkF (x, T), (readB (fs.take k)).dis⟩ from fun h0 => by subst h0; exact readB_one hff)
      have hRok := readB_ok (fs.take k)
      have hdk : (readB (fs.take k)).dis.length ≤ 1000000 := by
        have h1 : ∀ gs : List Fd, (readB gs).dis.length ≤ gs.length := fun gs => by
          cases gs with
          | nil => exact Nat.le_refl _
          | cons g gs => show (gs.map tkF).length ≤ gs.length + 1; rw [List.length_map]; omega
        have h2 := h1 (fs.take k)
        rw [List.length_take] at h2
        have := HCL.out
        omega
      obtain ⟨u8, hu8⟩ : ∃ u, u = tkF (x, T) := ⟨_, rfl⟩
      rw [← hu8] at hdec huk8 HRS HR1
      generalize okF (x, T) = R8 at *
      generalize (R0 && (fs.take k).all okF) = RK at *
      generalize readB (fs.take k) = X at *
      obtain ⟨VD, hVD⟩ : ∃ V, V = fdV (x, T) := ⟨_, rfl⟩
      have hzD := Lib.hid (show (Try.prog.info? 65).map (·.size) = some VD.length by rw [hVD]; exact size_fd)
      have hzD2 := Lib.hid (show (Try.prog.info? 65).map (·.size) = some VD.toArray.size by rw [hVD]; exact size_fd)
      have h2D := Lib.hid (show (2 : Nat) = VD.toArray.size by rw [hVD]; rfl)
      have hoD := Lib.hid (all_one (show ∀ v ∈ VD, v.oneCell' = true by rw [hVD]; exact fun v hv => fdV_one [(x, T)] v (by simpa using hv)))
      have hstr := Lib.hid (show VD[1]? = some (.string (bstr T)) by rw [hVD]; rfl)
      rw [← hVD] at hrg
      have hclk := HCL.out
      clear hVD hu8 hff hmem hslr hfl
      go_wp2_with (first
          | (with_reducible refine wpList_load_mid rfl 65 (.tmp 26) rfl b3 (o3 + k * 2) rfl VD _ hrg Try.underlying65 rfl hzD.out ?_)
          | (with_reducible refine wpList_store_row rfl 65 (.tmp 8) (.tmp 27) rfl wr.heap.size VD.toArray rfl rfl 65 _ (heap_alloc_new wr _) hzD2.out (Eq.trans (by kernel_rfl) h2D.out) hoD.out ?_; refine Hid.out ?_))
      refine Lib.hid ?_
      generalize hw7 : World.setRow _ _ _ = w7
      obtain ⟨r7, hb7⟩ := row_new_set (xs := VD) hw7
      have hbw7 := hbw.trans (hb7.mono hbw.size)
      have hc1 : w7.cell? ⟨wr.heap.size, 1, none⟩ = some (.string (bstr T)) := by rw [r7.cell]; exact hstr.out
      clear hw7 r7 hrg hix
      go_wp2_with (first
          | (refine wpList_conv_string rfl (.tmp 30) rfl T rfl ?_; intro A6 c6 w6 hsl6 hb6; have hbw6 := hbw7.trans (hb6.mono hbw7.size))
          | (go_at_call 24; refine (hdec.out _ _ _ _ hsl6 rfl).mono ?_; rintro e w8 ⟨B8, d8, rfl, hsl8, hfr8, hb8⟩; have hlV8 := length_tokV huk8 B8 d8; have hon8 := tokV_one u8 B8 d8; obtain ⟨V8, hV8⟩ : ∃ V, V = tokV u8 B8 d8 := ⟨_, rfl⟩; rw [← hV8] at hlV8 hon8 ⊢; have HV8 := Lib.hid hV8; have HlV8 := Lib.hid hlV8; have hzV8 := Lib.hid (show (Try.prog.info? 27).map (·.size) = some V8.toArray.size by rw [size_tok, List.size_toArray, hlV8]); have hzV8l := Lib.hid (show (Try.prog.info? 27).map (·.size) = some V8.length by rw [size_tok, hlV8]); have h36V8 := Lib.hid (show 36 = V8.toArray.size by rw [List.size_toArray, hlV8]); have honl8 := Lib.hid hon8; have honeV8 := Lib.hid (all_one hon8); clear hV8 hlV8 hon8)
          | (with_reducible refine wpList_store_row rfl 27 (.tmp 9) (.tmp 33) rfl w8.heap.size V8.toArray rfl rfl 27 _ (heap_alloc_new w8 _) hzV8.out (Eq.trans (by kernel_rfl) h36V8.out) honeV8.out ?_; refine Hid.out ?_))
      refine Lib.hid ?_
      generalize hw9 : World.setRow _ _ _ = w9
      obtain ⟨r9, hb9⟩ := row_new_set (xs := V8) hw9
      have hbr8 := (hb7.trans (hb6.mono hb7.size)).trans (hb8.mono (hb7.trans (hb6.mono hb7.size)).size)
      have hbr9 := hbr8.trans (hb9.mono hbr8.size)
      have hbw9 := hbw.trans (hbr9.mono hbw.size)
      have R9 := Lib.hid (show w9.heap[w8.heap.size]? = some (.cells V8.toArray 27 (0, 0)) from r9)
      have hsl9 := hsl8.later (Nat.le_refl _) hb9
      obtain ⟨A9, c9, B9, d9, ds, hds, rGr, ownr, hcvr⟩ := hat
      have HBL := Lib.hid (show ∀ p, B9 = some p → p.block < wr.heap.size from fun p hp => (ownr.lt p.block (by rw [hp]; rfl)).2)
      have rG := rGr.later hbr9 rGr.lt
      have own9 := ownk_later ownr hbr9 (Nat.le_refl _)
      have hcv9 : ∀ e ∈ (X.root, A9, c9) :: ds, Cvs w9 e ∧ Apart (w.heap.size + 1) g B9 e := fun e he => ⟨(hcvr e he).1.later (Nat.le_refl _) hbr9, (hcvr e he).2⟩
      have HDS := Lib.hid hds
      have hgr9 := grown_trans hgr (grown_of_below hbr9 _)
      have HF8 := Lib.hid (show ∀ a, B8 = some a → wr.heap.size ≤ a.block from fun a ha => Nat.le_trans (hb7.trans (hb6.mono hb7.size)).size (hfr8 a ha))
      have HGR := Lib.hid (show w3.heap.size ≤ wr.heap.size from hgr.size)
      have hdd9 : Cvs w9 (u8, B8, d8) ∧ Apart (w.heap.size + 1) g B9 (u8, B8, d8) := by
        refine ⟨hsl9, fun hp a ha => ?_⟩
        have h1 := HF8.out a ha
        have h2 := HGR.out
        refine ⟨by omega, by omega, fun p hpB => ?_⟩
        have h3 : p.block < wr.heap.size := HBL.out _ hpB
        omega
      have hdl : ds.length = X.dis.length := by rw [← toks_len ds, hds]
      have HDL := Lib.hid (show ds.length ≤ 1000000 by rw [hdl]; exact hdk)
      have hu4 := hRok.root
      have HHG := Lib.hid (show g < w3.heap.size from hlg)
      clear hw9 r9 hb9 hb8 hb7 hb6 hbw7 hbw6 hbr8 hfr8 hsl8 hsl9 hgr rGr ownr hcvr hds hdl hdk hc1 hsl6
      by_cases hk0 : k = 0
      · have hki : ((k : Int) == 0) = true := by rw [beq_iff_eq]; omega
        have HR1n := Lib.hid (HR1.out hk0)
        have HBL9 := Lib.hid (length_bunV hu4 A9 c9 B9 ds.length d9)
        clear HRS HR1 hk0
        cases RK
        all_goals (
          go_wp2_with (first
              | (with_reducible refine wpList_load_row rfl 27 (.tmp 9) rfl w8.heap.size rfl 27 V8.toArray (0, 0) _ R9.out Try.underlying27 rfl hzV8.out ?_)
              | (refine wpList_step fun K hK => ?_; refine step_store_row none rfl (by rfl) 27 (.tmp 42) (.tmp 41) rfl g 0 30 _ V8 rfl rfl rG (by rw [HlV8.out, HBL9.out]; decide) hzV8l.out honl8.out ?_; intro w11 r11 hg11; refine hK _ _ ?_; clear hK)))
        all_goals (
          have hat11 : BunAt w11 (w.heap.size + 1) w3.heap.size g ⟨u8, toks ds⟩ := bunAt_root hu4 huk8 HHG.out (by rw [HV8.out] at r11; exact r11) hg11 own9 hcv9 hdd9
          have hgrF := grown_trans hgr9 hg11
          rw [HDS.out, ← HR1n.out] at hat11
          go_roundw)
        case rel => exact ⟨k + 1, by omega, by go_num, by rw [HO.out]; simp, hat11, hgrF⟩
        case measure => simp [intOf]; omega
        case rel => exact ⟨k + 1, by omega, by go_num, by rw [HO.out]; simp, hat11, hgrF⟩
        case measure => simp [intOf]; omega
      · have hki : ((k : Int) == 0) = false := by rw [beq_eq_false_iff_ne]; omega
        have HRSn := Lib.hid (HRS.out hk0)
        have n1 : ds.length + 1 ≤ maxLen := by unfold maxLen; have := HDL.out; omega
        have n2 : (ds.length + 1) * 88 ≤ 140737488355328 := by have := HDL.out; omega
        have hcg : w9.cell? ⟨g, 36, none⟩ = some (.slice B9 ds.length d9) := row_bun_dis hu4 rG
        have hbo := Lib.hid (build_one V8 HlV8.out)
        have hb10 := (Below.refl w9.heap.size w9).alloc (Nat.le_refl _) (.cells V8.toArray 27)
        have own10 := ownk_later own9 hb10 (Nat.le_refl _)
        have rG10 := rG.later hb10 rG.lt
        have hcv10 : ∀ e ∈ (X.root, A9, c9) :: ds, Cvs (w9.alloc (.cells V8.toArray 27)) e ∧ Apart (w.heap.size + 1) g B9 e := fun e he => ⟨(hcv9 e he).1.later (Nat.le_refl _) hb10, (hcv9 e he).2⟩
        have hdd10 : Cvs (w9.alloc (.cells V8.toArray 27)) (u8, B8, d8) ∧ Apart (w.heap.size + 1) g B9 (u8, B8, d8) := ⟨hdd9.1.later (Nat.le_refl _) hb10, hdd9.2⟩
        have hl10 := tok_sl w9 V8
        rw [HlV8.out] at hl10
        have hbase : w3.heap.size ≤ (w9.alloc (.cells V8.toArray 27)).heap.size := by
          have h1 := HGR.out
          have h2 := hbr9.size
          have h3 := hb10.size
          omega
        clear HRS HR1 hk0 own9 rG hcv9 hdd9
        cases RK
        all_goals (
          go_wp2_with (first
              | (with_reducible refine wpList_load_row rfl 27 (.tmp 9) rfl w8.heap.size rfl 27 V8.toArray (0, 0) _ R9.out Try.underlying27 rfl hzV8.out ?_)
              | (refine wpList_slice1 rfl 28 1 0 (.tmp 45) rfl (.agg V8.toArray) _ rfl (hbo.out _) ?_)
              | (at_builtin; refine wpList_append_one rfl (.tmp 44) (.tmp 46) 28 rfl w3.heap.size 27 i0 _ 36 88 Try.underlying28 hi hz0 hz1 (by omega) hz2 rfl _ ds.length (ds.flatMap disV) rfl own10 ⟨w9.heap.size, 0, none⟩ 1 V8 rfl HlV8.out (by rw [Nat.one_mul]; exact hl10) honl8.out n1 n2 hbase ?_; intro v11 w11 own11 hg11 hnew11; obtain ⟨B11, d11, rfl, _, _⟩ := Sl.of_ownk own11; obtain ⟨hat11, hc11, hf11⟩ := bunAt_append hu4 HHG.out rG10 own10 hcv10 hdd10 (by rw [HV8.out] at own11; exact own11) hg11 hnew11; have hgr11 := grown_own (grown_trans hgr9 (grown_of_below hb10 _)) hg11 (fun k hk => (own10.lt k hk).1); clear own11 hg11 hnew11)))
        all_goals (
          have hgrF := grown_trans hgr11 (grown_setCell w11 g 36 (.slice B11 (ds.length + 1) d11))
          rw [HDS.out, ← HRSn.out] at hat11
          go_roundw)
        case rel => exact ⟨k + 1, by omega, by go_num, by rw [HO.out]; simp, hat11, hgrF⟩
        case measure => simp [intOf]; omega
        case rel => exact ⟨k + 1, by omega, by go_num, by rw [HO.out]; simp, hat11, hgrF⟩
        case measure => simp [intOf]; omega
    · obtain rfl : k = fs.length := by omega
      rw [List.take_length] at hat ⊢
      have hXok := readB_ok fs
      have hXm := HBY.out
      have hDD := HD.out
      obtain ⟨VX, rX, hlX, honX, hbX⟩ := hat.bunV hXok (by omega)
      have hck := Lib.hid (fun w' (h : BunV (w.heap.size + 1) (readB fs) w' (.agg VX.toArray)) => rbcheck_v hXok h)
      have hby := Lib.hid (fun (hc : checkB (readB fs) = true) hm w' (h : BunV (w.heap.size + 1) (readB fs) w' (.agg VX.toArray)) => rbbytes_v hXok hc hm h)
      generalize readB fs = X at *
      have hzX := Lib.hid (show (Try.prog.info? 30).map (·.size) = some VX.toArray.size by rw [size_bun, List.size_toArray, hlX])
      have hzXl := Lib.hid (show (Try.prog.info? 30).map (·.size) = some VX.length by rw [size_bun, hlX])
      have h37X := Lib.hid (show 37 = VX.toArray.size by rw [List.size_toArray, hlX])
      have honeX := Lib.hid (all_one honX)
      have hsr := hs.later (Nat.le_refl _) hbw
      obtain ⟨RK, hRK⟩ : ∃ R, R = (R0 && fs.all okF) := ⟨_, rfl⟩
      rw [← hRK] at hDD hXm ⊢
      clear hat hslr hlt hk hlX honX hsl3 hfl hRK HD HBY hs
      generalize fs.length = n at *
      cases RK with
      | false =>
        have HDn := Lib.hid (show decB l = none by rw [hDD]; exact if_neg (fun h => Bool.false_ne_true h.1))
        have HE2 := Lib.hid (show errD l = 2 by rw [HE.out, HDn.out]; rfl)
        have HB2 := Lib.hid (show bunD l = zeroB by rw [HBn.out, HDn.out]; rfl)
        clear hDD hXm hck hby
        go_wp2_with fail
        refine wp_region_noPanic ?_
        refine wp_region_held_drew (S := fun w' => Below wr.heap.size wr w') (by kernel_rfl) ((Below.refl _ _).drew) (fun hHeld => ?_)
        have hB := hHeld
        refine rtake 0 _ (some 50) _ rfl rfl (by kernel_rfl) (by kernel_rfl) (by kernel_rfl) (fun _ _ _ h => h) (by rfl) hHeld (by intro w hS; go_simp; try with_reducible rfl) ?_
        try (first | (rw [put_some]; dsimp only [List.set]) | rw [put_none])
        refine rtake 1 _ (some 51) _ rfl rfl (by kernel_rfl) (by kernel_rfl) (by kernel_rfl) (fun _ _ _ h => h) (by rfl) hHeld (by intro w hS; go_simp; try with_reducible rfl) ?_
        try (first | (rw [put_some]; dsimp only [List.set]) | rw [put_none])
        refine rtake 2 _ (some 52) _ rfl rfl (by kernel_rfl) (by kernel_rfl) (by kernel_rfl) (fun _ _ _ h => h) (by rfl) hHeld (by intro w hS; go_simp; try with_reducible rfl) ?_
        try (first | (rw [put_some]; dsimp only [List.set]) | rw [put_none])
        refine rskip 3 _ (some 53) rfl rfl (by kernel_rfl) (by kernel_rfl) (by kernel_rfl) (fun _ _ _ h => h) (by rfl) hHeld ?_
        try (first | (rw [put_some]; dsimp only [List.set]) | rw [put_none])
        refine rskip 4 _ (some 54) rfl rfl (by kernel_rfl) (by kernel_rfl) (by kernel_rfl) (fun _ _ _ h => h) (by rfl) hHeld ?_
        try (first | (rw [put_some]; dsimp only [List.set]) | rw [put_none])
        refine rskip 5 _ (some 55) rfl rfl (by kernel_rfl) (by kernel_rfl) (by kernel_rfl) (fun _ _ _ h => h) (by rfl) hHeld ?_
        try (first | (rw [put_some]; dsimp only [List.set]) | rw [put_none])
        refine rtake 6 _ (some 56) _ rfl rfl (by kernel_rfl) (by kernel_rfl) (by kernel_rfl) (fun _ _ _ h => h) (by rfl) hHeld (by intro w hS; go_simp; try with_reducible rfl) ?_
        try (first | (rw [put_some]; dsimp only [List.set]) | rw [put_none])
        refine rtake 7 _ (some 57) _ rfl rfl (by kernel_rfl) (by kernel_rfl) (by kernel_rfl) (fun _ _ _ h => h) (by rfl) hHeld (by intro w hS; go_simp; try with_reducible rfl) ?_
        try (first | (rw [put_some]; dsimp only [List.set]) | rw [put_none])
        refine rskip 8 _ (some 58) rfl rfl (by kernel_rfl) (by kernel_rfl) (by kernel_rfl) (fun _ _ _ h => h) (by rfl) hHeld ?_
        try (first | (rw [put_some]; dsimp only [List.set]) | rw [put_none])
        refine rskip 9 _ (some 59) rfl rfl (by kernel_rfl) (by kernel_rfl) (by kernel_rfl) (fun _ _ _ h => h) (by rfl) hHeld ?_
        try (first | (rw [put_some]; dsimp only [List.set]) | rw [put_none])
        refine rskip 10 _ (some 60) rfl rfl (by kernel_rfl) (by kernel_rfl) (by kernel_rfl) (fun _ _ _ h => h) (by rfl) hHeld ?_
        try (first | (rw [put_some]; dsimp only [List.set]) | rw [put_none])
        refine rskip 11 _ (some 61) rfl rfl (by kernel_rfl) (by kernel_rfl) (by kernel_rfl) (fun _ _ _ h => h) (by rfl) hHeld ?_
        try (first | (rw [put_some]; dsimp only [List.set]) | rw [put_none])
        refine rskip 12 _ (some 62) rfl rfl (by kernel_rfl) (by kernel_rfl) (by kernel_rfl) (fun _ _ _ h => h) (by rfl) hHeld ?_
        try (first | (rw [put_some]; dsimp only [List.set]) | rw [put_none])
        refine rskip 13 _ (some 63) rfl rfl (by kernel_rfl) (by kernel_rfl) (by kernel_rfl) (fun _ _ _ h => h) (by rfl) hHeld ?_
        try (first | (rw [put_some]; dsimp only [List.set]) | rw [put_none])
        refine rtake 14 _ (some 64) _ rfl rfl (by kernel_rfl) (by kernel_rfl) (by kernel_rfl) (fun _ _ _ h => h) (by rfl) hHeld (by intro w hS; go_simp; try with_reducible rfl) ?_
        try (first | (rw [put_some]; dsimp only [List.set]) | rw [put_none])
        refine wpAnyH_done (by kernel_rfl) ?_ _
        refine NoPanic.normal ?_
        have hbwN := hbw.trans (hB.mono hbw.size)
        have rzN := Row.later (show Row wr w.heap.size 30 Z from RZ.out) hB (Row.lt RZ.out)
        have rXN := rX.later hB rX.lt
        have hbXN := hbX.later hB
        clear hHeld hB
        generalize World.drew wr = wN at *
        have RZ := Lib.hid (show wN.heap[w.heap.size]? = some (.cells Z.toArray 30 (0, 0)) from rzN)
        clear rzN
        go_wp2_with (first
            | (with_reducible refine wpList_store_row rfl 30 (.tmp 2) (.tmp 65) rfl w.heap.size _ rfl rfl 30 Z.toArray RZ.out (by kernel_rfl) (Eq.trans h37Z.out.symm (by kernel_rfl)) (by kernel_rfl) ?_; refine Hid.out ?_))
        refine Lib.hid ?_
        generalize hw9 : World.setRow _ _ _ = w9
        obtain ⟨r9, hg9⟩ := row_set (xs := [Value.int .u64 0, .string { data := #[] }, .slice none 0 0, .bool false, .int .u8 0, .int .u8 0, .int .u8 0, .int .u8 0, .int .u8 0, .int .u8 0, .int .u8 0, .int .u8 0, .int .u8 0, .int .u8 0, .int .u8 0, .int .u8 0, .int .u8 0, .int .u8 0, .int .u8 0, .int .u8 0, .int .u8 0, .int .u8 0, .int .u8 0, .int .u8 0, .int .u8 0, .int .u8 0, .int .u8 0, .int .u8 0, .int .u8 0, .int .u8 0, .int .u8 0, .int .u8 0, .int .u8 0, .int .u8 0, .int .u8 0, .int .u8 0, .slice none 0 0]) (show Row _ w.heap.size 30 Z from RZ.out) hw9
        rw [← zbun, ← HZ.out] at r9
        have R9 := Lib.hid (show w9.heap[w.heap.size]? = some (.cells Z.toArray 30 (0, 0)) from r9)
        have hb9 := hbwN.grown hg9 hbwN.size (fun k h => by cases h; exact Nat.le_refl _)
        clear hw9 r9 hg9
        go_wp2_with fail
        exact ⟨rfl, _, results_row_tmp rfl _ _ w.heap.size 30 Z.toArray (0, 0) _ rfl R9.out Try.underlying30 rfl hzK.out _ rfl, .agg Z.toArray, by rw [HE2.out]; rfl, by rw [HZ.out, HB2.out]; exact BunV.zero _ _, hb9⟩
      | true =>
        cases hc : checkB X with
        | false =>
          have HDn := Lib.hid (show decB l = none by rw [hDD]; exact if_neg (fun h => by rw [hc] at h; exact Bool.false_ne_true h.2.1))
          have HE2 := Lib.hid (show errD l = 2 by rw [HE.out, HDn.out]; rfl)
          have HB2 := Lib.hid (show bunD l = zeroB by rw [HBn.out, HDn.out]; rfl)
          rw [hc] at hck
          clear hDD hXm hby hc
          go_wp2_with fail
          refine wp_region_noPanic ?_
          refine wp_region_held_drew (S := fun w' => Below wr.heap.size wr w') (by kernel_rfl) ((Below.refl _ _).drew) (fun hHeld => ?_)
          have hB := hHeld
          refine rtake 0 _ (some 50) _ rfl rfl (by kernel_rfl) (by kernel_rfl) (by kernel_rfl) (fun _ _ _ h => h) (by rfl) hHeld (by intro w hS; go_simp; try with_reducible rfl) ?_
          try (first | (rw [put_some]; dsimp only [List.set]) | rw [put_none])
          refine rtake 1 _ (some 51) _ rfl rfl (by kernel_rfl) (by kernel_rfl) (by kernel_rfl) (fun _ _ _ h => h) (by rfl) hHeld (by intro w hS; go_simp; try with_reducible rfl) ?_
          try (first | (rw [put_some]; dsimp only [List.set]) | rw [put_none])
          refine rtake 2 _ (some 52) _ rfl rfl (by kernel_rfl) (by kernel_rfl) (by kernel_rfl) (fun _ _ _ h => h) (by rfl) hHeld (by intro w hS; go_simp; try with_reducible rfl) ?_
          try (first | (rw [put_some]; dsimp only [List.set]) | rw [put_none])
          refine rtake 3 _ (some 53) _ rfl rfl (by kernel_rfl) (by kernel_rfl) (by kernel_rfl) (fun _ _ _ h => h) (by rfl) hHeld (by intro w hS; exact run_load_op 30 (.tmp 6) rfl _ 0 rfl VX _ (row_range (rX.later hS rX.lt)) Try.underlying30 rfl hzXl.out) ?_
          try (first | (rw [put_some]; dsimp only [List.set]) | rw [put_none])
          refine wpAnyH_ready (rs := [4]) (by kernel_rfl) (by simp) (AllReadyH.cons (o := _) rfl (fun K hK => ?_) AllReadyH.nil)
          go_simp
          refine (hck.out _ (hbX.later hB)).mono ?_; rintro e wwr4 ⟨rfl, hqwr4⟩
          try go_wp2_with fail
          refine hK.out _ _ (hHeld.trans (hqwr4.mono hHeld.size)) (fun hHeld' => ?_)
          clear hK K
          try (first | (rw [put_some]; dsimp only [List.set]) | rw [put_none])
          have hB := below_step hB hqwr4
          have hB4 : Below wwr4.heap.size wwr4 wwr4 := Below.refl _ _
          refine wpAnyH_narrow (S' := fun w' => Below wwr4.heap.size wwr4 w') (fun _ h => (hHeld.trans (hqwr4.mono hHeld.size)).trans (h.mono (hHeld.trans (hqwr4.mono hHeld.size)).size)) _ _ _ _ ?_
          clear hHeld
          have hHeld : Below wwr4.heap.size wwr4 wwr4 := Below.refl _ _
          refine rtake 5 _ (some 55) _ rfl rfl (by kernel_rfl) (by kernel_rfl) (by kernel_rfl) (fun _ _ _ h => h) (by rfl) hHeld (by intro w hS; go_simp; try with_reducible rfl) ?_
          try (first | (rw [put_some]; dsimp only [List.set]) | rw [put_none])
          refine rtake 6 _ (some 56) _ rfl rfl (by kernel_rfl) (by kernel_rfl) (by kernel_rfl) (fun _ _ _ h => h) (by rfl) hHeld (by intro w hS; go_simp; try with_reducible rfl) ?_
          try (first | (rw [put_some]; dsimp only [List.set]) | rw [put_none])
          refine rtake 7 _ (some 57) _ rfl rfl (by kernel_rfl) (by kernel_rfl) (by kernel_rfl) (fun _ _ _ h => h) (by rfl) hHeld (by intro w hS; go_simp; try with_reducible rfl) ?_
          try (first | (rw [put_some]; dsimp only [List.set]) | rw [put_none])
          refine rskip 8 _ (some 58) rfl rfl (by kernel_rfl) (by kernel_rfl) (by kernel_rfl) (fun _ _ _ h => h) (by rfl) hHeld ?_
          try (first | (rw [put_some]; dsimp only [List.set]) | rw [put_none])
          refine rskip 9 _ (some 59) rfl rfl (by kernel_rfl) (by kernel_rfl) (by kernel_rfl) (fun _ _ _ h => h) (by rfl) hHeld ?_
          try (first | (rw [put_some]; dsimp only [List.set]) | rw [put_none])
          refine rskip 10 _ (some 60) rfl rfl (by kernel_rfl) (by kernel_rfl) (by kernel_rfl) (fun _ _ _ h => h) (by rfl) hHeld ?_
          try (first | (rw [put_some]; dsimp only [List.set]) | rw [put_none])
          refine rskip 11 _ (some 61) rfl rfl (by kernel_rfl) (by kernel_rfl) (by kernel_rfl) (fun _ _ _ h => h) (by rfl) hHeld ?_
          try (first | (rw [put_some]; dsimp only [List.set]) | rw [put_none])
          refine rskip 12 _ (some 62) rfl rfl (by kernel_rfl) (by kernel_rfl) (by kernel_rfl) (fun _ _ _ h => h) (by rfl) hHeld ?_
          try (first | (rw [put_some]; dsimp only [List.set]) | rw [put_none])
          refine rskip 13 _ (some 63) rfl rfl (by kernel_rfl) (by kernel_rfl) (by kernel_rfl) (fun _ _ _ h => h) (by rfl) hHeld ?_
          try (first | (rw [put_some]; dsimp only [List.set]) | rw [put_none])
          refine rtake 14 _ (some 64) _ rfl rfl (by kernel_rfl) (by kernel_rfl) (by kernel_rfl) (fun _ _ _ h => h) (by rfl) hHeld (by intro w hS; go_simp; try with_reducible rfl) ?_
          try (first | (rw [put_some]; dsimp only [List.set]) | rw [put_none])
          refine wpAnyH_done (by kernel_rfl) ?_ _
          refine NoPanic.normal ?_
          have hbwN := hbw.trans (hB.mono hbw.size)
          have rzN := Row.later (show Row wr w.heap.size 30 Z from RZ.out) hB (Row.lt RZ.out)
          have rXN := rX.later hB rX.lt
          have hbXN := hbX.later hB
          clear hHeld hB
          generalize wwr4 = wN at *
          have RZ := Lib.hid (show wN.heap[w.heap.size]? = some (.cells Z.toArray 30 (0, 0)) from rzN)
          clear rzN
          go_wp2_with (first
              | (with_reducible refine wpList_store_row rfl 30 (.tmp 2) (.tmp 65) rfl w.heap.size _ rfl rfl 30 Z.toArray RZ.out (by kernel_rfl) (Eq.trans h37Z.out.symm (by kernel_rfl)) (by kernel_rfl) ?_; refine Hid.out ?_))
          refine Lib.hid ?_
          generalize hw9 : World.setRow _ _ _ = w9
          obtain ⟨r9, hg9⟩ := row_set (xs := [Value.int .u64 0, .string { data := #[] }, .slice none 0 0, .bool false, .int .u8 0, .int .u8 0, .int .u8 0, .int .u8 0, .int .u8 0, .int .u8 0, .int .u8 0, .int .u8 0, .int .u8 0, .int .u8 0, .int .u8 0, .int .u8 0, .int .u8 0, .int .u8 0, .int .u8 0, .int .u8 0, .int .u8 0, .int .u8 0, .int .u8 0, .int .u8 0, .int .u8 0, .int .u8 0, .int .u8 0, .int .u8 0, .int .u8 0, .int .u8 0, .int .u8 0, .int .u8 0, .int .u8 0, .int .u8 0, .int .u8 0, .int .u8 0, .slice none 0 0]) (show Row _ w.heap.size 30 Z from RZ.out) hw9
          rw [← zbun, ← HZ.out] at r9
          have R9 := Lib.hid (show w9.heap[w.heap.size]? = some (.cells Z.toArray 30 (0, 0)) from r9)
          have hb9 := hbwN.grown hg9 hbwN.size (fun k h => by cases h; exact Nat.le_refl _)
          clear hw9 r9 hg9
          go_wp2_with fail
          exact ⟨rfl, _, results_row_tmp rfl _ _ w.heap.size 30 Z.toArray (0, 0) _ rfl R9.out Try.underlying30 rfl hzK.out _ rfl, .agg Z.toArray, by rw [HE2.out]; rfl, by rw [HZ.out, HB2.out]; exact BunV.zero _ _, hb9⟩
        | true =>
          rw [hc] at hck
          have hbyc := Lib.hid (hby.out hc (hXm rfl))
          obtain ⟨J, hJ⟩ : ∃ J, J = bytesB X := ⟨_, rfl⟩
          rw [← hJ] at hbyc hDD
          by_cases hq : J = l
          · have HDn := Lib.hid (show decB l = some X by rw [hDD]; exact if_pos ⟨rfl, hc, hq⟩)
            have HE2 := Lib.hid (show errD l = 0 by rw [HE.out, HDn.out]; rfl)
            have HB2 := Lib.hid (show bunD l = X by rw [HBn.out, HDn.out]; rfl)
            have hbe : ((bstr J).toList == (bstr l).toList) = true := by rw [bstr_beq]; exact decide_eq_true hq
            obtain ⟨UJ, hUJ⟩ : ∃ U, U = bstr J := ⟨_, rfl⟩
            obtain ⟨UL, hUL⟩ : ∃ U, U = bstr l := ⟨_, rfl⟩
            rw [← hUJ, ← hUL] at hbe
            have HUJ := Lib.hid hUJ
            have HUL := Lib.hid hUL
            clear hDD hXm hby hc hJ hq hUJ hUL
            go_wp2_with fail
            refine wp_region_noPanic ?_
            refine wp_region_held_drew (S := fun w' => Below wr.heap.size wr w') (by kernel_rfl) ((Below.refl _ _).drew) (fun hHeld => ?_)
            have hB := hHeld
            refine rtake 0 _ (some 50) _ rfl rfl (by kernel_rfl) (by kernel_rfl) (by kernel_rfl) (fun _ _ _ h => h) (by rfl) hHeld (by intro w hS; go_simp; try with_reducible rfl) ?_
            try (first | (rw [put_some]; dsimp only [List.set]) | rw [put_none])
            refine rtake 1 _ (some 51) _ rfl rfl (by kernel_rfl) (by kernel_rfl) (by kernel_rfl) (fun _ _ _ h => h) (by rfl) hHeld (by intro w hS; go_simp; try with_reducible rfl) ?_
            try (first | (rw [put_some]; dsimp only [List.set]) | rw [put_none])
            refine rtake 2 _ (some 52) _ rfl rfl (by kernel_rfl) (by kernel_rfl) (by kernel_rfl) (fun _ _ _ h => h) (by rfl) hHeld (by intro w hS; go_simp; try with_reducible rfl) ?_
            try (first | (rw [put_some]; dsimp only [List.set]) | rw [put_none])
            refine rtake 3 _ (some 53) _ rfl rfl (by kernel_rfl) (by kernel_rfl) (by kernel_rfl) (fun _ _ _ h => h) (by rfl) hHeld (by intro w hS; exact run_load_op 30 (.tmp 6) rfl _ 0 rfl VX _ (row_range (rX.later hS rX.lt)) Try.underlying30 rfl hzXl.out) ?_
            try (first | (rw [put_some]; dsimp only [List.set]) | rw [put_none])
            refine wpAnyH_ready (rs := [4]) (by kernel_rfl) (by simp) (AllReadyH.cons (o := _) rfl (fun K hK => ?_) AllReadyH.nil)
            go_simp
            refine (hck.out _ (hbX.later hB)).mono ?_; rintro e wwr4 ⟨rfl, hqwr4⟩
            try go_wp2_with fail
            refine hK.out _ _ (hHeld.trans (hqwr4.mono hHeld.size)) (fun hHeld' => ?_)
            clear hK K
            try (first | (rw [put_some]; dsimp only [List.set]) | rw [put_none])
            have hB := below_step hB hqwr4
            have hB4 : Below wwr4.heap.size wwr4 wwr4 := Below.refl _ _
            refine wpAnyH_narrow (S' := fun w' => Below wwr4.heap.size wwr4 w') (fun _ h => (hHeld.trans (hqwr4.mono hHeld.size)).trans (h.mono (hHeld.trans (hqwr4.mono hHeld.size)).size)) _ _ _ _ ?_
            clear hHeld
            have hHeld : Below wwr4.heap.size wwr4 wwr4 := Below.refl _ _
            refine rtake 5 _ (some 55) _ rfl rfl (by kernel_rfl) (by kernel_rfl) (by kernel_rfl) (fun _ _ _ h => h) (by rfl) hHeld (by intro w hS; go_simp; try with_reducible rfl) ?_
            try (first | (rw [put_some]; dsimp only [List.set]) | rw [put_none])
            refine rtake 6 _ (some 56) _ rfl rfl (by kernel_rfl) (by kernel_rfl) (by kernel_rfl) (fun _ _ _ h => h) (by rfl) hHeld (by intro w hS; go_simp; try with_reducible rfl) ?_
            try (first | (rw [put_some]; dsimp only [List.set]) | rw [put_none])
            refine rtake 7 _ (some 57) _ rfl rfl (by kernel_rfl) (by kernel_rfl) (by kernel_rfl) (fun _ _ _ h => h) (by rfl) hHeld (by intro w hS; go_simp; try with_reducible rfl) ?_
            try (first | (rw [put_some]; dsimp only [List.set]) | rw [put_none])
            refine rtake 8 _ (some 58) _ rfl rfl (by kernel_rfl) (by kernel_rfl) (by kernel_rfl) (fun _ _ _ h => h) (by rfl) hHeld (by intro w hS; exact run_load_op 30 (.tmp 6) rfl _ 0 rfl VX _ (row_range ((rX.later hB rX.lt).later hS (rX.later hB rX.lt).lt)) Try.underlying30 rfl hzXl.out) ?_
            try (first | (rw [put_some]; dsimp only [List.set]) | rw [put_none])
            refine rtake 11 _ (some 61) _ rfl rfl (by kernel_rfl) (by kernel_rfl) (by kernel_rfl) (fun _ _ _ h => h) (by rfl) hHeld (by intro w hS; go_simp; try with_reducible rfl) ?_
            try (first | (rw [put_some]; dsimp only [List.set]) | rw [put_none])
            have hcv12 := conv_later (hsr.later (Nat.le_refl _) hB) l.length rfl
            rw [← HUL.out] at hcv12
            refine rtake 12 _ (some 62) _ rfl rfl (by kernel_rfl) (by kernel_rfl) (by kernel_rfl) (fun _ _ _ h => h) (by rfl) hHeld (by intro w hS; go_simp; try with_reducible rfl) ?_
            try (first | (rw [put_some]; dsimp only [List.set]) | rw [put_none])
            refine wpAnyH_ready (rs := [9]) (by kernel_rfl) (by simp) (AllReadyH.cons (o := _) rfl (fun K hK => ?_) AllReadyH.nil)
            go_simp
            refine (hbyc.out _ (hbX.later hB)).mono ?_; rintro e wwr9 ⟨v9, rfl, hown9, hqwr9⟩; obtain ⟨A9, c9, rfl, _, hsl9⟩ := Sl.of_own hown9
            try go_wp2_with fail
            refine hK.out _ _ (hHeld.trans (hqwr9.mono hHeld.size)) (fun hHeld' => ?_)
            clear hK K
            try (first | (rw [put_some]; dsimp only [List.set]) | rw [put_none])
            have hB := below_step hB hqwr9
            have hB4 := below_step hB4 hqwr9
            have hB9 : Below wwr9.heap.size wwr9 wwr9 := Below.refl _ _
            refine wpAnyH_narrow (S' := fun w' => Below wwr9.heap.size wwr9 w') (fun _ h => (hHeld.trans (hqwr9.mono hHeld.size)).trans (h.mono (hHeld.trans (hqwr9.mono hHeld.size)).size)) _ _ _ _ ?_
            clear hHeld
            have hHeld : Below wwr9.heap.size wwr9 wwr9 := Below.refl _ _
            have hcv10 := conv_later hsl9 J.length rfl
            rw [← HUJ.out] at hcv10
            refine rtake 10 _ (some 60) _ rfl rfl (by kernel_rfl) (by kernel_rfl) (by kernel_rfl) (fun _ _ _ h => h) (by rfl) hHeld (by intro w hS; go_simp; try with_reducible rfl) ?_
            try (first | (rw [put_some]; dsimp only [List.set]) | rw [put_none])
            refine rtake 13 _ (some 63) _ rfl rfl (by kernel_rfl) (by kernel_rfl) (by kernel_rfl) (fun _ _ _ h => h) (by rfl) hHeld (by intro w hS; go_simp; try with_reducible rfl) ?_
            try (first | (rw [put_some]; dsimp only [List.set]) | rw [put_none])
            refine rtake 14 _ (some 64) _ rfl rfl (by kernel_rfl) (by kernel_rfl) (by kernel_rfl) (fun _ _ _ h => h) (by rfl) hHeld (by intro w hS; go_simp; try with_reducible rfl) ?_
            try (first | (rw [put_some]; dsimp only [List.set]) | rw [put_none])
            refine wpAnyH_done (by kernel_rfl) ?_ _
            refine NoPanic.normal ?_
            have hbwN := hbw.trans (hB.mono hbw.size)
            have rzN := Row.later (show Row wr w.heap.size 30 Z from RZ.out) hB (Row.lt RZ.out)
            have rXN := rX.later hB rX.lt
            have hbXN := hbX.later hB
            clear hHeld hB
            generalize wwr9 = wN at *
            have RZ := Lib.hid (show wN.heap[w.heap.size]? = some (.cells Z.toArray 30 (0, 0)) from rzN)
            clear rzN
            have RX := Lib.hid (show wN.heap[g]? = some (.cells VX.toArray 30 (0, 0)) from rXN)
            go_wp2_with (first
                | (with_reducible refine wpList_load_row rfl 30 (.tmp 6) rfl g rfl 30 VX.toArray (0, 0) _ RX.out Try.underlying30 rfl hzX.out ?_)
                | (with_reducible refine wpList_store_row rfl 30 (.tmp 2) (.tmp 66) rfl w.heap.size VX.toArray rfl rfl 30 Z.toArray RZ.out hzX.out (Eq.trans h37Z.out.symm h37X.out) honeX.out ?_; refine Hid.out ?_))
            refine Lib.hid ?_
            generalize hw9 : World.setRow _ _ _ = w9
            obtain ⟨r9, hg9⟩ := row_set (xs := VX) (show Row _ w.heap.size 30 Z from RZ.out) hw9
            have R9 := Lib.hid (show w9.heap[w.heap.size]? = some (.cells VX.toArray 30 (0, 0)) from r9)
            have hb9 := hbwN.grown hg9 hbwN.size (fun k h => by cases h; exact Nat.le_refl _)
            have hbX9 := hbXN.set hg9 (Nat.lt_succ_self _)
            clear hw9 r9 hg9
            go_wp2_with fail
            exact ⟨rfl, _, results_row_tmp rfl _ _ w.heap.size 30 VX.toArray (0, 0) _ rfl R9.out Try.underlying30 rfl hzX.out _ rfl, .agg VX.toArray, by rw [HE2.out]; rfl, by rw [HB2.out]; exact hbX9, hb9⟩
          · have HDn := Lib.hid (show decB l = none by rw [hDD]; exact if_neg (fun h => hq h.2.2))
            have HE2 := Lib.hid (show errD l = 2 by rw [HE.out, HDn.out]; rfl)
            have HB2 := Lib.hid (show bunD l = zeroB by rw [HBn.out, HDn.out]; rfl)
            have hbe : ((bstr J).toList == (bstr l).toList) = false := by rw [bstr_beq]; exact decide_eq_false hq
            obtain ⟨UJ, hUJ⟩ : ∃ U, U = bstr J := ⟨_, rfl⟩
            obtain ⟨UL, hUL⟩ : ∃ U, U = bstr l := ⟨_, rfl⟩
            rw [← hUJ, ← hUL] at hbe
            have HUJ := Lib.hid hUJ
            have HUL := Lib.hid hUL
            clear hDD hXm hby hc hJ hq hUJ hUL
            go_wp2_with fail
            refine wp_region_noPanic ?_
            refine wp_region_held_drew (S := fun w' => Below wr.heap.size wr w') (by kernel_rfl) ((Below.refl _ _).drew) (fun hHeld => ?_)
            have hB := hHeld
            refine rtake 0 _ (some 50) _ rfl rfl (by kernel_rfl) (by kernel_rfl) (by kernel_rfl) (fun _ _ _ h => h) (by rfl) hHeld (by intro w hS; go_simp; try with_reducible rfl) ?_
            try (first | (rw [put_some]; dsimp only [List.set]) | rw [put_none])
            refine rtake 1 _ (some 51) _ rfl rfl (by kernel_rfl) (by kernel_rfl) (by kernel_rfl) (fun _ _ _ h => h) (by rfl) hHeld (by intro w hS; go_simp; try with_reducible rfl) ?_
            try (first | (rw [put_some]; dsimp only [List.set]) | rw [put_none])
            refine rtake 2 _ (some 52) _ rfl rfl (by kernel_rfl) (by kernel_rfl) (by kernel_rfl) (fun _ _ _ h => h) (by rfl) hHeld (by intro w hS; go_simp; try with_reducible rfl) ?_
            try (first | (rw [put_some]; dsimp only [List.set]) | rw [put_none])
            refine rtake 3 _ (some 53) _ rfl rfl (by kernel_rfl) (by kernel_rfl) (by kernel_rfl) (fun _ _ _ h => h) (by rfl) hHeld (by intro w hS; exact run_load_op 30 (.tmp 6) rfl _ 0 rfl VX _ (row_range (rX.later hS rX.lt)) Try.underlying30 rfl hzXl.out) ?_
            try (first | (rw [put_some]; dsimp only [List.set]) | rw [put_none])
            refine wpAnyH_ready (rs := [4]) (by kernel_rfl) (by simp) (AllReadyH.cons (o := _) rfl (fun K hK => ?_) AllReadyH.nil)
            go_simp
            refine (hck.out _ (hbX.later hB)).mono ?_; rintro e wwr4 ⟨rfl, hqwr4⟩
            try go_wp2_with fail
            refine hK.out _ _ (hHeld.trans (hqwr4.mono hHeld.size)) (fun hHeld' => ?_)
            clear hK K
            try (first | (rw [put_some]; dsimp only [List.set]) | rw [put_none])
            have hB := below_step hB hqwr4
            have hB4 : Below wwr4.heap.size wwr4 wwr4 := Below.refl _ _
            refine wpAnyH_narrow (S' := fun w' => Below wwr4.heap.size wwr4 w') (fun _ h => (hHeld.trans (hqwr4.mono hHeld.size)).trans (h.mono (hHeld.trans (hqwr4.mono hHeld.size)).size)) _ _ _ _ ?_
            clear hHeld
            have hHeld : Below wwr4.heap.size wwr4 wwr4 := Below.refl _ _
            refine rtake 5 _ (some 55) _ rfl rfl (by kernel_rfl) (by kernel_rfl) (by kernel_rfl) (fun _ _ _ h => h) (by rfl) hHeld (by intro w hS; go_simp; try with_reducible rfl) ?_
            try (first | (rw [put_some]; dsimp only [List.set]) | rw [put_none])
            refine rtake 6 _ (some 56) _ rfl rfl (by kernel_rfl) (by kernel_rfl) (by kernel_rfl) (fun _ _ _ h => h) (by rfl) hHeld (by intro w hS; go_simp; try with_reducible rfl) ?_
            try (first | (rw [put_some]; dsimp only [List.set]) | rw [put_none])
            refine rtake 7 _ (some 57) _ rfl rfl (by kernel_rfl) (by kernel_rfl) (by kernel_rfl) (fun _ _ _ h => h) (by rfl) hHeld (by intro w hS; go_simp; try with_reducible rfl) ?_
            try (first | (rw [put_some]; dsimp only [List.set]) | rw [put_none])
            refine rtake 8 _ (some 58) _ rfl rfl (by kernel_rfl) (by kernel_rfl) (by kernel_rfl) (fun _ _ _ h => h) (by rfl) hHeld (by intro w hS; exact run_load_op 30 (.tmp 6) rfl _ 0 rfl VX _ (row_range ((rX.later hB rX.lt).later hS (rX.later hB rX.lt).lt)) Try.underlying30 rfl hzXl.out) ?_
            try (first | (rw [put_some]; dsimp only [List.set]) | rw [put_none])
            refine rtake 11 _ (some 61) _ rfl rfl (by kernel_rfl) (by kernel_rfl) (by kernel_rfl) (fun _ _ _ h => h) (by rfl) hHeld (by intro w hS; go_simp; try with_reducible rfl) ?_
            try (first | (rw [put_some]; dsimp only [List.set]) | rw [put_none])
            have hcv12 := conv_later (hsr.later (Nat.le_refl _) hB) l.length rfl
            rw [← HUL.out] at hcv12
            refine rtake 12 _ (some 62) _ rfl rfl (by kernel_rfl) (by kernel_rfl) (by kernel_rfl) (fun _ _ _ h => h) (by rfl) hHeld (by intro w hS; go_simp; try with_reducible rfl) ?_
            try (first | (rw [put_some]; dsimp only [List.set]) | rw [put_none])
            refine wpAnyH_ready (rs := [9]) (by kernel_rfl) (by simp) (AllReadyH.cons (o := _) rfl (fun K hK => ?_) AllReadyH.nil)
            go_simp
            refine (hbyc.out _ (hbX.later hB)).mono ?_; rintro e wwr9 ⟨v9, rfl, hown9, hqwr9⟩; obtain ⟨A9, c9, rfl, _, hsl9⟩ := Sl.of_own hown9
            try go_wp2_with fail
            refine hK.out _ _ (hHeld.trans (hqwr9.mono hHeld.size)) (fun hHeld' => ?_)
            clear hK K
            try (first | (rw [put_some]; dsimp only [List.set]) | rw [put_none])
            have hB := below_step hB hqwr9
            have hB4 := below_step hB4 hqwr9
            have hB9 : Below wwr9.heap.size wwr9 wwr9 := Below.refl _ _
            refine wpAnyH_narrow (S' := fun w' => Below wwr9.heap.size wwr9 w') (fun _ h => (hHeld.trans (hqwr9.mono hHeld.size)).trans (h.mono (hHeld.trans (hqwr9.mono hHeld.size)).size)) _ _ _ _ ?_
            clear hHeld
            have hHeld : Below wwr9.heap.size wwr9 wwr9 := Below.refl _ _
            have hcv10 := conv_later hsl9 J.length rfl
            rw [← HUJ.out] at hcv10
            refine rtake 10 _ (some 60) _ rfl rfl (by kernel_rfl) (by kernel_rfl) (by kernel_rfl) (fun _ _ _ h => h) (by rfl) hHeld (by intro w hS; go_simp; try with_reducible rfl) ?_
            try (first | (rw [put_some]; dsimp only [List.set]) | rw [put_none])
            refine rtake 13 _ (some 63) _ rfl rfl (by kernel_rfl) (by kernel_rfl) (by kernel_rfl) (fun _ _ _ h => h) (by rfl) hHeld (by intro w hS; go_simp; try with_reducible rfl) ?_
            try (first | (rw [put_some]; dsimp only [List.set]) | rw [put_none])
            refine rtake 14 _ (some 64) _ rfl rfl (by kernel_rfl) (by kernel_rfl) (by kernel_rfl) (fun _ _ _ h => h) (by rfl) hHeld (by intro w hS; go_simp; try with_reducible rfl) ?_
            try (first | (rw [put_some]; dsimp only [List.set]) | rw [put_none])
            refine wpAnyH_done (by kernel_rfl) ?_ _
            refine NoPanic.normal ?_
            have hbwN := hbw.trans (hB.mono hbw.size)
            have rzN := Row.later (show Row wr w.heap.size 30 Z from RZ.out) hB (Row.lt RZ.out)
            have rXN := rX.later hB rX.lt
            have hbXN := hbX.later hB
            clear hHeld hB
            generalize wwr9 = wN at *
            have RZ := Lib.hid (show wN.heap[w.heap.size]? = some (.cells Z.toArray 30 (0, 0)) from rzN)
            clear rzN
            go_wp2_with (first
                | (with_reducible refine wpList_store_row rfl 30 (.tmp 2) (.tmp 65) rfl w.heap.size _ rfl rfl 30 Z.toArray RZ.out (by kernel_rfl) (Eq.trans h37Z.out.symm (by kernel_rfl)) (by kernel_rfl) ?_; refine Hid.out ?_))
            refine Lib.hid ?_
            generalize hw9 : World.setRow _ _ _ = w9
            obtain ⟨r9, hg9⟩ := row_set (xs := [Value.int .u64 0, .string { data := #[] }, .slice none 0 0, .bool false, .int .u8 0, .int .u8 0, .int .u8 0, .int .u8 0, .int .u8 0, .int .u8 0, .int .u8 0, .int .u8 0, .int .u8 0, .int .u8 0, .int .u8 0, .int .u8 0, .int .u8 0, .int .u8 0, .int .u8 0, .int .u8 0, .int .u8 0, .int .u8 0, .int .u8 0, .int .u8 0, .int .u8 0, .int .u8 0, .int .u8 0, .int .u8 0, .int .u8 0, .int .u8 0, .int .u8 0, .int .u8 0, .int .u8 0, .int .u8 0, .int .u8 0, .int .u8 0, .slice none 0 0]) (show Row _ w.heap.size 30 Z from RZ.out) hw9
            rw [← zbun, ← HZ.out] at r9
            have R9 := Lib.hid (show w9.heap[w.heap.size]? = some (.cells Z.toArray 30 (0, 0)) from r9)
            have hb9 := hbwN.grown hg9 hbwN.size (fun k h => by cases h; exact Nat.le_refl _)
            clear hw9 r9 hg9
            go_wp2_with fail
            exact ⟨rfl, _, results_row_tmp rfl _ _ w.heap.size 30 Z.toArray (0, 0) _ rfl R9.out Try.underlying30 rfl hzK.out _ rfl, .agg Z.toArray, by rw [HE2.out]; rfl, by rw [HZ.out, HB2.out]; exact BunV.zero _ _, hb9⟩
end Go.Proofs.Ythiebbhooigogaa

/- LAYER 11: slices.EqualFunc of tokens, package bundle's Same, the document's Same. -/
namespace Go.Proofs.Ythiebbhooigogaa
open Go Go.RowKit

theorem take_same_of {α : Type} {xs ys : List α} {k : Nat} {a : α} (h : xs.take k = ys.take k) (ha : xs[k]? = some a) (hb : ys[k]? = some a) : xs.take (k + 1) = ys.take (k + 1) := by
  rw [List.take_add_one, List.take_add_one, h, ha, hb]
set_option maxRecDepth 20000 in
set_option maxHeartbeats 2000000 in
theorem beqf_any (ds es : List Dis) (hok : ∀ d ∈ toks ds, d.Ok) (hoke : ∀ d ∈ toks es, d.Ok) (hfit : ∀ d ∈ toks ds, d.Fit) (A : Option Addr) (c : Nat) (B : Option Addr) (d : Nat) (w : World) (hp : Bs w A c ds) (hq : Bs w B d es) (hcl : ds.length ≤ 9223372036854775807) :
    Calls Try.prog 31 #[.slice A ds.length c, .slice B es.length d, .func (.func 30) #[] #[]] w fun e w' => e = .returned (.bool (decide (toks ds = toks es))) ∧ Below w.heap.size w w' := by
  have hml : (toks ds).length = ds.length := toks_len ds
  have hne : (toks es).length = es.length := toks_len es
  by_cases hL : ds.length = es.length
  · rw [← hL]
    have HL := Lib.hid hL
    have HML := Lib.hid hml
    have HNE := Lib.hid hne
    clear hL hml hne
    obtain ⟨R, hR⟩ : ∃ R, R = decide (toks ds = toks es) := ⟨_, rfl⟩
    rw [← hR]
    have HR := Lib.hid hR
    clear hR
    go_enter Try.func31, Try.ntmps31
    go_wp2_with fail
    go_loopw [17] (fun i wr => ∃ k : Nat, k ≤ ds.length ∧ i = .int .i64 k ∧ (toks ds).take k = (toks es).take k ∧ Below w.heap.size w wr) (fun i _ => ds.length - (intOf i).toNat)
    case atStart => exact ⟨0, by omega, rfl, rfl, Below.refl _ _⟩
    case round =>
      obtain ⟨k, hk, rfl, hsame, hb⟩ := hrel
      by_cases hlt : k < ds.length
      · obtain ⟨a, ha⟩ : ∃ a, ds[k]? = some a := ⟨_, List.getElem?_eq_getElem hlt⟩
        obtain ⟨f, hf⟩ : ∃ f, es[k]? = some f := ⟨_, List.getElem?_eq_getElem (by have := HL.out; omega)⟩
        obtain ⟨b1, o1, rfl⟩ := hp.nonil hok hlt
        obtain ⟨b2, o2, rfl⟩ := hq.nonil hoke (k := k) (by have := HL.out; omega)
        have hix := index_tok (some ⟨b1, o1, none⟩) b1 o1 ds.length c k rfl hlt
        have hiy := index_tok (some ⟨b2, o2, none⟩) b2 o2 ds.length d k rfl hlt
        have hrx := (hp.sl.later (Nat.le_refl _) hb).thing (k := 36) (dis_ok hok) k a ha
        have hsya := (hq.each f (List.mem_of_getElem? hf))
        have hsxa := (hp.each a (List.mem_of_getElem? ha))
        have hry0 := hq.sl.thing (k := 36) (dis_ok hoke) k f hf
        have hry : ∀ w', Below w.heap.size w w' → w'.rangeAt b2 (o2 + k * 36) (disV f) := fun w' h => (hq.sl.later (Nat.le_refl _) h).thing (k := 36) (dis_ok hoke) k f hf
        clear hry0
        have hma := List.mem_of_getElem? (toks_get ha)
        have hsm := Lib.hid (fun w' h1 h2 => psame_any a.1 f.1 (hok _ hma) (hoke _ (List.mem_of_getElem? (toks_get hf))) a.2.1 a.2.2 f.2.1 f.2.2 w' h1 h2 (hfit _ hma).many)
        have HS := Lib.hid (show a.1 = f.1 → (toks ds).take (k + 1) = (toks es).take (k + 1) from fun e => take_same_of hsame (toks_get ha) (by rw [e]; exact toks_get hf))
        have HN := Lib.hid (show a.1 ≠ f.1 → R = false from fun e => by
          rw [HR.out]
          refine decide_eq_false (fun h => e ?_)
          have h1 := toks_get ha
          rw [h, toks_get hf] at h1
          exact (Option.some.inj h1).symm)
        have hlVX := length_disV (hok a.1 (List.mem_of_getElem? (toks_get ha)))
        have hofVX : ∀ v ∈ disV a, v.oneCell' = true := fun v hv => disV_one [a] v (by simpa using hv)
        obtain ⟨VX, hqVX⟩ : ∃ V, V = disV a := ⟨_, rfl⟩
        rw [← hqVX] at hlVX hrx hofVX
        have hzVX := Lib.hid (show (Try.prog.info? 27).map (·.size) = some VX.length by rw [size_tok, hlVX])
        have hzVXa := Lib.hid (show (Try.prog.info? 27).map (·.size) = some VX.toArray.size by rw [size_tok, List.size_toArray, hlVX])
        have hoVX := Lib.hid (all_one hofVX)
        have h36VX := Lib.hid (show (36 : Nat) = VX.toArray.size by rw [List.size_toArray, hlVX])
        have hlVY := length_disV (hoke f.1 (List.mem_of_getElem? (toks_get hf)))
        have hofVY : ∀ v ∈ disV f, v.oneCell' = true := fun v hv => disV_one [f] v (by simpa using hv)
        obtain ⟨VY, hqVY⟩ : ∃ V, V = disV f := ⟨_, rfl⟩
        rw [← hqVY] at hlVY hry hofVY
        have hzVY := Lib.hid (show (Try.prog.info? 27).map (·.size) = some VY.length by rw [size_tok, hlVY])
        have hzVYa := Lib.hid (show (Try.prog.info? 27).map (·.size) = some VY.toArray.size by rw [size_tok, List.size_toArray, hlVY])
        have hoVY := Lib.hid (all_one hofVY)
        have h36VY := Lib.hid (show (36 : Nat) = VY.toArray.size by rw [List.size_toArray, hlVY])
        rw [show tokV a.1 a.2.1 a.2.2 = VX from hqVX.symm, show tokV f.1 f.2.1 f.2.2 = VY from hqVY.symm] at hsm
        have HRY := Lib.hid hry
        clear hqVX hqVY ha hf hsame hp hq hok hoke hfit hma hlVX hlVY hofVX hofVY hry
        go_wp2_with (first
            | (with_reducible refine wpList_load_mid rfl 27 (.tmp 20) rfl b1 (o1 + k * 36) rfl VX _ hrx Try.underlying27 rfl hzVX.out ?_)
            | (with_reducible refine wpList_store_row rfl 27 (.tmp 8) (.tmp 21) rfl wr.heap.size VX.toArray rfl rfl 27 _ (heap_alloc_new wr _) hzVXa.out (Eq.trans (by kernel_rfl) h36VX.out) hoVX.out ?_; refine Hid.out ?_))
        refine Lib.hid ?_
        generalize hw5 : World.setRow _ _ _ = w5
        obtain ⟨r5, hb5⟩ := row_new_set (xs := VX) hw5
        have hbw5 := hb.trans (hb5.mono hb.size)
        have hry := HRY.out _ hbw5
        clear hw5
        go_wp2_with (first
            | (with_reducible refine wpList_load_mid rfl 27 (.tmp 24) rfl b2 (o2 + k * 36) rfl VY _ hry Try.underlying27 rfl hzVY.out ?_)
            | (with_reducible refine wpList_store_row rfl 27 (.tmp 9) (.tmp 25) rfl w5.heap.size VY.toArray rfl rfl 27 _ (heap_alloc_new w5 _) hzVYa.out (Eq.trans (by kernel_rfl) h36VY.out) hoVY.out ?_; refine Hid.out ?_))
        refine Lib.hid ?_
        generalize hw6 : World.setRow _ _ _ = w6
        obtain ⟨r6, hb6⟩ := row_new_set (xs := VY) hw6
        have hbw6 := hbw5.trans (hb6.mono hbw5.size)
        have R5 := Lib.hid (show w6.heap[wr.heap.size]? = some (.cells VX.toArray 27 (0, 0)) from r5.later hb6 r5.lt)
        have R6 := Lib.hid (show w6.heap[w5.heap.size]? = some (.cells VY.toArray 27 (0, 0)) from r6)
        have hsx := hsxa.later (Nat.le_refl _) hbw6
        have hsy := hsya.later (Nat.le_refl _) hbw6
        clear hw6 hb5 hb6 r5 r6 hrx hry hsxa hsya hix hiy
        by_cases hae : a.1 = f.1
        · rw [decide_eq_true hae] at hsm
          have HF := Lib.hid (HS.out hae)
          clear hae HS HN
          go_wp2_with (first
              | (with_reducible refine wpList_load_row rfl 27 (.tmp 8) rfl wr.heap.size rfl 27 VX.toArray (0, 0) _ R5.out Try.underlying27 rfl hzVXa.out ?_)
              | (with_reducible refine wpList_load_row rfl 27 (.tmp 9) rfl w5.heap.size rfl 27 VY.toArray (0, 0) _ R6.out Try.underlying27 rfl hzVYa.out ?_)
              | (go_at_call 30; refine (hsm.out _ hsx hsy).mono ?_; rintro e w7 ⟨rfl, hb7⟩; have hbw7 := hbw6.trans (hb7.mono hbw6.size)))
          go_roundw
          case rel => exact ⟨k + 1, by omega, by go_num, HF.out, hbw7⟩
          case measure => simp [intOf]; omega
        · rw [decide_eq_false hae] at hsm
          have HF := Lib.hid (HN.out hae)
          clear hae HS HN
          go_wp2_with (first
              | (with_reducible refine wpList_load_row rfl 27 (.tmp 8) rfl wr.heap.size rfl 27 VX.toArray (0, 0) _ R5.out Try.underlying27 rfl hzVXa.out ?_)
              | (with_reducible refine wpList_load_row rfl 27 (.tmp 9) rfl w5.heap.size rfl 27 VY.toArray (0, 0) _ R6.out Try.underlying27 rfl hzVYa.out ?_)
              | (go_at_call 30; refine (hsm.out _ hsx hsy).mono ?_; rintro e w7 ⟨rfl, hb7⟩; have hbw7 := hbw6.trans (hb7.mono hbw6.size)))
          go_ret
          exact ⟨by rw [HF.out]; rfl, hbw7⟩
      · obtain rfl : k = ds.length := by omega
        have HF := Lib.hid (show R = true by
          rw [HR.out]
          refine decide_eq_true ?_
          have h1 := hsame
          rw [← HML.out, List.take_length, HML.out, HL.out, ← HNE.out, List.take_length] at h1
          exact h1)
        clear hlt hk hp hq hsame hok hoke hfit
        generalize ds.length = n at *
        go_wp2
        go_ret
        exact ⟨by rw [HF.out]; rfl, hb⟩
  · have HE := Lib.hid (show decide (toks ds = toks es) = false from decide_eq_false (fun h => hL (by rw [← hml, ← hne, h])))
    have hL' : ((ds.length : Int) == (es.length : Int)) = false := by rw [beq_eq_false_iff_ne]; omega
    clear hml hne hL hp hq hok hoke hfit
    rw [HE.out]
    generalize ds.length = n at *
    generalize es.length = m at *
    go_enter Try.func31, Try.ntmps31
    go_wp2
    go_ret
    exact ⟨rfl, Below.refl _ _⟩
set_option maxRecDepth 20000 in
set_option maxHeartbeats 2000000 in
theorem bsame_v {lo lo' : Nat} {b u : Bun} {w : World} {v v' : Value} (hb : b.Ok) (hu : u.Ok) (hf : b.Fit) (h1 : BunV lo b w v) (h2 : BunV lo' u w v') :
    Calls Try.prog 15 #[v, v'] w fun e w' => e = .returned (.bool (decide (b = u))) ∧ Below w.heap.size w w' := by
  obtain ⟨Ax, cx, Bx, dx, ds, rfl, hbx, hsx, hpx⟩ := h1.parts
  obtain ⟨Ay, cy, By, dy, es, rfl, hby, hsy, hpy⟩ := h2.parts
  have hdx := bunOf_dis hbx
  have hdy := bunOf_dis hby
  obtain ⟨r0, r1, hb1, _⟩ := two_rows (w := w) (A := bunV b.root Ax cx Bx ds.length dx) (B := bunV u.root Ay cy By es.length dy) (tA := 30) (tB := 30) rfl
  have hlt0 := r0.lt
  have hlt1 := r1.lt
  have hTx := row_bun_tok r0
  have hTy := row_bun_tok r1
  have hDx := fun w' (h : Below _ _ w') => row_bun_dis hb.root (r0.later h hlt0)
  have hDy := fun w' (h : Below _ _ w') => row_bun_dis hu.root (r1.later h hlt1)
  have hsx1 := hsx.later (Nat.le_refl _) hb1
  have hsy1 := hsy.later (Nat.le_refl _) hb1
  have hpx1 := hpx.later (Nat.le_refl _) hb1
  have hpy1 := hpy.later (Nat.le_refl _) hb1
  have hokx : ∀ e ∈ toks ds, e.Ok := by rw [← hdx]; exact hb.dis
  have hoky : ∀ e ∈ toks es, e.Ok := by rw [← hdy]; exact hu.dis
  have hlx := length_tokV hb.root Ax cx
  have hly := length_tokV hu.root Ay cy
  have hml : (toks ds).length = ds.length := toks_len ds
  have hne : (toks es).length = es.length := toks_len es
  have HEQ := Lib.hid (show decide (b = u) = (decide (b.root = u.root) && decide (toks ds = toks es)) by rw [← hdx, ← hdy, ← Bool.decide_and]; exact decide_eq_decide.2 (Bun.ext_iff' b u))
  have hdl : ds.length ≤ 9223372036854775807 := by rw [← hml, ← hdx]; exact hf.many
  have heqf := Lib.hid (fun w' p q => beqf_any ds es hokx hoky (by rw [← hdx]; exact hf.dis) Bx dx By dy w' p q hdl)
  have hsm := Lib.hid (fun w' p q => psame_any b.root u.root hb.root hu.root Ax cx Ay cy w' p q hf.root.many)
  rw [HEQ.out]
  obtain ⟨VT, hVT⟩ : ∃ V, V = tokV b.root Ax cx := ⟨_, rfl⟩
  obtain ⟨UT, hUT⟩ : ∃ V, V = tokV u.root Ay cy := ⟨_, rfl⟩
  generalize bunV b.root Ax cx Bx ds.length dx = V at *
  generalize bunV u.root Ay cy By es.length dy = U at *
  rw [← hVT] at hTx hlx hsm
  rw [← hUT] at hTy hly hsm
  have hzVT := Lib.hid (show (Try.prog.info? 27).map (·.size) = some VT.length by rw [size_tok, hlx])
  have hzUT := Lib.hid (show (Try.prog.info? 27).map (·.size) = some UT.length by rw [size_tok, hly])
  have hDx1 := hDx _ (Below.refl _ _)
  have hDy1 := hDy _ (Below.refl _ _)
  clear hVT hUT hlx hly r0 r1 hlt0 hlt1 hbx hby hdx hdy
  generalize decide (b.root = u.root) = RQ at *
  generalize decide (toks ds = toks es) = RD at *
  clear hsx hsy hpx hpy hml hne hdl
  generalize ds.length = n at *
  generalize es.length = m at *
  go_enter Try.func15, Try.ntmps15
  go_wp2_with (first
      | (with_reducible refine wpList_load_mid rfl 27 (.tmp 5) rfl w.heap.size 0 rfl VT _ hTx Try.underlying27 rfl hzVT.out ?_)
      | (with_reducible refine wpList_load_mid rfl 27 (.tmp 7) rfl (w.heap.size + 1) 0 rfl UT _ hTy Try.underlying27 rfl hzUT.out ?_)
      | (go_at_call 30; refine (hsm.out _ hsx1 hsy1).mono ?_; rintro e w6 ⟨rfl, hb6⟩; have hbw6 := hb1.trans (hb6.mono hb1.size); have cx6 := hDx _ hb6; have cy6 := hDy _ hb6; have px6 := hpx1.later (Nat.le_refl _) hb6; have py6 := hpy1.later (Nat.le_refl _) hb6; cases RQ)
      | (go_at_call 31; refine (heqf.out _ px6 py6).mono ?_; rintro e w7 ⟨rfl, hb7⟩; have hbw7 := hbw6.trans (hb7.mono hbw6.size)))
  all_goals go_ret
  · exact ⟨rfl, hbw6⟩
  · exact ⟨rfl, hbw7⟩
set_option maxRecDepth 20000 in
set_option maxHeartbeats 4000000 in
theorem rbsame_v {lo lo' : Nat} {b u : Bun} {w : World} {v v' : Value} (hb : b.Ok) (hu : u.Ok) (hf : b.Fit) (h1 : BunV lo b w v) (h2 : BunV lo' u w v') :
    Calls Try.prog 14 #[v, v'] w fun e w' => e = .returned (.bool (decide (b = u))) ∧ Below w.heap.size w w' := by
  obtain ⟨Ax, cx, Bx, dx, ds, rfl, hbx, hsx, hpx⟩ := h1.parts
  obtain ⟨Ay, cy, By, dy, es, rfl, hby, hsy, hpy⟩ := h2.parts
  have hdx := bunOf_dis hbx
  have hdy := bunOf_dis hby
  obtain ⟨r0, r1, hb1, _⟩ := two_rows (w := w) (A := bunV b.root Ax cx Bx ds.length dx) (B := bunV u.root Ay cy By es.length dy) (tA := 30) (tB := 30) rfl
  have hlt0 := r0.lt
  have hlt1 := r1.lt
  have hTx := row_bun_tok r0
  have hTy := row_bun_tok r1
  have hDx := fun w' (h : Below _ _ w') => row_bun_dis hb.root (r0.later h hlt0)
  have hDy := fun w' (h : Below _ _ w') => row_bun_dis hu.root (r1.later h hlt1)
  have hsx1 := hsx.later (Nat.le_refl _) hb1
  have hsy1 := hsy.later (Nat.le_refl _) hb1
  have hpx1 := hpx.later (Nat.le_refl _) hb1
  have hpy1 := hpy.later (Nat.le_refl _) hb1
  have hokx : ∀ e ∈ toks ds, e.Ok := by rw [← hdx]; exact hb.dis
  have hoky : ∀ e ∈ toks es, e.Ok := by rw [← hdy]; exact hu.dis
  have hlx := length_tokV hb.root Ax cx
  have hly := length_tokV hu.root Ay cy
  have hml : (toks ds).length = ds.length := toks_len ds
  have hne : (toks es).length = es.length := toks_len es
  have HEQ := Lib.hid (show decide (b = u) = (decide (b.root = u.root) && decide (toks ds = toks es)) by rw [← hdx, ← hdy, ← Bool.decide_and]; exact decide_eq_decide.2 (Bun.ext_iff' b u))
  have hdl : ds.length ≤ 9223372036854775807 := by rw [← hml, ← hdx]; exact hf.many
  have hsm := Lib.hid (fun w' p q => rsame_any b.root u.root hb.root hu.root Ax cx Ay cy w' p q hf.root.many)
  have hfit : ∀ e ∈ toks ds, e.Fit := by rw [← hdx]; exact hf.dis
  rw [HEQ.out]
  obtain ⟨VT, hVT⟩ : ∃ V, V = tokV b.root Ax cx := ⟨_, rfl⟩
  obtain ⟨UT, hUT⟩ : ∃ V, V = tokV u.root Ay cy := ⟨_, rfl⟩
  generalize bunV b.root Ax cx Bx ds.length dx = V at *
  generalize bunV u.root Ay cy By es.length dy = U at *
  rw [← hVT] at hTx hlx hsm
  rw [← hUT] at hTy hly hsm
  have hzVT := Lib.hid (show (Try.prog.info? 27).map (·.size) = some VT.length by rw [size_tok, hlx])
  have hzUT := Lib.hid (show (Try.prog.info? 27).map (·.size) = some UT.length by rw [size_tok, hly])
  have hDx1 := hDx _ (Below.refl _ _)
  have hDy1 := hDy _ (Below.refl _ _)
  clear hVT hUT hlx hly r0 r1 hlt0 hlt1 hbx hby hdx hdy
  obtain ⟨RQ, hRQ⟩ : ∃ R, R = decide (b.root = u.root) := ⟨_, rfl⟩
  rw [← hRQ] at hsm ⊢
  clear hRQ HEQ
  have HRD : ∃ R, R = decide (toks ds = toks es) := ⟨_, rfl⟩
  obtain ⟨R, hR⟩ := HRD
  rw [← hR]
  have HR := Lib.hid hR
  clear hR hb hu hf h1 h2
  cases RQ with
  | false =>
    generalize ds.length = n at *
    generalize es.length = m at *
    go_enter Try.func14, Try.ntmps14
    go_wp2_with (first
        | (with_reducible refine wpList_load_mid rfl 27 (.tmp 6) rfl w.heap.size 0 rfl VT _ hTx Try.underlying27 rfl hzVT.out ?_)
        | (with_reducible refine wpList_load_mid rfl 27 (.tmp 8) rfl (w.heap.size + 1) 0 rfl UT _ hTy Try.underlying27 rfl hzUT.out ?_)
        | (go_at_call 29; refine (hsm.out _ hsx1 hsy1).mono ?_; rintro e w6 ⟨rfl, hb6⟩; have hbw6 := hb1.trans (hb6.mono hb1.size); have cx6 := hDx _ hb6; have cy6 := hDy _ hb6; have px6 := hpx1.later (Nat.le_refl _) hb6; have py6 := hpy1.later (Nat.le_refl _) hb6))
    go_ret
    exact ⟨rfl, hbw6⟩
  | true =>
  rw [Bool.true_and]
  by_cases hL : ds.length = es.length
  · have HL := Lib.hid hL
    have HML := Lib.hid hml
    have HNE := Lib.hid hne
    rw [← hL] at hDy hDy1
    clear hL hml hne
    go_enter Try.func14, Try.ntmps14
    go_wp2_with (first
        | (with_reducible refine wpList_load_mid rfl 27 (.tmp 6) rfl w.heap.size 0 rfl VT _ hTx Try.underlying27 rfl hzVT.out ?_)
        | (with_reducible refine wpList_load_mid rfl 27 (.tmp 8) rfl (w.heap.size + 1) 0 rfl UT _ hTy Try.underlying27 rfl hzUT.out ?_)
        | (go_at_call 29; refine (hsm.out _ hsx1 hsy1).mono ?_; rintro e w6 ⟨rfl, hb6⟩; have hbw6 := hb1.trans (hb6.mono hb1.size); have cx6 := hDx _ hb6; have cy6 := hDy _ hb6; have px6 := hpx1.later (Nat.le_refl _) hb6; have py6 := hpy1.later (Nat.le_refl _) hb6))
    have hDx6 : ∀ w', Below w6.heap.size w6 w' → w'.cell? ⟨w.heap.size, 36, none⟩ = some (.slice Bx ds.length dx) := fun w' h => hDx _ (hb6.trans (h.mono hb6.size))
    have hDy6 : ∀ w', Below w6.heap.size w6 w' → w'.cell? ⟨w.heap.size + 1, 36, none⟩ = some (.slice By ds.length dy) := fun w' h => hDy _ (hb6.trans (h.mono hb6.size))
    clear hDx hDy hDx1 hDy1 hTx hTy hsx1 hsy1 hpx1 hpy1 hb6 cx6 cy6 hb1 hsx hsy hpx hpy
    go_loopw [24] (fun i wr => ∃ k : Nat, k ≤ ds.length ∧ i = .int .i64 k ∧ (toks ds).take k = (toks es).take k ∧ Below w6.heap.size w6 wr) (fun i _ => ds.length - (intOf i).toNat)
    case atStart => exact ⟨0, by omega, rfl, rfl, Below.refl _ _⟩
    case round =>
      obtain ⟨k, hk, rfl, hsame, hb⟩ := hrel
      by_cases hlt : k < ds.length
      · obtain ⟨a, ha⟩ : ∃ a, ds[k]? = some a := ⟨_, List.getElem?_eq_getElem hlt⟩
        obtain ⟨f, hf⟩ : ∃ f, es[k]? = some f := ⟨_, List.getElem?_eq_getElem (by have := HL.out; omega)⟩
        obtain ⟨b1, o1, rfl⟩ := px6.nonil hokx hlt
        obtain ⟨b2, o2, rfl⟩ := py6.nonil hoky (k := k) (by have := HL.out; omega)
        have hix := index_tok (some ⟨b1, o1, none⟩) b1 o1 ds.length dx k rfl hlt
        have hiy := index_tok (some ⟨b2, o2, none⟩) b2 o2 ds.length dy k rfl hlt
        have hcx : ∀ w', Below wr.heap.size wr w' → w'.cell? ⟨w.heap.size, 36, none⟩ = some (.slice (some ⟨b1, o1, none⟩) ds.length dx) := fun w' h => hDx6 _ (hb.trans (h.mono hb.size))
        have hcy : ∀ w', Below wr.heap.size wr w' → w'.cell? ⟨w.heap.size + 1, 36, none⟩ = some (.slice (some ⟨b2, o2, none⟩) ds.length dy) := fun w' h => hDy6 _ (hb.trans (h.mono hb.size))
        have hsxa := (px6.each a (List.mem_of_getElem? ha)).later (Nat.le_refl _) hb
        have hsya := (py6.each f (List.mem_of_getElem? hf)).later (Nat.le_refl _) hb
        have hrx : ∀ w', Below wr.heap.size wr w' → w'.rangeAt b1 (o1 + k * 36) (disV a) := fun w' h => (px6.sl.later (Nat.le_refl _) (hb.trans (h.mono hb.size))).thing (k := 36) (dis_ok hokx) k a ha
        have hry : ∀ w', Below wr.heap.size wr w' → w'.rangeAt b2 (o2 + k * 36) (disV f) := fun w' h => (py6.sl.later (Nat.le_refl _) (hb.trans (h.mono hb.size))).thing (k := 36) (dis_ok hoky) k f hf
        have hma := List.mem_of_getElem? (toks_get ha)
        have hsm := Lib.hid (fun w' h1 h2 => rsame_any a.1 f.1 (hokx _ hma) (hoky _ (List.mem_of_getElem? (toks_get hf))) a.2.1 a.2.2 f.2.1 f.2.2 w' h1 h2 (hfit _ hma).many)
        have HS := Lib.hid (show a.1 = f.1 → (toks ds).take (k + 1) = (toks es).take (k + 1) from fun e => take_same_of hsame (toks_get ha) (by rw [e]; exact toks_get hf))
        have HN := Lib.hid (show a.1 ≠ f.1 → R = false from fun e => by
          rw [HR.out]
          refine decide_eq_false (fun h => e ?_)
          have h1 := toks_get ha
          rw [h, toks_get hf] at h1
          exact (Option.some.inj h1).symm)
        have hlVX := length_disV (hokx a.1 (List.mem_of_getElem? (toks_get ha)))
        have hofVX : ∀ v ∈ disV a, v.oneCell' = true := fun v hv => disV_one [a] v (by simpa using hv)
        obtain ⟨VX, hqVX⟩ : ∃ V, V = disV a := ⟨_, rfl⟩
        rw [← hqVX] at hlVX hrx hofVX
        have hzVX := Lib.hid (show (Try.prog.info? 27).map (·.size) = some VX.length by rw [size_tok, hlVX])
        have hzVXa := Lib.hid (show (Try.prog.info? 27).map (·.size) = some VX.toArray.size by rw [size_tok, List.size_toArray, hlVX])
        have hoVX := Lib.hid (all_one hofVX)
        have h36VX := Lib.hid (show (36 : Nat) = VX.toArray.size by rw [List.size_toArray, hlVX])
        have hlVY := length_disV (hoky f.1 (List.mem_of_getElem? (toks_get hf)))
        have hofVY : ∀ v ∈ disV f, v.oneCell' = true := fun v hv => disV_one [f] v (by simpa using hv)
        obtain ⟨VY, hqVY⟩ : ∃ V, V = disV f := ⟨_, rfl⟩
        rw [← hqVY] at hlVY hry hofVY
        have hzVY := Lib.hid (show (Try.prog.info? 27).map (·.size) = some VY.length by rw [size_tok, hlVY])
        have hzVYa := Lib.hid (show (Try.prog.info? 27).map (·.size) = some VY.toArray.size by rw [size_tok, List.size_toArray, hlVY])
        have hoVY := Lib.hid (all_one hofVY)
        have h36VY := Lib.hid (show (36 : Nat) = VY.toArray.size by rw [List.size_toArray, hlVY])
        rw [show tokV a.1 a.2.1 a.2.2 = VX from hqVX.symm, show tokV f.1 f.2.1 f.2.2 = VY from hqVY.symm] at hsm
        clear hqVX hqVY ha hf hsame px6 py6 hokx hoky hfit hma hlVX hlVY hofVX hofVY hDx6 hDy6
        have hbw := hbw6.trans (hb.mono hbw6.size)
        have hdk : ds.length ≤ 9223372036854775807 := hdl
        by_cases hae : a.1 = f.1
        · rw [decide_eq_true hae] at hsm
          have HF := Lib.hid (HS.out hae)
          clear hae HS HN
          go_wp2_with fail
          refine wp_region_noPanic ?_
          refine wp_region_held_drew (S := fun w' => Below wr.heap.size wr w') (by kernel_rfl) ((Below.refl _ _).drew) (fun hHeld => ?_)
          have hB := hHeld
          refine rtake 0 _ (some 27) _ rfl rfl (by kernel_rfl) (by kernel_rfl) (by kernel_rfl) (fun _ _ _ h => h) (by rfl) hHeld (by intro w hS; go_simp; try with_reducible rfl) ?_
          try (first | (rw [put_some]; dsimp only [List.set]) | rw [put_none])
          refine rtake 1 _ (some 28) _ rfl rfl (by kernel_rfl) (by kernel_rfl) (by kernel_rfl) (fun _ _ _ h => h) (by rfl) hHeld (by intro w hS; go_simp; try with_reducible rfl) ?_
          try (first | (rw [put_some]; dsimp only [List.set]) | rw [put_none])
          refine rtake 2 _ (some 29) _ rfl rfl (by kernel_rfl) (by kernel_rfl) (by kernel_rfl) (fun _ _ _ h => h) (by rfl) hHeld (by intro w hS; go_simp; try with_reducible rfl) ?_
          try (first | (rw [put_some]; dsimp only [List.set]) | rw [put_none])
          refine rtake 3 _ (some 30) _ rfl rfl (by kernel_rfl) (by kernel_rfl) (by kernel_rfl) (fun _ _ _ h => h) (by rfl) hHeld (by intro w hS; go_simp; try with_reducible rfl) ?_
          try (first | (rw [put_some]; dsimp only [List.set]) | rw [put_none])
          refine rtake 4 _ (some 31) _ rfl rfl (by kernel_rfl) (by kernel_rfl) (by kernel_rfl) (fun _ _ _ h => h) (by rfl) hHeld (by intro w hS; exact run_load_op 27 (.tmp 30) rfl _ _ rfl VX _ (hrx _ hS) Try.underlying27 rfl hzVX.out) ?_
          try (first | (rw [put_some]; dsimp only [List.set]) | rw [put_none])
          refine rtake 5 _ (some 32) _ rfl rfl (by kernel_rfl) (by kernel_rfl) (by kernel_rfl) (fun _ _ _ h => h) (by rfl) hHeld (by intro w hS; go_simp; try with_reducible rfl) ?_
          try (first | (rw [put_some]; dsimp only [List.set]) | rw [put_none])
          refine rtake 6 _ (some 33) _ rfl rfl (by kernel_rfl) (by kernel_rfl) (by kernel_rfl) (fun _ _ _ h => h) (by rfl) hHeld (by intro w hS; go_simp; try with_reducible rfl) ?_
          try (first | (rw [put_some]; dsimp only [List.set]) | rw [put_none])
          refine rtake 7 _ (some 34) _ rfl rfl (by kernel_rfl) (by kernel_rfl) (by kernel_rfl) (fun _ _ _ h => h) (by rfl) hHeld (by intro w hS; go_simp; try with_reducible rfl) ?_
          try (first | (rw [put_some]; dsimp only [List.set]) | rw [put_none])
          refine rtake 8 _ (some 35) _ rfl rfl (by kernel_rfl) (by kernel_rfl) (by kernel_rfl) (fun _ _ _ h => h) (by rfl) hHeld (by intro w hS; go_simp; try with_reducible rfl) ?_
          try (first | (rw [put_some]; dsimp only [List.set]) | rw [put_none])
          refine rtake 9 _ (some 36) _ rfl rfl (by kernel_rfl) (by kernel_rfl) (by kernel_rfl) (fun _ _ _ h => h) (by rfl) hHeld (by intro w hS; exact run_load_op 27 (.tmp 35) rfl _ _ rfl VY _ (hry _ hS) Try.underlying27 rfl hzVY.out) ?_
          try (first | (rw [put_some]; dsimp only [List.set]) | rw [put_none])
          refine wpAnyH_ready (rs := [10]) (by kernel_rfl) (by simp) (AllReadyH.cons (o := _) rfl (fun K hK => ?_) AllReadyH.nil)
          go_simp
          refine (hsm.out _ (hsxa.later (Nat.le_refl _) hB) (hsya.later (Nat.le_refl _) hB)).mono ?_; rintro e wwr10 ⟨rfl, hqwr10⟩
          try go_wp2_with fail
          refine hK.out _ _ (hHeld.trans (hqwr10.mono hHeld.size)) (fun hHeld' => ?_)
          clear hK K
          try (first | (rw [put_some]; dsimp only [List.set]) | rw [put_none])
          have hB := below_step hB hqwr10
          have hB10 : Below wwr10.heap.size wwr10 wwr10 := Below.refl _ _
          refine wpAnyH_narrow (S' := fun w' => Below wwr10.heap.size wwr10 w') (fun _ h => (hHeld.trans (hqwr10.mono hHeld.size)).trans (h.mono (hHeld.trans (hqwr10.mono hHeld.size)).size)) _ _ _ _ ?_
          clear hHeld
          have hHeld : Below wwr10.heap.size wwr10 wwr10 := Below.refl _ _
          refine rtake 11 _ (some 38) _ rfl rfl (by kernel_rfl) (by kernel_rfl) (by kernel_rfl) (fun _ _ _ h => h) (by rfl) hHeld (by intro w hS; go_simp; try with_reducible rfl) ?_
          try (first | (rw [put_some]; dsimp only [List.set]) | rw [put_none])
          refine wpAnyH_done (by kernel_rfl) ?_ _
          refine NoPanic.normal ?_
          have hbw7 := hb.trans (hB.mono hb.size)
          clear hB hHeld hcx hcy hrx hry
          go_wp2_with fail
          go_roundw
          case rel => exact ⟨k + 1, by omega, by go_num, HF.out, hbw7⟩
          case measure => simp [intOf]; omega
        · rw [decide_eq_false hae] at hsm
          have HF := Lib.hid (HN.out hae)
          clear hae HS HN
          go_wp2_with fail
          refine wp_region_noPanic ?_
          refine wp_region_held_drew (S := fun w' => Below wr.heap.size wr w') (by kernel_rfl) ((Below.refl _ _).drew) (fun hHeld => ?_)
          have hB := hHeld
          refine rtake 0 _ (some 27) _ rfl rfl (by kernel_rfl) (by kernel_rfl) (by kernel_rfl) (fun _ _ _ h => h) (by rfl) hHeld (by intro w hS; go_simp; try with_reducible rfl) ?_
          try (first | (rw [put_some]; dsimp only [List.set]) | rw [put_none])
          refine rtake 1 _ (some 28) _ rfl rfl (by kernel_rfl) (by kernel_rfl) (by kernel_rfl) (fun _ _ _ h => h) (by rfl) hHeld (by intro w hS; go_simp; try with_reducible rfl) ?_
          try (first | (rw [put_some]; dsimp only [List.set]) | rw [put_none])
          refine rtake 2 _ (some 29) _ rfl rfl (by kernel_rfl) (by kernel_rfl) (by kernel_rfl) (fun _ _ _ h => h) (by rfl) hHeld (by intro w hS; go_simp; try with_reducible rfl) ?_
          try (first | (rw [put_some]; dsimp only [List.set]) | rw [put_none])
          refine rtake 3 _ (some 30) _ rfl rfl (by kernel_rfl) (by kernel_rfl) (by kernel_rfl) (fun _ _ _ h => h) (by rfl) hHeld (by intro w hS; go_simp; try with_reducible rfl) ?_
          try (first | (rw [put_some]; dsimp only [List.set]) | rw [put_none])
          refine rtake 4 _ (some 31) _ rfl rfl (by kernel_rfl) (by kernel_rfl) (by kernel_rfl) (fun _ _ _ h => h) (by rfl) hHeld (by intro w hS; exact run_load_op 27 (.tmp 30) rfl _ _ rfl VX _ (hrx _ hS) Try.underlying27 rfl hzVX.out) ?_
          try (first | (rw [put_some]; dsimp only [List.set]) | rw [put_none])
          refine rtake 5 _ (some 32) _ rfl rfl (by kernel_rfl) (by kernel_rfl) (by kernel_rfl) (fun _ _ _ h => h) (by rfl) hHeld (by intro w hS; go_simp; try with_reducible rfl) ?_
          try (first | (rw [put_some]; dsimp only [List.set]) | rw [put_none])
          refine rtake 6 _ (some 33) _ rfl rfl (by kernel_rfl) (by kernel_rfl) (by kernel_rfl) (fun _ _ _ h => h) (by rfl) hHeld (by intro w hS; go_simp; try with_reducible rfl) ?_
          try (first | (rw [put_some]; dsimp only [List.set]) | rw [put_none])
          refine rtake 7 _ (some 34) _ rfl rfl (by kernel_rfl) (by kernel_rfl) (by kernel_rfl) (fun _ _ _ h => h) (by rfl) hHeld (by intro w hS; go_simp; try with_reducible rfl) ?_
          try (first | (rw [put_some]; dsimp only [List.set]) | rw [put_none])
          refine rtake 8 _ (some 35) _ rfl rfl (by kernel_rfl) (by kernel_rfl) (by kernel_rfl) (fun _ _ _ h => h) (by rfl) hHeld (by intro w hS; go_simp; try with_reducible rfl) ?_
          try (first | (rw [put_some]; dsimp only [List.set]) | rw [put_none])
          refine rtake 9 _ (some 36) _ rfl rfl (by kernel_rfl) (by kernel_rfl) (by kernel_rfl) (fun _ _ _ h => h) (by rfl) hHeld (by intro w hS; exact run_load_op 27 (.tmp 35) rfl _ _ rfl VY _ (hry _ hS) Try.underlying27 rfl hzVY.out) ?_
          try (first | (rw [put_some]; dsimp only [List.set]) | rw [put_none])
          refine wpAnyH_ready (rs := [10]) (by kernel_rfl) (by simp) (AllReadyH.cons (o := _) rfl (fun K hK => ?_) AllReadyH.nil)
          go_simp
          refine (hsm.out _ (hsxa.later (Nat.le_refl _) hB) (hsya.later (Nat.le_refl _) hB)).mono ?_; rintro e wwr10 ⟨rfl, hqwr10⟩
          try go_wp2_with fail
          refine hK.out _ _ (hHeld.trans (hqwr10.mono hHeld.size)) (fun hHeld' => ?_)
          clear hK K
          try (first | (rw [put_some]; dsimp only [List.set]) | rw [put_none])
          have hB := below_step hB hqwr10
          have hB10 : Below wwr10.heap.size wwr10 wwr10 := Below.refl _ _
          refine wpAnyH_narrow (S' := fun w' => Below wwr10.heap.size wwr10 w') (fun _ h => (hHeld.trans (hqwr10.mono hHeld.size)).trans (h.mono (hHeld.trans (hqwr10.mono hHeld.size)).size)) _ _ _ _ ?_
          clear hHeld
          have hHeld : Below wwr10.heap.size wwr10 wwr10 := Below.refl _ _
          refine rtake 11 _ (some 38) _ rfl rfl (by kernel_rfl) (by kernel_rfl) (by kernel_rfl) (fun _ _ _ h => h) (by rfl) hHeld (by intro w hS; go_simp; try with_reducible rfl) ?_
          try (first | (rw [put_some]; dsimp only [List.set]) | rw [put_none])
          refine wpAnyH_done (by kernel_rfl) ?_ _
          refine NoPanic.normal ?_
          have hbw7 := hbw.trans (hB.mono hbw.size)
          clear hB hHeld hcx hcy hrx hry
          go_wp2_with fail
          go_ret
          exact ⟨by rw [HF.out]; rfl, hbw7⟩
      · obtain rfl : k = ds.length := by omega
        have HF := Lib.hid (show R = true by
          rw [HR.out]
          refine decide_eq_true ?_
          have h1 := hsame
          rw [← HML.out, List.take_length, HML.out, HL.out, ← HNE.out, List.take_length] at h1
          exact h1)
        have hbw := hbw6.trans (hb.mono hbw6.size)
        clear hlt hk px6 py6 hsame hokx hoky hfit hDx6 hDy6
        generalize ds.length = n at *
        go_wp2
        go_ret
        exact ⟨by rw [HF.out]; rfl, hbw⟩
  · have HE := Lib.hid (show R = false by rw [HR.out]; exact decide_eq_false (fun h => hL (by rw [← hml, ← hne, h])))
    have hL' : ((ds.length : Int) == (es.length : Int)) = false := by rw [beq_eq_false_iff_ne]; omega
    clear hml hne hL hdl hpx hpy
    generalize ds.length = n at *
    generalize es.length = m at *
    go_enter Try.func14, Try.ntmps14
    go_wp2_with (first
        | (with_reducible refine wpList_load_mid rfl 27 (.tmp 6) rfl w.heap.size 0 rfl VT _ hTx Try.underlying27 rfl hzVT.out ?_)
        | (with_reducible refine wpList_load_mid rfl 27 (.tmp 8) rfl (w.heap.size + 1) 0 rfl UT _ hTy Try.underlying27 rfl hzUT.out ?_)
        | (go_at_call 29; refine (hsm.out _ hsx1 hsy1).mono ?_; rintro e w6 ⟨rfl, hb6⟩; have hbw6 := hb1.trans (hb6.mono hb1.size); have cx6 := hDx _ hb6; have cy6 := hDy _ hb6; have px6 := hpx1.later (Nat.le_refl _) hb6; have py6 := hpy1.later (Nat.le_refl _) hb6))
    go_ret
    exact ⟨by rw [HE.out]; rfl, hbw6⟩
end Go.Proofs.Ythiebbhooigogaa

/- LAYER 11: package bundle: Of, Clone. -/
namespace Go.Proofs.Ythiebbhooigogaa
open Go Go.RowKit

set_option maxRecDepth 20000 in
set_option maxHeartbeats 4000000 in
theorem bof_any (u4 : Tok) (ds0 : List Dis) (hu4 : u4.Ok) (hok : ∀ d ∈ toks ds0, d.Ok) (hm : ∀ e ∈ u4 :: toks ds0, e.cavs.length ≤ 1000000) (A : Option Addr) (c : Nat) (B : Option Addr) (d : Nat) (w : World) (hs : Sl w A (c * 5) (u4.cavs.flatMap cavV)) (hp : Bs w B d ds0) (hcl : ds0.length ≤ 1000000) :
    Calls Try.prog 17 #[.agg (tokV u4 A c).toArray, .slice B ds0.length d] w fun e w' => ∃ v, e = .returned v ∧ BunV w.heap.size (bunOf u4 ds0) w' v ∧ Below w.heap.size w w' := by
  obtain ⟨i0, hi, hz0, hz1, hz2⟩ := info_tok
  obtain ⟨Z, hZ⟩ : ∃ Z, Z = bunV zeroK none 0 none 0 0 := ⟨_, rfl⟩
  have hzl : Z.length = 37 := by rw [hZ]; exact length_bunV zeroK_ok none 0 none 0 0
  have hzK := Lib.hid (show (Try.prog.info? 30).map (·.size) = some Z.toArray.size by rw [size_bun, List.size_toArray, hzl])
  have h37Z := Lib.hid (show 37 = Z.toArray.size by rw [List.size_toArray, hzl])
  have HZ := Lib.hid hZ
  have hlen : (toks ds0).length = ds0.length := toks_len ds0
  obtain ⟨r0, rz, hb1, hsz1⟩ := two_rows (w := w) (A := tokV u4 A c) (B := [Value.int .u64 0, .string { data := #[] }, .slice none 0 0, .bool false, .int .u8 0, .int .u8 0, .int .u8 0, .int .u8 0, .int .u8 0, .int .u8 0, .int .u8 0, .int .u8 0, .int .u8 0, .int .u8 0, .int .u8 0, .int .u8 0, .int .u8 0, .int .u8 0, .int .u8 0, .int .u8 0, .int .u8 0, .int .u8 0, .int .u8 0, .int .u8 0, .int .u8 0, .int .u8 0, .int .u8 0, .int .u8 0, .int .u8 0, .int .u8 0, .int .u8 0, .int .u8 0, .int .u8 0, .int .u8 0, .int .u8 0, .int .u8 0, .slice none 0 0]) (tA := 27) (tB := 30) rfl
  have hcl0 := Lib.hid (fun w' h => pclone_fresh u4 hu4 (hm u4 List.mem_cons_self) A c w' h)
  have hlT := length_tokV hu4 A c
  obtain ⟨VT, hVT⟩ : ∃ V, V = tokV u4 A c := ⟨_, rfl⟩
  rw [← hVT] at r0 rz hb1 hsz1 hcl0 hlT ⊢
  have hzT := Lib.hid (show (Try.prog.info? 27).map (·.size) = some VT.toArray.size by rw [size_tok, List.size_toArray, hlT])
  have R0 := Lib.hid (show ((w.alloc (.cells VT.toArray 27)).alloc (.cells [Value.int .u64 0, .string { data := #[] }, .slice none 0 0, .bool false, .int .u8 0, .int .u8 0, .int .u8 0, .int .u8 0, .int .u8 0, .int .u8 0, .int .u8 0, .int .u8 0, .int .u8 0, .int .u8 0, .int .u8 0, .int .u8 0, .int .u8 0, .int .u8 0, .int .u8 0, .int .u8 0, .int .u8 0, .int .u8 0, .int .u8 0, .int .u8 0, .int .u8 0, .int .u8 0, .int .u8 0, .int .u8 0, .int .u8 0, .int .u8 0, .int .u8 0, .int .u8 0, .int .u8 0, .int .u8 0, .int .u8 0, .int .u8 0, .slice none 0 0].toArray 30)).heap[w.heap.size]? = some (.cells VT.toArray 27 (0, 0)) from r0)
  have rz1 : Row ((w.alloc (.cells VT.toArray 27)).alloc (.cells [Value.int .u64 0, .string { data := #[] }, .slice none 0 0, .bool false, .int .u8 0, .int .u8 0, .int .u8 0, .int .u8 0, .int .u8 0, .int .u8 0, .int .u8 0, .int .u8 0, .int .u8 0, .int .u8 0, .int .u8 0, .int .u8 0, .int .u8 0, .int .u8 0, .int .u8 0, .int .u8 0, .int .u8 0, .int .u8 0, .int .u8 0, .int .u8 0, .int .u8 0, .int .u8 0, .int .u8 0, .int .u8 0, .int .u8 0, .int .u8 0, .int .u8 0, .int .u8 0, .int .u8 0, .int .u8 0, .int .u8 0, .int .u8 0, .slice none 0 0].toArray 30)) (w.heap.size + 1) 30 Z := by rw [hZ, zbun]; exact rz
  have hs1 := hs.later (Nat.le_refl _) hb1
  have HSZ1 := Lib.hid hsz1
  clear hVT hlT hZ hzl r0 rz hs hsz1
  go_enter Try.func17, Try.ntmps17
  go_wp2_with (first
      | (with_reducible refine wpList_load_row rfl 27 (.tmp 2) rfl w.heap.size rfl 27 VT.toArray (0, 0) _ R0.out Try.underlying27 rfl hzT.out ?_)
      | (go_at_call 32; refine (hcl0.out _ hs1).mono ?_; rintro e w4 ⟨B4, d4, rfl, hsl4, hfr4, hb4⟩; have hlV4 := length_tokV hu4 B4 d4; have hon4 := tokV_one u4 B4 d4; obtain ⟨V4, hV4⟩ : ∃ V, V = tokV u4 B4 d4 := ⟨_, rfl⟩; rw [← hV4] at hlV4 hon4 ⊢; obtain ⟨V7, hV7⟩ : ∃ V, V = V4 ++ [Value.slice none 0 0] := ⟨_, rfl⟩; have hbuild := Lib.hid (build_bun V4 hlV4); have hl7 : V7.length = 37 := (by rw [hV7, List.length_append, hlV4]; rfl); have ho7 : ∀ v ∈ V7, v.oneCell' = true := (fun v hv => by rw [hV7] at hv; rcases List.mem_append.1 hv with h | h; exact hon4 v h; rw [List.mem_singleton.1 h]; rfl); rw [← hV7] at hbuild; have HV7 := Lib.hid (show V7 = bunV u4 B4 d4 none 0 0 by rw [hV7, hV4]; rfl); have hz7 := Lib.hid (show (Try.prog.info? 30).map (·.size) = some V7.toArray.size by rw [size_bun, List.size_toArray, hl7]); have h37 := Lib.hid (show 37 = V7.toArray.size by rw [List.size_toArray, hl7]); have hone7 := Lib.hid (all_one ho7); have hbw4 := hb1.trans (hb4.mono hb1.size); clear hV4 hV7 hl7 ho7 hlV4 hon4)
      | (refine wpList_build1 rfl 30 0 (.tmp 9) rfl (.agg V4.toArray) _ rfl (hbuild.out _) ?_)
      | (with_reducible refine wpList_store_row rfl 30 (.tmp 5) (.tmp 10) rfl w4.heap.size V7.toArray rfl rfl 30 _ (heap_alloc_new w4 _) hz7.out (Eq.trans (by kernel_rfl) h37.out) hone7.out ?_; refine Hid.out ?_))
  refine Lib.hid ?_
  generalize hw6 : World.setRow _ _ _ = w6
  obtain ⟨r6, hb6⟩ := row_new_set (xs := V7) hw6
  rw [HV7.out] at r6
  have hfr4' : ∀ a, B4 = some a → w.heap.size + 2 ≤ a.block := fun a ha => by have h1 := hfr4 a ha; rw [HSZ1.out] at h1; exact h1
  have hat0 : BunAt w6 (w.heap.size + 2) w6.heap.size w4.heap.size ⟨u4, []⟩ := BunAt.start r6 (hsl4.later (Nat.le_refl _) hb6) (fun hp a ha => ⟨hfr4' a ha, by have := hsl4.block_lt (by rw [length_cavsV]; omega) ha; omega⟩)
  have hlg := r6.lt
  have hbw6 := hbw4.trans (hb6.mono hbw4.size)
  have HG := Lib.hid (show w.heap.size + 2 ≤ w4.heap.size by have h1 := hb4.size; rw [HSZ1.out] at h1; exact h1)
  have rz6 := (rz1.later hb4 rz1.lt).later hb6 (rz1.later hb4 rz1.lt).lt
  have RZ := Lib.hid (show w6.heap[w.heap.size + 1]? = some (.cells Z.toArray 30 (0, 0)) from rz6)
  have hp6 := hp.later (Nat.le_refl _) hbw6
  have HBB := Lib.hid (show ∀ b, 0 < ds0.length → B = some b → b.block < w.heap.size from fun b hx hb => hp.sl.block_lt (by rw [length_dissV hok]; omega) hb)
  have HCV := Lib.hid (show ∀ e ∈ ds0, Cvs w6 e from hp6.each)
  have HCW := Lib.hid (show ∀ e ∈ ds0, Cvs w e from hp.each)
  clear hw6 r6 hb6 hb4 hfr4 hfr4' hsl4 hbw4 hs1 rz1 rz6 hb1 hbuild hp
  generalize w4.heap.size = g at *
  obtain ⟨base, hbase0⟩ : ∃ base, base = w6.heap.size := ⟨_, rfl⟩
  obtain ⟨lo, hlo⟩ : ∃ lo, lo = w.heap.size + 2 := ⟨_, rfl⟩
  rw [← hbase0, ← hlo] at hat0
  have HBASE := Lib.hid hbase0
  have HLO := Lib.hid hlo
  clear hbase0 hlo
  go_wp2_with fail
  go_loopw [13] (fun i wr => ∃ k : Nat, k ≤ ds0.length ∧ i = .int .i64 k ∧ BunAt wr lo base g ⟨u4, (toks ds0).take k⟩ ∧ w6.grownBy wr (some g)) (fun i _ => ds0.length - (intOf i).toNat)
  case atStart => exact ⟨0, by omega, rfl, hat0, grown_refl _ _⟩
  case round =>
    clear hat0
    obtain ⟨k, hk, rfl, hat, hgr⟩ := hrel
    have hg2 := HG.out
    have hbw : Below w.heap.size w wr := hbw6.grown hgr hbw6.size (fun k h => by cases h; omega)
    have RZ := Lib.hid (show wr.heap[w.heap.size + 1]? = some (.cells Z.toArray 30 (0, 0)) from (hgr.block (w.heap.size + 1) (by omega) (fun e => by have := Option.some.inj e; omega)).trans RZ.out)
    by_cases hlt : k < ds0.length
    · obtain ⟨dd, hdd⟩ : ∃ dd, ds0[k]? = some dd := ⟨_, List.getElem?_eq_getElem hlt⟩
      have hslr := hp6.sl.apart hgr (fun _ a ha => by have := HBB.out a (by omega) ha; omega)
      obtain ⟨b, o, rfl⟩ := hp6.nonil hok hlt
      have hix := index_tok (some ⟨b, o, none⟩) b o ds0.length d k rfl hlt
      have hme : dd.1 ∈ toks ds0 := List.mem_of_getElem? (toks_get hdd)
      have hrg := hslr.thing (k := 36) (dis_ok hok) k dd hdd
      have hud := hok _ hme
      have hsd0 : Sl wr dd.2.1 (dd.2.2 * 5) (dd.1.cavs.flatMap cavV) := (HCW.out dd (List.mem_of_getElem? hdd)).later (Nat.le_refl _) hbw
      have hcl := Lib.hid (fun w' h => pclone_fresh dd.1 hud (hm _ (List.mem_cons_of_mem _ hme)) dd.2.1 dd.2.2 w' h)
      have HM := Lib.hid (show (toks ds0).take (k + 1) = (toks ds0).take k ++ [dd.1] by rw [List.take_add_one, toks_get hdd]; rfl)
      have hlV := length_disV hud
      have hofn : ∀ v ∈ disV dd, v.oneCell' = true := fun v hv => disV_one [dd] v (by simpa using hv)
      obtain ⟨V2, hV2q⟩ : ∃ V, V = disV dd := ⟨_, rfl⟩
      rw [← hV2q] at hlV hrg hofn
      rw [show tokV dd.1 dd.2.1 dd.2.2 = V2 from hV2q.symm] at hcl
      have hzf := Lib.hid (show (Try.prog.info? 27).map (·.size) = some V2.length by rw [size_tok, hlV])
      have hzf2 := Lib.hid (show (Try.prog.info? 27).map (·.size) = some V2.toArray.size by rw [size_tok, List.size_toArray, hlV])
      have hof := Lib.hid (all_one hofn)
      have hV2 := Lib.hid (show (36 : Nat) = V2.toArray.size by rw [List.size_toArray, hlV])
      have hmk : ((toks ds0).take k).length ≤ 1000000 := by rw [List.length_take]; omega
      generalize (toks ds0).take k = ms at *
      clear hV2q hdd hslr hlV hofn hme hm hok hlen hp6
      go_wp2_with (first
          | (with_reducible refine wpList_load_mid rfl 27 (.tmp 15) rfl b (o + k * 36) rfl V2 _ hrg Try.underlying27 rfl hzf.out ?_)
          | (with_reducible refine wpList_store_row rfl 27 (.tmp 7) (.tmp 16) rfl wr.heap.size V2.toArray rfl rfl 27 _ (heap_alloc_new wr _) hzf2.out (Eq.trans (by kernel_rfl) hV2.out) hof.out ?_; refine Hid.out ?_))
      refine Lib.hid ?_
      generalize hw7 : World.setRow _ _ _ = w7
      obtain ⟨r7, hb7⟩ := row_new_set (xs := V2) hw7
      have hbw7 := hbw.trans (hb7.mono hbw.size)
      obtain ⟨A9, c9, B9, d9, ds, hds, rGr, ownr, hcvr⟩ := hat
      have HBL := Lib.hid (show ∀ p, B9 = some p → p.block < wr.heap.size from fun p hp => (ownr.lt p.block (by rw [hp]; rfl)).2)
      have rG := rGr.later hb7 rGr.lt
      have own9 := ownk_later ownr hb7 (Nat.le_refl _)
      have hcv9 : ∀ e ∈ (u4, A9, c9) :: ds, Cvs w7 e ∧ Apart lo g B9 e := fun e he => ⟨(hcvr e he).1.later (Nat.le_refl _) hb7, (hcvr e he).2⟩
      have HDS := Lib.hid hds
      have hgr7 := grown_trans hgr (grown_of_below hb7 _)
      have HGR := Lib.hid (show base ≤ wr.heap.size by rw [HBASE.out]; exact hgr.size)
      have HHG := Lib.hid (show g < base by rw [HBASE.out]; exact hlg)
      have hdl : ds.length = ms.length := by rw [← toks_len ds, hds]
      have HDL := Lib.hid (show ds.length ≤ 1000000 by rw [hdl]; exact hmk)
      have n1 : ds.length + 1 ≤ maxLen := by unfold maxLen; have := HDL.out; omega
      have n2 : (ds.length + 1) * 88 ≤ 140737488355328 := by have := HDL.out; omega
      have hsd := hsd0.later (Nat.le_refl _) hb7
      have hb7w : wr.heap.size ≤ w7.heap.size := hb7.size
      have HLOW := Lib.hid (show lo ≤ wr.heap.size by rw [HLO.out]; have := hgr.size; omega)
      clear hw7 hb7 hgr rGr ownr hcvr hds hdl hmk hrg hix hsd0
      go_wp2_with fail
      refine wp_region_noPanic ?_
      refine wp_region_held_drew (S := fun w' => w'.rangeAt wr.heap.size 0 V2) (by kernel_rfl) (row_range (show Row (World.drew w7) wr.heap.size 27 V2 from r7)) (fun hHeld => ?_)
      have hbs : Below w7.heap.size w7 (World.drew w7) := (Below.refl _ _).drew
      have r7 : Row (World.drew w7) wr.heap.size 27 V2 := r7
      have rG : Row (World.drew w7) g 30 (bunV u4 A9 c9 B9 ds.length d9) := rG
      have own9 : (World.drew w7).ownsRow base 27 36 (.slice B9 ds.length d9) ds.length (ds.flatMap disV) := own9
      have hcv9 : ∀ e ∈ (u4, A9, c9) :: ds, Cvs (World.drew w7) e ∧ Apart lo g B9 e := fun e he => ⟨Sl.later (hcv9 e he).1 (Nat.le_refl _) hbs, (hcv9 e he).2⟩
      refine rtake 0 _ (some 17) _ rfl rfl (by kernel_rfl) (by kernel_rfl) (by kernel_rfl) (fun _ _ _ h => h) (by rfl) hHeld (by intro w hS; go_simp; try with_reducible rfl) ?_
      try (first | (rw [put_some]; dsimp only [List.set]) | rw [put_none])
      refine rtake 2 _ (some 19) _ rfl rfl (by kernel_rfl) (by kernel_rfl) (by kernel_rfl) (fun _ _ _ h => h) (by rfl) hHeld (by intro w hS; exact run_load_op 27 (.tmp 7) rfl _ 0 rfl V2 _ hS Try.underlying27 rfl hzf.out) ?_
      try (first | (rw [put_some]; dsimp only [List.set]) | rw [put_none])
      refine wpAnyH_ready (rs := [1, 3]) (by kernel_rfl) (by simp) (AllReadyH.cons (o := _) rfl (fun K hK => ?_) (AllReadyH.cons (o := _) rfl (fun K hK => ?_) AllReadyH.nil))
      · have hcg := row_bun_dis hu4 rG
        go_simp
        refine hK.out _ _ hHeld (fun _ => ?_)
        clear hK K hcg
        try (first | (rw [put_some]; dsimp only [List.set]) | rw [put_none])
        refine wpAnyH_ready (rs := [3]) (by kernel_rfl) (by simp) (AllReadyH.cons (o := _) rfl (fun K hK => ?_) AllReadyH.nil)
        go_simp
        refine (hcl.out _ (hsd.later (Nat.le_refl _) hbs)).mono ?_; rintro e w3 ⟨B8, d8, rfl, hsl8, hfr8, hb3⟩; have hlV8 := length_tokV hud B8 d8; have hon8 := tokV_one dd.1 B8 d8; obtain ⟨V8, hV8⟩ : ∃ V, V = tokV dd.1 B8 d8 := ⟨_, rfl⟩; rw [← hV8] at hlV8 hon8 ⊢; have HV8 := Lib.hid hV8; have HlV8 := Lib.hid hlV8; have honl8 := Lib.hid hon8; have HF8 := Lib.hid (show ∀ a, B8 = some a → wr.heap.size ≤ a.block from fun a ha => Nat.le_trans (Nat.le_trans hb7w hbs.size) (hfr8 a ha)); have hbo := Lib.hid (build_one V8 hlV8); clear hV8 hlV8 hon8 hfr8; have r7 := r7.later hb3 r7.lt; have rG := rG.later hb3 rG.lt; have own9 := ownk_later own9 hb3 (Nat.le_refl _); have hcv9 : ∀ e ∈ (u4, A9, c9) :: ds, Cvs w3 e ∧ Apart lo g B9 e := (fun e he => ⟨(hcv9 e he).1.later (Nat.le_refl _) hb3, (hcv9 e he).2⟩); have hbs := hbs.trans (hb3.mono hbs.size); clear hb3
        try go_wp2_with fail
        refine hK.out _ _ (row_range r7) (fun _ => ?_)
        clear hK K hHeld
        have hHeld := row_range r7
        try (first | (rw [put_some]; dsimp only [List.set]) | rw [put_none])
        refine wpAnyH_ready (rs := [4]) (by kernel_rfl) (by simp) (AllReadyH.cons (o := _) rfl (fun K hK => ?_) AllReadyH.nil)
        refine step_slice1 (some 21) rfl (by rfl) 28 1 0 (.tmp 20) rfl (.agg V8.toArray) _ rfl (hbo.out _) ?_
        have hb4 := (Below.refl w3.heap.size w3).alloc (Nat.le_refl _) (.cells V8.toArray 27); have hl10 := tok_sl w3 V8; rw [HlV8.out] at hl10; have hsl8 := hsl8.later (Nat.le_refl _) hb4; have r7 := r7.later hb4 r7.lt; have rG := rG.later hb4 rG.lt; have own9 := ownk_later own9 hb4 (Nat.le_refl _); have hcv9 : ∀ e ∈ (u4, A9, c9) :: ds, Cvs (w3.alloc (.cells V8.toArray 27)) e ∧ Apart lo g B9 e := (fun e he => ⟨(hcv9 e he).1.later (Nat.le_refl _) hb4, (hcv9 e he).2⟩); have hbs := hbs.trans (hb4.mono hbs.size); clear hb4
        refine hK.out _ _ (row_range r7) (fun _ => ?_)
        clear hK K hHeld
        have hHeld := row_range r7
        try (first | (rw [put_some]; dsimp only [List.set]) | rw [put_none])
        refine wpAnyH_ready (rs := [5]) (by kernel_rfl) (by simp) (AllReadyH.cons (o := _) rfl (fun K hK => ?_) AllReadyH.nil)
        have hdd10 : Cvs (w3.alloc (.cells V8.toArray 27)) (dd.1, B8, d8) ∧ Apart lo g B9 (dd.1, B8, d8) := ⟨hsl8, fun hp a ha => ⟨by have := HF8.out a ha; have := HLOW.out; omega, by have := HF8.out a ha; have := HGR.out; have := HHG.out; omega, fun p hpB => by have := HF8.out a ha; have := HBL.out _ hpB; omega⟩⟩
        have hbase : base ≤ (w3.alloc (.cells V8.toArray 27)).heap.size := Nat.le_trans (Nat.le_trans HGR.out hb7w) hbs.size
        refine step_append_one (some 22) rfl (by rfl) (.tmp 18) (.tmp 21) 28 rfl base 27 i0 _ 36 88 Try.underlying28 hi hz0 hz1 (by omega) hz2 rfl _ ds.length (ds.flatMap disV) rfl own9 ⟨w3.heap.size, 0, none⟩ 1 V8 rfl HlV8.out (by rw [Nat.one_mul]; exact hl10) honl8.out n1 n2 hbase ?_; intro v11 w11 own11 hg11 hnew11; obtain ⟨B11, d11, rfl, _, _⟩ := Sl.of_ownk own11; obtain ⟨hat11, hc11, hf11⟩ := bunAt_append hu4 HHG.out rG own9 hcv9 hdd10 (by rw [HV8.out] at own11; exact own11) hg11 hnew11; have hgr11 := grown_own (grown_trans hgr7 (grown_of_below hbs _)) hg11 (fun k hk => by have h1 := (own9.lt k hk).1; rw [HBASE.out] at h1; exact h1)
        have r7 : Row w11 wr.heap.size 27 V2 := by unfold Row; rw [hg11.block wr.heap.size r7.lt (fun e => by cases B9 with | none => cases e | some p => have h1 := HBL.out p rfl; have h2 : wr.heap.size = p.block := Option.some.inj e; omega)]; exact r7
        refine hK.out _ _ (row_range r7) (fun _ => ?_)
        clear hK K hHeld own11 hg11 hnew11 hdd10 own9 rG hcv9 hl10 hsl8
        have hHeld := row_range r7
        try (first | (rw [put_some]; dsimp only [List.set]) | rw [put_none])
        refine rtake 6 _ (some 23) _ rfl rfl (by kernel_rfl) (by kernel_rfl) (by kernel_rfl) (fun _ _ _ h => h) (by rfl) hHeld (by intro w hS; go_simp; try with_reducible rfl) ?_
        try (first | (rw [put_some]; dsimp only [List.set]) | rw [put_none])
        refine wpAnyH_ready (rs := [7]) (by kernel_rfl) (by simp) (AllReadyH.cons (o := _) rfl (fun K hK => ?_) AllReadyH.nil)
        have rF := r7.far (⟨g, 36, none⟩ : Addr) (.slice B11 (ds.length + 1) d11) (by show wr.heap.size ≠ g; have := HGR.out; have := HHG.out; omega)
        go_simp
        refine hK.out _ _ (row_range rF) (fun _ => ?_)
        clear hK K
        try (first | (rw [put_some]; dsimp only [List.set]) | rw [put_none])
        refine wpAnyH_done (by kernel_rfl) ?_ _
        refine NoPanic.normal ?_
        have hgrF := grown_trans hgr11 (grown_setCell w11 g 36 (.slice B11 (ds.length + 1) d11))
        rw [HDS.out, ← HM.out] at hat11
        clear hHeld hbs
        go_wp2_with fail
        go_roundw
        case rel => exact ⟨k + 1, by omega, by go_num, hat11, hgrF⟩
        case measure => simp [intOf]; omega
      · go_simp
        refine (hcl.out _ (hsd.later (Nat.le_refl _) hbs)).mono ?_; rintro e w3 ⟨B8, d8, rfl, hsl8, hfr8, hb3⟩; have hlV8 := length_tokV hud B8 d8; have hon8 := tokV_one dd.1 B8 d8; obtain ⟨V8, hV8⟩ : ∃ V, V = tokV dd.1 B8 d8 := ⟨_, rfl⟩; rw [← hV8] at hlV8 hon8 ⊢; have HV8 := Lib.hid hV8; have HlV8 := Lib.hid hlV8; have honl8 := Lib.hid hon8; have HF8 := Lib.hid (show ∀ a, B8 = some a → wr.heap.size ≤ a.block from fun a ha => Nat.le_trans (Nat.le_trans hb7w hbs.size) (hfr8 a ha)); have hbo := Lib.hid (build_one V8 hlV8); clear hV8 hlV8 hon8 hfr8; have r7 := r7.later hb3 r7.lt; have rG := rG.later hb3 rG.lt; have own9 := ownk_later own9 hb3 (Nat.le_refl _); have hcv9 : ∀ e ∈ (u4, A9, c9) :: ds, Cvs w3 e ∧ Apart lo g B9 e := (fun e he => ⟨(hcv9 e he).1.later (Nat.le_refl _) hb3, (hcv9 e he).2⟩); have hbs := hbs.trans (hb3.mono hbs.size); clear hb3
        try go_wp2_with fail
        refine hK.out _ _ (row_range r7) (fun _ => ?_)
        clear hK K hHeld
        have hHeld := row_range r7
        try (first | (rw [put_some]; dsimp only [List.set]) | rw [put_none])
        refine wpAnyH_ready (rs := [1, 4]) (by kernel_rfl) (by simp) (AllReadyH.cons (o := _) rfl (fun K hK => ?_) (AllReadyH.cons (o := _) rfl (fun K hK => ?_) AllReadyH.nil))
        · have hcg := row_bun_dis hu4 rG
          go_simp
          refine hK.out _ _ hHeld (fun _ => ?_)
          clear hK K hcg
          try (first | (rw [put_some]; dsimp only [List.set]) | rw [put_none])
          refine wpAnyH_ready (rs := [4]) (by kernel_rfl) (by simp) (AllReadyH.cons (o := _) rfl (fun K hK => ?_) AllReadyH.nil)
          refine step_slice1 (some 21) rfl (by rfl) 28 1 0 (.tmp 20) rfl (.agg V8.toArray) _ rfl (hbo.out _) ?_
          have hb4 := (Below.refl w3.heap.size w3).alloc (Nat.le_refl _) (.cells V8.toArray 27); have hl10 := tok_sl w3 V8; rw [HlV8.out] at hl10; have hsl8 := hsl8.later (Nat.le_refl _) hb4; have r7 := r7.later hb4 r7.lt; have rG := rG.later hb4 rG.lt; have own9 := ownk_later own9 hb4 (Nat.le_refl _); have hcv9 : ∀ e ∈ (u4, A9, c9) :: ds, Cvs (w3.alloc (.cells V8.toArray 27)) e ∧ Apart lo g B9 e := (fun e he => ⟨(hcv9 e he).1.later (Nat.le_refl _) hb4, (hcv9 e he).2⟩); have hbs := hbs.trans (hb4.mono hbs.size); clear hb4
          refine hK.out _ _ (row_range r7) (fun _ => ?_)
          clear hK K hHeld
          have hHeld := row_range r7
          try (first | (rw [put_some]; dsimp only [List.set]) | rw [put_none])
          refine wpAnyH_ready (rs := [5]) (by kernel_rfl) (by simp) (AllReadyH.cons (o := _) rfl (fun K hK => ?_) AllReadyH.nil)
          have hdd10 : Cvs (w3.alloc (.cells V8.toArray 27)) (dd.1, B8, d8) ∧ Apart lo g B9 (dd.1, B8, d8) := ⟨hsl8, fun hp a ha => ⟨by have := HF8.out a ha; have := HLOW.out; omega, by have := HF8.out a ha; have := HGR.out; have := HHG.out; omega, fun p hpB => by have := HF8.out a ha; have := HBL.out _ hpB; omega⟩⟩
          have hbase : base ≤ (w3.alloc (.cells V8.toArray 27)).heap.size := Nat.le_trans (Nat.le_trans HGR.out hb7w) hbs.size
          refine step_append_one (some 22) rfl (by rfl) (.tmp 18) (.tmp 21) 28 rfl base 27 i0 _ 36 88 Try.underlying28 hi hz0 hz1 (by omega) hz2 rfl _ ds.length (ds.flatMap disV) rfl own9 ⟨w3.heap.size, 0, none⟩ 1 V8 rfl HlV8.out (by rw [Nat.one_mul]; exact hl10) honl8.out n1 n2 hbase ?_; intro v11 w11 own11 hg11 hnew11; obtain ⟨B11, d11, rfl, _, _⟩ := Sl.of_ownk own11; obtain ⟨hat11, hc11, hf11⟩ := bunAt_append hu4 HHG.out rG own9 hcv9 hdd10 (by rw [HV8.out] at own11; exact own11) hg11 hnew11; have hgr11 := grown_own (grown_trans hgr7 (grown_of_below hbs _)) hg11 (fun k hk => by have h1 := (own9.lt k hk).1; rw [HBASE.out] at h1; exact h1)
          have r7 : Row w11 wr.heap.size 27 V2 := by unfold Row; rw [hg11.block wr.heap.size r7.lt (fun e => by cases B9 with | none => cases e | some p => have h1 := HBL.out p rfl; have h2 : wr.heap.size = p.block := Option.some.inj e; omega)]; exact r7
          refine hK.out _ _ (row_range r7) (fun _ => ?_)
          clear hK K hHeld own11 hg11 hnew11 hdd10 own9 rG hcv9 hl10 hsl8
          have hHeld := row_range r7
          try (first | (rw [put_some]; dsimp only [List.set]) | rw [put_none])
          refine rtake 6 _ (some 23) _ rfl rfl (by kernel_rfl) (by kernel_rfl) (by kernel_rfl) (fun _ _ _ h => h) (by rfl) hHeld (by intro w hS; go_simp; try with_reducible rfl) ?_
          try (first | (rw [put_some]; dsimp only [List.set]) | rw [put_none])
          refine wpAnyH_ready (rs := [7]) (by kernel_rfl) (by simp) (AllReadyH.cons (o := _) rfl (fun K hK => ?_) AllReadyH.nil)
          have rF := r7.far (⟨g, 36, none⟩ : Addr) (.slice B11 (ds.length + 1) d11) (by show wr.heap.size ≠ g; have := HGR.out; have := HHG.out; omega)
          go_simp
          refine hK.out _ _ (row_range rF) (fun _ => ?_)
          clear hK K
          try (first | (rw [put_some]; dsimp only [List.set]) | rw [put_none])
          refine wpAnyH_done (by kernel_rfl) ?_ _
          refine NoPanic.normal ?_
          have hgrF := grown_trans hgr11 (grown_setCell w11 g 36 (.slice B11 (ds.length + 1) d11))
          rw [HDS.out, ← HM.out] at hat11
          clear hHeld hbs
          go_wp2_with fail
          go_roundw
          case rel => exact ⟨k + 1, by omega, by go_num, hat11, hgrF⟩
          case measure => simp [intOf]; omega
        · refine step_slice1 (some 21) rfl (by rfl) 28 1 0 (.tmp 20) rfl (.agg V8.toArray) _ rfl (hbo.out _) ?_
          have hb4 := (Below.refl w3.heap.size w3).alloc (Nat.le_refl _) (.cells V8.toArray 27); have hl10 := tok_sl w3 V8; rw [HlV8.out] at hl10; have hsl8 := hsl8.later (Nat.le_refl _) hb4; have r7 := r7.later hb4 r7.lt; have rG := rG.later hb4 rG.lt; have own9 := ownk_later own9 hb4 (Nat.le_refl _); have hcv9 : ∀ e ∈ (u4, A9, c9) :: ds, Cvs (w3.alloc (.cells V8.toArray 27)) e ∧ Apart lo g B9 e := (fun e he => ⟨(hcv9 e he).1.later (Nat.le_refl _) hb4, (hcv9 e he).2⟩); have hbs := hbs.trans (hb4.mono hbs.size); clear hb4
          refine hK.out _ _ (row_range r7) (fun _ => ?_)
          clear hK K hHeld
          have hHeld := row_range r7
          try (first | (rw [put_some]; dsimp only [List.set]) | rw [put_none])
          refine wpAnyH_ready (rs := [1]) (by kernel_rfl) (by simp) (AllReadyH.cons (o := _) rfl (fun K hK => ?_) AllReadyH.nil)
          have hcg := row_bun_dis hu4 rG
          go_simp
          refine hK.out _ _ hHeld (fun _ => ?_)
          clear hK K hcg
          try (first | (rw [put_some]; dsimp only [List.set]) | rw [put_none])
          refine wpAnyH_ready (rs := [5]) (by kernel_rfl) (by simp) (AllReadyH.cons (o := _) rfl (fun K hK => ?_) AllReadyH.nil)
          have hdd10 : Cvs (w3.alloc (.cells V8.toArray 27)) (dd.1, B8, d8) ∧ Apart lo g B9 (dd.1, B8, d8) := ⟨hsl8, fun hp a ha => ⟨by have := HF8.out a ha; have := HLOW.out; omega, by have := HF8.out a ha; have := HGR.out; have := HHG.out; omega, fun p hpB => by have := HF8.out a ha; have := HBL.out _ hpB; omega⟩⟩
          have hbase : base ≤ (w3.alloc (.cells V8.toArray 27)).heap.size := Nat.le_trans (Nat.le_trans HGR.out hb7w) hbs.size
          refine step_append_one (some 22) rfl (by rfl) (.tmp 18) (.tmp 21) 28 rfl base 27 i0 _ 36 88 Try.underlying28 hi hz0 hz1 (by omega) hz2 rfl _ ds.length (ds.flatMap disV) rfl own9 ⟨w3.heap.size, 0, none⟩ 1 V8 rfl HlV8.out (by rw [Nat.one_mul]; exact hl10) honl8.out n1 n2 hbase ?_; intro v11 w11 own11 hg11 hnew11; obtain ⟨B11, d11, rfl, _, _⟩ := Sl.of_ownk own11; obtain ⟨hat11, hc11, hf11⟩ := bunAt_append hu4 HHG.out rG own9 hcv9 hdd10 (by rw [HV8.out] at own11; exact own11) hg11 hnew11; have hgr11 := grown_own (grown_trans hgr7 (grown_of_below hbs _)) hg11 (fun k hk => by have h1 := (own9.lt k hk).1; rw [HBASE.out] at h1; exact h1)
          have r7 : Row w11 wr.heap.size 27 V2 := by unfold Row; rw [hg11.block wr.heap.size r7.lt (fun e => by cases B9 with | none => cases e | some p => have h1 := HBL.out p rfl; have h2 : wr.heap.size = p.block := Option.some.inj e; omega)]; exact r7
          refine hK.out _ _ (row_range r7) (fun _ => ?_)
          clear hK K hHeld own11 hg11 hnew11 hdd10 own9 rG hcv9 hl10 hsl8
          have hHeld := row_range r7
          try (first | (rw [put_some]; dsimp only [List.set]) | rw [put_none])
          refine rtake 6 _ (some 23) _ rfl rfl (by kernel_rfl) (by kernel_rfl) (by kernel_rfl) (fun _ _ _ h => h) (by rfl) hHeld (by intro w hS; go_simp; try with_reducible rfl) ?_
          try (first | (rw [put_some]; dsimp only [List.set]) | rw [put_none])
          refine wpAnyH_ready (rs := [7]) (by kernel_rfl) (by simp) (AllReadyH.cons (o := _) rfl (fun K hK => ?_) AllReadyH.nil)
          have rF := r7.far (⟨g, 36, none⟩ : Addr) (.slice B11 (ds.length + 1) d11) (by show wr.heap.size ≠ g; have := HGR.out; have := HHG.out; omega)
          go_simp
          refine hK.out _ _ (row_range rF) (fun _ => ?_)
          clear hK K
          try (first | (rw [put_some]; dsimp only [List.set]) | rw [put_none])
          refine wpAnyH_done (by kernel_rfl) ?_ _
          refine NoPanic.normal ?_
          have hgrF := grown_trans hgr11 (grown_setCell w11 g 36 (.slice B11 (ds.length + 1) d11))
          rw [HDS.out, ← HM.out] at hat11
          clear hHeld hbs
          go_wp2_with fail
          go_roundw
          case rel => exact ⟨k + 1, by omega, by go_num, hat11, hgrF⟩
          case measure => simp [intOf]; omega
    · obtain rfl : k = ds0.length := by omega
      rw [← hlen, List.take_length] at hat
      obtain ⟨VX, rX, hlX, honX, hbX⟩ := hat.bunV ⟨hu4, hok⟩ (by rw [HLO.out, HBASE.out]; have := hbw6.size; omega)
      have hlow : w.heap.size + 1 < lo := by rw [HLO.out]; omega
      have hlow2 : w.heap.size ≤ lo := by rw [HLO.out]; omega
      have RX := Lib.hid (show wr.heap[g]? = some (.cells VX.toArray 30 (0, 0)) from rX)
      have hzX := Lib.hid (show (Try.prog.info? 30).map (·.size) = some VX.toArray.size by rw [size_bun, List.size_toArray, hlX])
      have h37X := Lib.hid (show 37 = VX.toArray.size by rw [List.size_toArray, hlX])
      have honeX := Lib.hid (all_one honX)
      have HL1 := Lib.hid hlow
      have HL2 := Lib.hid hlow2
      clear hat hlt hk rX hlX honX hp6 hlow hlow2 hm hok hlen
      generalize ds0.length = n at *
      go_wp2_with (first
          | (with_reducible refine wpList_load_row rfl 30 (.tmp 5) rfl g rfl 30 VX.toArray (0, 0) _ RX.out Try.underlying30 rfl hzX.out ?_)
          | (with_reducible refine wpList_store_row rfl 30 (.tmp 4) (.tmp 25) rfl (w.heap.size + 1) VX.toArray rfl rfl 30 Z.toArray RZ.out hzX.out (Eq.trans h37Z.out.symm h37X.out) honeX.out ?_; refine Hid.out ?_))
      refine Lib.hid ?_
      generalize hw9 : World.setRow _ _ _ = w9
      obtain ⟨r9, hg9⟩ := row_set (xs := VX) (show Row _ (w.heap.size + 1) 30 Z from RZ.out) hw9
      have R9 := Lib.hid (show w9.heap[w.heap.size + 1]? = some (.cells VX.toArray 30 (0, 0)) from r9)
      have hb9 := hbw.grown hg9 hbw.size (fun k h => by cases h; exact Nat.le_succ _)
      have hbX9 := (hbX.set hg9 HL1.out).mono HL2.out
      clear hw9 r9 hg9
      go_wp2_with (with_reducible refine bodyPost_ret (results_cell_row rfl _ _ (w.heap.size + 1) 30 VX.toArray (0, 0) _ rfl R9.out Try.underlying30 rfl hzX.out) rfl ?_)
      exact ⟨.agg VX.toArray, rfl, hbX9, hb9⟩
theorem bof_v {lo : Nat} {b : Bun} {w : World} {v : Value} (hb : b.Ok) (hm : ∀ e ∈ b.root :: b.dis, e.cavs.length ≤ 1000000) (hn : b.dis.length ≤ 1000000) (h : BunV lo b w v) :
    ∃ A c B d, ∃ ds : List Dis, v = .agg (bunV b.root A c B ds.length d).toArray ∧ ∀ w', Below w.heap.size w w' → Calls Try.prog 17 #[.agg (tokV b.root A c).toArray, .slice B ds.length d] w' fun e w'' => ∃ v', e = .returned v' ∧ BunV w'.heap.size b w'' v' ∧ Below w'.heap.size w' w'' := by
  obtain ⟨A, c, B, d, ds, rfl, hbo, hs, hp⟩ := h.parts
  have hd := bunOf_dis hbo
  refine ⟨A, c, B, d, ds, rfl, fun w' hb' => ?_⟩
  have h1 := bof_any b.root ds hb.root (by rw [← hd]; exact hb.dis) (by rw [← hd]; exact hm) A c B d w' (hs.later (Nat.le_refl _) hb') (hp.later (Nat.le_refl _) hb') (by rw [← toks_len, ← hd]; exact hn)
  rw [← hbo] at h1; exact h1
set_option maxRecDepth 20000 in
set_option maxHeartbeats 2000000 in
theorem bclone_v {lo : Nat} {b : Bun} {w : World} {v : Value} (hb : b.Ok) (hm : ∀ e ∈ b.root :: b.dis, e.cavs.length ≤ 1000000) (hn : b.dis.length ≤ 1000000) (h : BunV lo b w v) :
    Calls Try.prog 16 #[v] w fun e w' => ∃ v', e = .returned v' ∧ BunV w.heap.size b w' v' ∧ Below w.heap.size w w' := by
  obtain ⟨A, c, B, d, ds, rfl, hof⟩ := bof_v hb hm hn h
  obtain ⟨Z, hZ⟩ : ∃ Z, Z = bunV zeroK none 0 none 0 0 := ⟨_, rfl⟩
  have hzl : Z.length = 37 := by rw [hZ]; exact length_bunV zeroK_ok none 0 none 0 0
  have hzK := Lib.hid (show (Try.prog.info? 30).map (·.size) = some Z.toArray.size by rw [size_bun, List.size_toArray, hzl])
  have h37Z := Lib.hid (show 37 = Z.toArray.size by rw [List.size_toArray, hzl])
  have HZ := Lib.hid hZ
  obtain ⟨r0, rz, hb1, hsz1⟩ := two_rows (w := w) (A := bunV b.root A c B ds.length d) (B := [Value.int .u64 0, .string { data := #[] }, .slice none 0 0, .bool false, .int .u8 0, .int .u8 0, .int .u8 0, .int .u8 0, .int .u8 0, .int .u8 0, .int .u8 0, .int .u8 0, .int .u8 0, .int .u8 0, .int .u8 0, .int .u8 0, .int .u8 0, .int .u8 0, .int .u8 0, .int .u8 0, .int .u8 0, .int .u8 0, .int .u8 0, .int .u8 0, .int .u8 0, .int .u8 0, .int .u8 0, .int .u8 0, .int .u8 0, .int .u8 0, .int .u8 0, .int .u8 0, .int .u8 0, .int .u8 0, .int .u8 0, .int .u8 0, .slice none 0 0]) (tA := 30) (tB := 30) rfl
  have hT := row_bun_tok r0
  have hD := row_bun_dis hb.root r0
  have hlT := length_tokV hb.root A c
  have hof1 := Lib.hid (hof _ hb1)
  have RZ1 : Row ((w.alloc (.cells (bunV b.root A c B ds.length d).toArray 30)).alloc (.cells [Value.int .u64 0, .string { data := #[] }, .slice none 0 0, .bool false, .int .u8 0, .int .u8 0, .int .u8 0, .int .u8 0, .int .u8 0, .int .u8 0, .int .u8 0, .int .u8 0, .int .u8 0, .int .u8 0, .int .u8 0, .int .u8 0, .int .u8 0, .int .u8 0, .int .u8 0, .int .u8 0, .int .u8 0, .int .u8 0, .int .u8 0, .int .u8 0, .int .u8 0, .int .u8 0, .int .u8 0, .int .u8 0, .int .u8 0, .int .u8 0, .int .u8 0, .int .u8 0, .int .u8 0, .int .u8 0, .int .u8 0, .int .u8 0, .slice none 0 0].toArray 30)) (w.heap.size + 1) 30 Z := by rw [hZ, zbun]; exact rz
  obtain ⟨VT, hVT⟩ : ∃ V, V = tokV b.root A c := ⟨_, rfl⟩
  rw [← hVT] at hT hof1 hlT
  generalize bunV b.root A c B ds.length d = V at *
  have hzT := Lib.hid (show (Try.prog.info? 27).map (·.size) = some VT.length by rw [size_tok, hlT])
  have HSZ := Lib.hid hsz1
  clear hVT hlT hof h r0 rz hZ hzl hsz1
  generalize ds.length = n at *
  go_enter Try.func16, Try.ntmps16
  go_wp2_with (first
    | (with_reducible refine wpList_load_mid rfl 27 (.tmp 3) rfl w.heap.size 0 rfl VT _ hT Try.underlying27 rfl hzT.out ?_)
    | (go_at_call 17; refine hof1.out.mono ?_; rintro e w2 ⟨v2, rfl, hv2, hb2⟩; obtain ⟨V2, rfl, hl2, ho2, _⟩ := hv2.cells hb; have hz2 := Lib.hid (show (Try.prog.info? 30).map (·.size) = some V2.toArray.size by rw [size_bun, List.size_toArray, hl2]); have h372 := Lib.hid (show 37 = V2.toArray.size by rw [List.size_toArray, hl2]); have hone2 := Lib.hid (all_one ho2); have rz2 := RZ1.later hb2 RZ1.lt; have RZ := Lib.hid (show w2.heap[w.heap.size + 1]? = some (.cells Z.toArray 30 (0, 0)) from rz2); have hbw2 := hb1.trans (hb2.mono hb1.size); clear hl2 ho2)
    | (with_reducible refine wpList_store_row rfl 30 (.tmp 2) (.tmp 7) rfl (w.heap.size + 1) V2.toArray rfl rfl 30 Z.toArray RZ.out hz2.out (Eq.trans h37Z.out.symm h372.out) hone2.out ?_; refine Hid.out ?_))
  refine Lib.hid ?_
  generalize hw9 : World.setRow _ _ _ = w9
  obtain ⟨r9, hg9⟩ := row_set (xs := V2) (show Row _ (w.heap.size + 1) 30 Z from RZ.out) hw9
  have R9 := Lib.hid (show w9.heap[w.heap.size + 1]? = some (.cells V2.toArray 30 (0, 0)) from r9)
  have hb9 := hbw2.grown hg9 hbw2.size (fun k h => by cases h; exact Nat.le_succ _)
  have hv9 := (hv2.set hg9 (by rw [HSZ.out]; omega)).mono (show w.heap.size ≤ _ by rw [HSZ.out]; omega)
  clear hw9 r9 hg9
  go_wp2_with (with_reducible refine bodyPost_ret (results_cell_row rfl _ _ (w.heap.size + 1) 30 V2.toArray (0, 0) _ rfl R9.out Try.underlying30 rfl hz2.out) rfl ?_)
  exact ⟨.agg V2.toArray, rfl, hv9, hb9⟩
end Go.Proofs.Ythiebbhooigogaa

/- LAYER 11: bundleAlive. -/
namespace Go.Proofs.Ythiebbhooigogaa
open Go Go.RowKit

theorem zbunA : (bunV zeroK none 0 none 0 0).toArray = (#[Value.int .u64 0, .string { data := #[] }, .slice none 0 0, .bool false, .int .u8 0, .int .u8 0, .int .u8 0, .int .u8 0, .int .u8 0, .int .u8 0, .int .u8 0, .int .u8 0, .int .u8 0, .int .u8 0, .int .u8 0, .int .u8 0, .int .u8 0, .int .u8 0, .int .u8 0, .int .u8 0, .int .u8 0, .int .u8 0, .int .u8 0, .int .u8 0, .int .u8 0, .int .u8 0, .int .u8 0, .int .u8 0, .int .u8 0, .int .u8 0, .int .u8 0, .int .u8 0, .int .u8 0, .int .u8 0, .int .u8 0, .int .u8 0, .slice none 0 0] : Array Value) := by kernel_rfl
theorem zeroB_check : checkB zeroB = true := rfl
theorem zeroB_len : (bytesB zeroB).length = 44 := by decide +kernel
theorem zeroB_enc : encB zeroB = bytesB zeroB ∧ errB zeroB = 0 := by
  have h := zeroB_len
  constructor
  · unfold encB; rw [if_pos ⟨zeroB_check, by omega⟩]
  · unfold errB; rw [if_pos zeroB_check, if_neg (by omega)]
theorem zeroB_dec : errD (bytesB zeroB) = 0 ∧ bunD (bytesB zeroB) = zeroB := by
  have h := zeroB_len
  have h2 := decB_bytesB zeroB_ok zeroB_check
  constructor
  · unfold errD; rw [if_neg (by omega), h2]; rfl
  · unfold bunD; rw [if_neg (by omega), h2]; rfl
theorem BunV.zeroA (lo : Nat) (w : World) : BunV lo zeroB w (.agg #[Value.int .u64 0, .string { data := #[] }, .slice none 0 0, .bool false, .int .u8 0, .int .u8 0, .int .u8 0, .int .u8 0, .int .u8 0, .int .u8 0, .int .u8 0, .int .u8 0, .int .u8 0, .int .u8 0, .int .u8 0, .int .u8 0, .int .u8 0, .int .u8 0, .int .u8 0, .int .u8 0, .int .u8 0, .int .u8 0, .int .u8 0, .int .u8 0, .int .u8 0, .int .u8 0, .int .u8 0, .int .u8 0, .int .u8 0, .int .u8 0, .int .u8 0, .int .u8 0, .int .u8 0, .int .u8 0, .int .u8 0, .int .u8 0, .slice none 0 0]) := by rw [← zbunA]; exact BunV.zero lo w
set_option maxRecDepth 20000 in
set_option maxHeartbeats 2000000 in
theorem balive_any (w : World) :
    Calls Try.prog 6 #[] w fun e w' => e = .returned (.bool true) ∧ Below w.heap.size w w' := by
  have hzl := zeroB_len
  have henc := Lib.hid (show ∀ w1, Calls Try.prog 8 #[.agg #[Value.int .u64 0, .string { data := #[] }, .slice none 0 0, .bool false, .int .u8 0, .int .u8 0, .int .u8 0, .int .u8 0, .int .u8 0, .int .u8 0, .int .u8 0, .int .u8 0, .int .u8 0, .int .u8 0, .int .u8 0, .int .u8 0, .int .u8 0, .int .u8 0, .int .u8 0, .int .u8 0, .int .u8 0, .int .u8 0, .int .u8 0, .int .u8 0, .int .u8 0, .int .u8 0, .int .u8 0, .int .u8 0, .int .u8 0, .int .u8 0, .int .u8 0, .int .u8 0, .int .u8 0, .int .u8 0, .int .u8 0, .int .u8 0, .slice none 0 0]] w1 fun e w' => ∃ B d, e = .returned (.tuple #[.slice B 44 d, .int .i64 0]) ∧ Sl w' B d (byts (bytesB zeroB)) ∧ Below w1.heap.size w1 w' by
    intro w1
    have h := benc_v zeroB_ok zeroB_fit (fun _ => by omega) (BunV.zeroA 0 w1)
    rw [zeroB_enc.1, zeroB_enc.2, hzl] at h
    exact h)
  have hdec := Lib.hid (show ∀ w1 B d, Sl w1 B d (byts (bytesB zeroB)) → Calls Try.prog 10 #[.slice B 44 d] w1 fun e w' => ∃ v, e = .returned (.tuple #[v, .int .i64 0]) ∧ BunV (w1.heap.size + 1) zeroB w' v ∧ Below w1.heap.size w1 w' by
    intro w1 B d h
    have h := bdec_any B 44 d (bytesB zeroB) w1 h hzl.symm (by omega)
    rw [zeroB_dec.1, zeroB_dec.2] at h
    exact h)
  have hsame := Lib.hid (show ∀ lo w1 v, BunV lo zeroB w1 v → Calls Try.prog 15 #[v, .agg #[Value.int .u64 0, .string { data := #[] }, .slice none 0 0, .bool false, .int .u8 0, .int .u8 0, .int .u8 0, .int .u8 0, .int .u8 0, .int .u8 0, .int .u8 0, .int .u8 0, .int .u8 0, .int .u8 0, .int .u8 0, .int .u8 0, .int .u8 0, .int .u8 0, .int .u8 0, .int .u8 0, .int .u8 0, .int .u8 0, .int .u8 0, .int .u8 0, .int .u8 0, .int .u8 0, .int .u8 0, .int .u8 0, .int .u8 0, .int .u8 0, .int .u8 0, .int .u8 0, .int .u8 0, .int .u8 0, .int .u8 0, .int .u8 0, .slice none 0 0]] w1 fun e w' => e = .returned (.bool true) ∧ Below w1.heap.size w1 w' by
    intro lo w1 v h
    have h := bsame_v zeroB_ok zeroB_ok zeroB_fit h (BunV.zeroA 0 w1)
    rw [decide_eq_true rfl] at h
    exact h)
  clear hzl
  go_enter Try.func6, Try.ntmps6
  go_wp2_with (first
    | (go_at_call 8; refine (henc.out _).mono ?_; rintro e w1 ⟨B1, d1, rfl, hsl1, hb1⟩)
    | (go_at_call 10; refine (hdec.out _ _ _ hsl1).mono ?_; rintro e w2 ⟨v2, rfl, hv2, hb2⟩; have hbw2 := hb1.trans (hb2.mono hb1.size); obtain ⟨V, rfl, hl2, ho2, _⟩ := hv2.cells zeroB_ok; have hone := Lib.hid (all_one ho2); have hz1 := Lib.hid (show (Try.prog.info? 30).map (·.size) = some V.toArray.size by rw [size_bun, List.size_toArray, hl2]); have h37 := Lib.hid (show 37 = V.toArray.size by rw [List.size_toArray, hl2]); clear hl2 ho2 hb1 hsl1)
    | (with_reducible refine wpList_store_row rfl 30 (.tmp 3) (.tmp 13) rfl w2.heap.size V.toArray rfl rfl 30 _ (heap_alloc_new w2 _) hz1.out (Eq.trans (by kernel_rfl) h37.out) hone.out ?_; refine Hid.out ?_))
  refine Lib.hid ?_
  generalize hw3 : World.setRow _ _ _ = w3
  obtain ⟨r3, hb3⟩ := row_new_set (xs := V) hw3
  have R3 := Lib.hid (show w3.heap[w2.heap.size]? = some (.cells V.toArray 30 (0, 0)) from r3)
  have hbw3 := hbw2.trans (hb3.mono hbw2.size)
  have hv3 := hv2.later hb3
  clear hw3 r3 hb3 hbw2 hv2
  go_wp2_with (first
    | (refine wpList_step fun K hK => ?_; refine step_load_mid (some 27) rfl (by rfl) 30 (.tmp 3) rfl w2.heap.size 0 rfl V _ (row_range R3.out) Try.underlying30 rfl (Eq.trans hz1.out (by rw [List.size_toArray])) ?_; refine hK _ _ ?_)
    | (go_at_call 15; refine (hsame.out _ _ _ hv3).mono ?_; rintro e w4 ⟨rfl, hb4⟩; have hbw4 := hbw3.trans (hb4.mono hbw3.size)))
  go_ret
  exact ⟨rfl, hbw4⟩
end Go.Proofs.Ythiebbhooigogaa
