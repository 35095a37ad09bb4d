/- Texts of this claim, one behind the other. -/
import Derived.Test.YtnkkgclmmaakgaaDoorRbai
import Derived.Test.YtnkkgclmmaakgaaDoorRbae
import Derived.Lib.AppendStr
import Derived.Test.YtnkkgclmmaakgaaDoorRbag
/- LAYER 11: package bundle: Of, Clone. -/
namespace Go.Proofs.YtnkkgclmmaakgaaDoor
set_option maxRecDepth 100000
open Go Go.RowKit

/-- A bundle whose discharges are the call's own, made since lo, and apart from all caveats. -/
def BunO (lo : Nat) (b : Bun) (w : World) (v : Value) : Prop :=
  ∃ A c B d ds, v = .agg (bunV b.root A c B ds.length d).toArray ∧ toks ds = b.dis ∧ w.ownsRow lo 27 36 (.slice B ds.length d) ds.length (ds.flatMap disV) ∧ ∀ e ∈ (b.root, A, c) :: ds, Cvs w e ∧ (0 < e.1.cavs.length → ∀ a, e.2.1 = some a → lo ≤ a.block ∧ ∀ p, B = some p → p.block ≠ a.block)
theorem BunO.bunV {lo : Nat} {b : Bun} {w : World} {v : Value} (h : BunO lo b w v) : BunV lo b w v := by
  obtain ⟨A, c, B, d, ds, h1, h2, h3, h4⟩ := h
  have hfr := ownk_fresh h3
  obtain ⟨_, _, hve, _, hsl⟩ := Sl.of_ownk h3
  injection hve with e1 e2 e3
  subst e1 e3
  exact ⟨A, c, B, d, ds, h1, h2, hsl, fun e he => ⟨(h4 e he).1, fun hp a ha => ((h4 e he).2 hp a ha).1⟩, hfr⟩
theorem BunO.set {w w' : World} {lo g : Nat} {b : Bun} {v : Value} (h : BunO lo b w v) (hgr : w.grownBy w' (some g)) (hg : g < lo) : BunO lo b w' v := by
  obtain ⟨A, c, B, d, ds, h1, h2, h3, h4⟩ := h
  exact ⟨A, c, B, d, ds, h1, h2, ownk_grown h3 hgr hg, fun e he => ⟨(h4 e he).1.set (fun hp a ha => ((h4 e he).2 hp a ha).1) hgr hg, (h4 e he).2⟩⟩
theorem BunO.mono {w : World} {lo lo' : Nat} {b : Bun} {v : Value} (h : BunO lo b w v) (hl : lo' ≤ lo) : BunO lo' b w v := by
  obtain ⟨A, c, B, d, ds, h1, h2, h3, h4⟩ := h
  refine ⟨A, c, B, d, ds, h1, h2, ?_, fun e he => ⟨(h4 e he).1, fun hp a ha => ⟨Nat.le_trans hl ((h4 e he).2 hp a ha).1, ((h4 e he).2 hp a ha).2⟩⟩⟩
  obtain ⟨hl2, h | ⟨g, cap, cur, q, hg, h⟩⟩ := h3
  · exact ⟨hl2, .inl h⟩
  · exact ⟨hl2, .inr ⟨g, cap, cur, q, Nat.le_trans hl hg, h⟩⟩
theorem BunAt.bunO {w : World} {lo base g : Nat} {b : Bun} (h : BunAt w lo base g b) (hb : b.Ok) (hlo : lo ≤ base) : ∃ V, Row w g 40 V ∧ V.length = 37 ∧ (∀ v ∈ V, v.oneCell' = true) ∧ BunO lo b w (.agg V.toArray) := by
  obtain ⟨A, c, B, d, ds, h1, h2, h3, h4⟩ := h
  refine ⟨_, h2, length_bunV hb.root A c B ds.length d, bunV_one _ _ _ _ _ _, A, c, B, d, ds, rfl, h1, ?_, fun e he => ⟨(h4 e he).1, fun hp a ha => ⟨((h4 e he).2 hp a ha).1, ((h4 e he).2 hp a ha).2.2⟩⟩⟩
  obtain ⟨hl2, h | ⟨g, cap, cur, q, hg, h⟩⟩ := h3
  · exact ⟨hl2, .inl h⟩
  · exact ⟨hl2, .inr ⟨g, cap, cur, q, Nat.le_trans hlo hg, h⟩⟩
set_option maxRecDepth 100000 in
set_option maxHeartbeats 4000000 in
theorem bof_any (u4 : Tok) (ds0 : List Dis) (hu4 : u4.Ok) (hok : ∀ d ∈ toks ds0, d.Ok) (hm : ∀ e ∈ u4 :: toks ds0, e.cavs.length ≤ 1000000) (A : Option Addr) (c : Nat) (B : Option Addr) (d : Nat) (w : World) (hs : Sl w A (c * 5) (u4.cavs.flatMap cavV)) (hp : Bs w B d ds0) (hcl : ds0.length ≤ 1000000) :
    Calls Tryd.prog 36 #[.agg (tokV u4 A c).toArray, .slice B ds0.length d] w fun e w' => ∃ v, e = .returned v ∧ BunO w.heap.size (bunOf u4 ds0) w' v ∧ Below w.heap.size w w' := by
  obtain ⟨i0, hi, hz0, hz1, hz2⟩ := info_tok
  obtain ⟨Z, hZ⟩ : ∃ Z, Z = bunV zeroK none 0 none 0 0 := ⟨_, rfl⟩
  have hzl : Z.length = 37 := by rw [hZ]; exact length_bunV zeroK_ok none 0 none 0 0
  have hzK := Lib.hid (show (Tryd.prog.info? 40).map (·.size) = some Z.toArray.size by rw [size_bun, List.size_toArray, hzl])
  have h37Z := Lib.hid (show 37 = Z.toArray.size by rw [List.size_toArray, hzl])
  have HZ := Lib.hid hZ
  have hlen : (toks ds0).length = ds0.length := toks_len ds0
  obtain ⟨r0, rz, hb1, hsz1⟩ := two_rows (w := w) (A := tokV u4 A c) (B := [Value.int .u64 0, .string { data := #[] }, .slice none 0 0, .bool false, .int .u8 0, .int .u8 0, .int .u8 0, .int .u8 0, .int .u8 0, .int .u8 0, .int .u8 0, .int .u8 0, .int .u8 0, .int .u8 0, .int .u8 0, .int .u8 0, .int .u8 0, .int .u8 0, .int .u8 0, .int .u8 0, .int .u8 0, .int .u8 0, .int .u8 0, .int .u8 0, .int .u8 0, .int .u8 0, .int .u8 0, .int .u8 0, .int .u8 0, .int .u8 0, .int .u8 0, .int .u8 0, .int .u8 0, .int .u8 0, .int .u8 0, .int .u8 0, .slice none 0 0]) (tA := 27) (tB := 40) rfl
  have hcl0 := Lib.hid (fun w' h => pclone_fresh u4 hu4 (hm u4 List.mem_cons_self) A c w' h)
  have hlT := length_tokV hu4 A c
  obtain ⟨VT, hVT⟩ : ∃ V, V = tokV u4 A c := ⟨_, rfl⟩
  rw [← hVT] at r0 rz hb1 hsz1 hcl0 hlT ⊢
  have hzT := Lib.hid (show (Tryd.prog.info? 27).map (·.size) = some VT.toArray.size by rw [size_tok, List.size_toArray, hlT])
  have R0 := Lib.hid (show ((w.alloc (.cells VT.toArray 27)).alloc (.cells [Value.int .u64 0, .string { data := #[] }, .slice none 0 0, .bool false, .int .u8 0, .int .u8 0, .int .u8 0, .int .u8 0, .int .u8 0, .int .u8 0, .int .u8 0, .int .u8 0, .int .u8 0, .int .u8 0, .int .u8 0, .int .u8 0, .int .u8 0, .int .u8 0, .int .u8 0, .int .u8 0, .int .u8 0, .int .u8 0, .int .u8 0, .int .u8 0, .int .u8 0, .int .u8 0, .int .u8 0, .int .u8 0, .int .u8 0, .int .u8 0, .int .u8 0, .int .u8 0, .int .u8 0, .int .u8 0, .int .u8 0, .int .u8 0, .slice none 0 0].toArray 40)).heap[w.heap.size]? = some (.cells VT.toArray 27 (0, 0)) from r0)
  have rz1 : Row ((w.alloc (.cells VT.toArray 27)).alloc (.cells [Value.int .u64 0, .string { data := #[] }, .slice none 0 0, .bool false, .int .u8 0, .int .u8 0, .int .u8 0, .int .u8 0, .int .u8 0, .int .u8 0, .int .u8 0, .int .u8 0, .int .u8 0, .int .u8 0, .int .u8 0, .int .u8 0, .int .u8 0, .int .u8 0, .int .u8 0, .int .u8 0, .int .u8 0, .int .u8 0, .int .u8 0, .int .u8 0, .int .u8 0, .int .u8 0, .int .u8 0, .int .u8 0, .int .u8 0, .int .u8 0, .int .u8 0, .int .u8 0, .int .u8 0, .int .u8 0, .int .u8 0, .int .u8 0, .slice none 0 0].toArray 40)) (w.heap.size + 1) 40 Z := by rw [hZ, zbun]; exact rz
  have hs1 := hs.later (Nat.le_refl _) hb1
  have HSZ1 := Lib.hid hsz1
  clear hVT hlT hZ hzl r0 rz hs hsz1
  go_enter Tryd.func36, Tryd.ntmps36
  go_wp2_with (first
      | (with_reducible refine wpList_load_row rfl 27 (.tmp 2) rfl w.heap.size rfl 27 VT.toArray (0, 0) _ R0.out Tryd.underlying27 rfl hzT.out ?_)
      | (go_at_call 19; refine (hcl0.out _ hs1).mono ?_; rintro e w4 ⟨B4, d4, rfl, hsl4, hfr4, hb4⟩; have hlV4 := length_tokV hu4 B4 d4; have hon4 := tokV_one u4 B4 d4; obtain ⟨V4, hV4⟩ : ∃ V, V = tokV u4 B4 d4 := ⟨_, rfl⟩; rw [← hV4] at hlV4 hon4 ⊢; obtain ⟨V7, hV7⟩ : ∃ V, V = V4 ++ [Value.slice none 0 0] := ⟨_, rfl⟩; have hbuild := Lib.hid (build_bun V4 hlV4); have hl7 : V7.length = 37 := (by rw [hV7, List.length_append, hlV4]; rfl); have ho7 : ∀ v ∈ V7, v.oneCell' = true := (fun v hv => by rw [hV7] at hv; rcases List.mem_append.1 hv with h | h; exact hon4 v h; rw [List.mem_singleton.1 h]; rfl); rw [← hV7] at hbuild; have HV7 := Lib.hid (show V7 = bunV u4 B4 d4 none 0 0 by rw [hV7, hV4]; rfl); have hz7 := Lib.hid (show (Tryd.prog.info? 40).map (·.size) = some V7.toArray.size by rw [size_bun, List.size_toArray, hl7]); have h37 := Lib.hid (show 37 = V7.toArray.size by rw [List.size_toArray, hl7]); have hone7 := Lib.hid (all_one ho7); have hbw4 := hb1.trans (hb4.mono hb1.size); clear hV4 hV7 hl7 ho7 hlV4 hon4)
      | (refine wpList_build1B rfl 40 0 (.tmp 9) rfl (.agg V4.toArray) _ rfl (hbuild.out _) ?_)
      | (with_reducible refine wpList_store_row rfl 40 (.tmp 5) (.tmp 10) rfl w4.heap.size V7.toArray rfl rfl 40 _ (heap_alloc_new w4 _) hz7.out (Eq.trans (by kernel_rfl) h37.out) hone7.out ?_; refine Hid.out ?_))
  refine Lib.hid ?_
  generalize hw6 : World.setRow _ _ _ = w6
  obtain ⟨r6, hb6⟩ := row_new_set (xs := V7) hw6
  rw [HV7.out] at r6
  have hfr4' : ∀ a, B4 = some a → w.heap.size + 2 ≤ a.block := fun a ha => by have h1 := hfr4 a ha; rw [HSZ1.out] at h1; exact h1
  have hat0 : BunAt w6 (w.heap.size + 2) w6.heap.size w4.heap.size ⟨u4, []⟩ := BunAt.start r6 (hsl4.later (Nat.le_refl _) hb6) (fun hp a ha => ⟨hfr4' a ha, by have := hsl4.block_lt (by rw [length_cavsV]; omega) ha; omega⟩)
  have hlg := r6.lt
  have hbw6 := hbw4.trans (hb6.mono hbw4.size)
  have HG := Lib.hid (show w.heap.size + 2 ≤ w4.heap.size by have h1 := hb4.size; rw [HSZ1.out] at h1; exact h1)
  have rz6 := (rz1.later hb4 rz1.lt).later hb6 (rz1.later hb4 rz1.lt).lt
  have RZ := Lib.hid (show w6.heap[w.heap.size + 1]? = some (.cells Z.toArray 40 (0, 0)) from rz6)
  have hp6 := hp.later (Nat.le_refl _) hbw6
  have HBB := Lib.hid (show ∀ b, 0 < ds0.length → B = some b → b.block < w.heap.size from fun b hx hb => hp.sl.block_lt (by rw [length_dissV hok]; omega) hb)
  have HCV := Lib.hid (show ∀ e ∈ ds0, Cvs w6 e from hp6.each)
  have HCW := Lib.hid (show ∀ e ∈ ds0, Cvs w e from hp.each)
  clear hw6 r6 hb6 hb4 hfr4 hfr4' hsl4 hbw4 hs1 rz1 rz6 hb1 hbuild hp
  generalize w4.heap.size = g at *
  obtain ⟨base, hbase0⟩ : ∃ base, base = w6.heap.size := ⟨_, rfl⟩
  obtain ⟨lo, hlo⟩ : ∃ lo, lo = w.heap.size + 2 := ⟨_, rfl⟩
  rw [← hbase0, ← hlo] at hat0
  have HBASE := Lib.hid hbase0
  have HLO := Lib.hid hlo
  clear hbase0 hlo
  go_wp2_with fail
  go_loopw [13] (fun i wr => ∃ k : Nat, k ≤ ds0.length ∧ i = .int .i64 k ∧ BunAt wr lo base g ⟨u4, (toks ds0).take k⟩ ∧ w6.grownBy wr (some g)) (fun i _ => ds0.length - (intOf i).toNat)
  case atStart => exact ⟨0, by omega, rfl, hat0, grown_refl _ _⟩
  case round =>
    clear hat0
    obtain ⟨k, hk, rfl, hat, hgr⟩ := hrel
    have hg2 := HG.out
    have hbw : Below w.heap.size w wr := hbw6.grown hgr hbw6.size (fun k h => by cases h; omega)
    have RZ := Lib.hid (show wr.heap[w.heap.size + 1]? = some (.cells Z.toArray 40 (0, 0)) from (hgr.block (w.heap.size + 1) (by omega) (fun e => by have := Option.some.inj e; omega)).trans RZ.out)
    by_cases hlt : k < ds0.length
    · obtain ⟨dd, hdd⟩ : ∃ dd, ds0[k]? = some dd := ⟨_, List.getElem?_eq_getElem hlt⟩
      have hslr := hp6.sl.apart hgr (fun _ a ha => by have := HBB.out a (by omega) ha; omega)
      obtain ⟨b, o, rfl⟩ := hp6.nonil hok hlt
      have hix := index_tok (some ⟨b, o, none⟩) b o ds0.length d k rfl hlt
      have hme : dd.1 ∈ toks ds0 := List.mem_of_getElem? (toks_get hdd)
      have hrg := hslr.thing (k := 36) (dis_ok hok) k dd hdd
      have hud := hok _ hme
      have hsd0 : Sl wr dd.2.1 (dd.2.2 * 5) (dd.1.cavs.flatMap cavV) := (HCW.out dd (List.mem_of_getElem? hdd)).later (Nat.le_refl _) hbw
      have hcl := Lib.hid (fun w' h => pclone_fresh dd.1 hud (hm _ (List.mem_cons_of_mem _ hme)) dd.2.1 dd.2.2 w' h)
      have HM := Lib.hid (show (toks ds0).take (k + 1) = (toks ds0).take k ++ [dd.1] by rw [List.take_add_one, toks_get hdd]; rfl)
      have hlV := length_disV hud
      have hofn : ∀ v ∈ disV dd, v.oneCell' = true := fun v hv => disV_one [dd] v (by simpa using hv)
      obtain ⟨V2, hV2q⟩ : ∃ V, V = disV dd := ⟨_, rfl⟩
      rw [← hV2q] at hlV hrg hofn
      rw [show tokV dd.1 dd.2.1 dd.2.2 = V2 from hV2q.symm] at hcl
      have hzf := Lib.hid (show (Tryd.prog.info? 27).map (·.size) = some V2.length by rw [size_tok, hlV])
      have hzf2 := Lib.hid (show (Tryd.prog.info? 27).map (·.size) = some V2.toArray.size by rw [size_tok, List.size_toArray, hlV])
      have hof := Lib.hid (all_one hofn)
      have hV2 := Lib.hid (show (36 : Nat) = V2.toArray.size by rw [List.size_toArray, hlV])
      have hmk : ((toks ds0).take k).length ≤ 1000000 := by rw [List.length_take]; omega
      generalize (toks ds0).take k = ms at *
      clear hV2q hdd hslr hlV hofn hme hm hok hlen hp6
      go_wp2_with (first
          | (with_reducible refine wpList_load_mid rfl 27 (.tmp 15) rfl b (o + k * 36) rfl V2 _ hrg Tryd.underlying27 rfl hzf.out ?_)
          | (with_reducible refine wpList_store_row rfl 27 (.tmp 7) (.tmp 16) rfl wr.heap.size V2.toArray rfl rfl 27 _ (heap_alloc_new wr _) hzf2.out (Eq.trans (by kernel_rfl) hV2.out) hof.out ?_; refine Hid.out ?_))
      refine Lib.hid ?_
      generalize hw7 : World.setRow _ _ _ = w7
      obtain ⟨r7, hb7⟩ := row_new_set (xs := V2) hw7
      have hbw7 := hbw.trans (hb7.mono hbw.size)
      obtain ⟨A9, c9, B9, d9, ds, hds, rGr, ownr, hcvr⟩ := hat
      have HBL := Lib.hid (show ∀ p, B9 = some p → p.block < wr.heap.size from fun p hp => (ownr.lt p.block (by rw [hp]; rfl)).2)
      have rG := rGr.later hb7 rGr.lt
      have own9 := ownk_later ownr hb7 (Nat.le_refl _)
      have hcv9 : ∀ e ∈ (u4, A9, c9) :: ds, Cvs w7 e ∧ Apart lo g B9 e := fun e he => ⟨(hcvr e he).1.later (Nat.le_refl _) hb7, (hcvr e he).2⟩
      have HDS := Lib.hid hds
      have hgr7 := grown_trans hgr (grown_of_below hb7 _)
      have HGR := Lib.hid (show base ≤ wr.heap.size by rw [HBASE.out]; exact hgr.size)
      have HHG := Lib.hid (show g < base by rw [HBASE.out]; exact hlg)
      have hdl : ds.length = ms.length := by rw [← toks_len ds, hds]
      have HDL := Lib.hid (show ds.length ≤ 1000000 by rw [hdl]; exact hmk)
      have n1 : ds.length + 1 ≤ maxLen := by unfold maxLen; have := HDL.out; omega
      have n2 : (ds.length + 1) * 88 ≤ 140737488355328 := by have := HDL.out; omega
      have hsd := hsd0.later (Nat.le_refl _) hb7
      have hb7w : wr.heap.size ≤ w7.heap.size := hb7.size
      have HLOW := Lib.hid (show lo ≤ wr.heap.size by rw [HLO.out]; have := hgr.size; omega)
      clear hw7 hb7 hgr rGr ownr hcvr hds hdl hmk hrg hix hsd0
      go_wp2_with fail
      refine wp_region_noPanic ?_
      refine wp_region_held_drew (S := fun w' => w'.rangeAt wr.heap.size 0 V2) (by kernel_rfl) (row_range (show Row (World.drew w7) wr.heap.size 27 V2 from r7)) (fun hHeld => ?_)
      have hbs : Below w7.heap.size w7 (World.drew w7) := (Below.refl _ _).drew
      have r7 : Row (World.drew w7) wr.heap.size 27 V2 := r7
      have rG : Row (World.drew w7) g 40 (bunV u4 A9 c9 B9 ds.length d9) := rG
      have own9 : (World.drew w7).ownsRow base 27 36 (.slice B9 ds.length d9) ds.length (ds.flatMap disV) := own9
      have hcv9 : ∀ e ∈ (u4, A9, c9) :: ds, Cvs (World.drew w7) e ∧ Apart lo g B9 e := fun e he => ⟨Sl.later (hcv9 e he).1 (Nat.le_refl _) hbs, (hcv9 e he).2⟩
      refine rt 0 17 hHeld ?_
      refine rt 2 19 hHeld ?_ (hy := by intro w hS; exact run_load_op 27 (.tmp 7) rfl _ 0 rfl V2 _ hS Tryd.underlying27 rfl hzf.out)
      refine rc2 1 3 (fun K hK => ?_) fun K hK => ?_
      · have hcg := row_bun_dis hu4 rG
        go_simp
        refine hK.out _ _ hHeld (fun _ => ?_)
        clear hK K hcg
        try (first | (rw [put_some]; dsimp only [List.set]) | rw [put_none])
        refine rc1 3 fun K hK => ?_
        go_simp
        refine (hcl.out _ (hsd.later (Nat.le_refl _) hbs)).mono ?_; rintro e w3 ⟨B8, d8, rfl, hsl8, hfr8, hb3⟩; have hlV8 := length_tokV hud B8 d8; have hon8 := tokV_one dd.1 B8 d8; obtain ⟨V8, hV8⟩ : ∃ V, V = tokV dd.1 B8 d8 := ⟨_, rfl⟩; rw [← hV8] at hlV8 hon8 ⊢; have HV8 := Lib.hid hV8; have HlV8 := Lib.hid hlV8; have honl8 := Lib.hid hon8; have HF8 := Lib.hid (show ∀ a, B8 = some a → wr.heap.size ≤ a.block from fun a ha => Nat.le_trans (Nat.le_trans hb7w hbs.size) (hfr8 a ha)); have hbo := Lib.hid (build_one V8 hlV8); clear hV8 hlV8 hon8 hfr8; have r7 := r7.later hb3 r7.lt; have rG := rG.later hb3 rG.lt; have own9 := ownk_later own9 hb3 (Nat.le_refl _); have hcv9 : ∀ e ∈ (u4, A9, c9) :: ds, Cvs w3 e ∧ Apart lo g B9 e := (fun e he => ⟨(hcv9 e he).1.later (Nat.le_refl _) hb3, (hcv9 e he).2⟩); have hbs := hbs.trans (hb3.mono hbs.size); clear hb3
        try go_wp2_with fail
        refine hK.out _ _ (row_range r7) (fun _ => ?_)
        clear hK K hHeld
        have hHeld := row_range r7
        try (first | (rw [put_some]; dsimp only [List.set]) | rw [put_none])
        refine rc1 4 fun K hK => ?_
        refine step_slice1 (some 21) rfl (by rfl) 38 1 0 (.tmp 20) rfl (.agg V8.toArray) _ rfl (hbo.out _) ?_
        have hb4 := (Below.refl w3.heap.size w3).alloc (Nat.le_refl _) (.cells V8.toArray 27); have hl10 := tok_sl w3 V8; rw [HlV8.out] at hl10; have hsl8 := hsl8.later (Nat.le_refl _) hb4; have r7 := r7.later hb4 r7.lt; have rG := rG.later hb4 rG.lt; have own9 := ownk_later own9 hb4 (Nat.le_refl _); have hcv9 : ∀ e ∈ (u4, A9, c9) :: ds, Cvs (w3.alloc (.cells V8.toArray 27)) e ∧ Apart lo g B9 e := (fun e he => ⟨(hcv9 e he).1.later (Nat.le_refl _) hb4, (hcv9 e he).2⟩); have hbs := hbs.trans (hb4.mono hbs.size); clear hb4
        refine hK.out _ _ (row_range r7) (fun _ => ?_)
        clear hK K hHeld
        have hHeld := row_range r7
        try (first | (rw [put_some]; dsimp only [List.set]) | rw [put_none])
        refine rc1 5 fun K hK => ?_
        have hdd10 : Cvs (w3.alloc (.cells V8.toArray 27)) (dd.1, B8, d8) ∧ Apart lo g B9 (dd.1, B8, d8) := ⟨hsl8, fun hp a ha => ⟨by have := HF8.out a ha; have := HLOW.out; omega, by have := HF8.out a ha; have := HGR.out; have := HHG.out; omega, fun p hpB => by have := HF8.out a ha; have := HBL.out _ hpB; omega⟩⟩
        have hbase : base ≤ (w3.alloc (.cells V8.toArray 27)).heap.size := Nat.le_trans (Nat.le_trans HGR.out hb7w) hbs.size
        refine step_append_one (some 22) rfl (by rfl) (.tmp 18) (.tmp 21) 38 rfl base 27 i0 _ 36 88 Tryd.underlying38 hi hz0 hz1 (by omega) hz2 rfl _ ds.length (ds.flatMap disV) rfl own9 ⟨w3.heap.size, 0, none⟩ 1 V8 rfl HlV8.out (by rw [Nat.one_mul]; exact hl10) honl8.out n1 n2 hbase ?_; intro v11 w11 own11 hg11 hnew11; obtain ⟨B11, d11, rfl, _, _⟩ := Sl.of_ownk own11; obtain ⟨hat11, hc11, hf11⟩ := bunAt_append hu4 HHG.out rG own9 hcv9 hdd10 (by rw [HV8.out] at own11; exact own11) hg11 hnew11; have hgr11 := grown_own (grown_trans hgr7 (grown_of_below hbs _)) hg11 (fun k hk => by have h1 := (own9.lt k hk).1; rw [HBASE.out] at h1; exact h1)
        have r7 : Row w11 wr.heap.size 27 V2 := by unfold Row; rw [hg11.block wr.heap.size r7.lt (fun e => by cases B9 with | none => cases e | some p => have h1 := HBL.out p rfl; have h2 : wr.heap.size = p.block := Option.some.inj e; omega)]; exact r7
        refine hK.out _ _ (row_range r7) (fun _ => ?_)
        clear hK K hHeld own11 hg11 hnew11 hdd10 own9 rG hcv9 hl10 hsl8
        have hHeld := row_range r7
        try (first | (rw [put_some]; dsimp only [List.set]) | rw [put_none])
        refine rt 6 23 hHeld ?_
        refine rc1 7 fun K hK => ?_
        have rF := r7.far (⟨g, 36, none⟩ : Addr) (.slice B11 (ds.length + 1) d11) (by show wr.heap.size ≠ g; have := HGR.out; have := HHG.out; omega)
        go_simp
        refine hK.out _ _ (row_range rF) (fun _ => ?_)
        clear hK K
        try (first | (rw [put_some]; dsimp only [List.set]) | rw [put_none])
        refine wpAnyH_done (by kernel_rfl) ?_ _
        refine NoPanic.normal ?_
        have hgrF := grown_trans hgr11 (grown_setCell w11 g 36 (.slice B11 (ds.length + 1) d11))
        rw [HDS.out, ← HM.out] at hat11
        clear hHeld hbs
        go_wp2_with fail
        go_roundw
        case rel => exact ⟨k + 1, by omega, by go_num, hat11, hgrF⟩
        case measure => simp [intOf]; omega
      · go_simp
        refine (hcl.out _ (hsd.later (Nat.le_refl _) hbs)).mono ?_; rintro e w3 ⟨B8, d8, rfl, hsl8, hfr8, hb3⟩; have hlV8 := length_tokV hud B8 d8; have hon8 := tokV_one dd.1 B8 d8; obtain ⟨V8, hV8⟩ : ∃ V, V = tokV dd.1 B8 d8 := ⟨_, rfl⟩; rw [← hV8] at hlV8 hon8 ⊢; have HV8 := Lib.hid hV8; have HlV8 := Lib.hid hlV8; have honl8 := Lib.hid hon8; have HF8 := Lib.hid (show ∀ a, B8 = some a → wr.heap.size ≤ a.block from fun a ha => Nat.le_trans (Nat.le_trans hb7w hbs.size) (hfr8 a ha)); have hbo := Lib.hid (build_one V8 hlV8); clear hV8 hlV8 hon8 hfr8; have r7 := r7.later hb3 r7.lt; have rG := rG.later hb3 rG.lt; have own9 := ownk_later own9 hb3 (Nat.le_refl _); have hcv9 : ∀ e ∈ (u4, A9, c9) :: ds, Cvs w3 e ∧ Apart lo g B9 e := (fun e he => ⟨(hcv9 e he).1.later (Nat.le_refl _) hb3, (hcv9 e he).2⟩); have hbs := hbs.trans (hb3.mono hbs.size); clear hb3
        try go_wp2_with fail
        refine hK.out _ _ (row_range r7) (fun _ => ?_)
        clear hK K hHeld
        have hHeld := row_range r7
        try (first | (rw [put_some]; dsimp only [List.set]) | rw [put_none])
        refine rc2 1 4 (fun K hK => ?_) fun K hK => ?_
        · have hcg := row_bun_dis hu4 rG
          go_simp
          refine hK.out _ _ hHeld (fun _ => ?_)
          clear hK K hcg
          try (first | (rw [put_some]; dsimp only [List.set]) | rw [put_none])
          refine rc1 4 fun K hK => ?_
          refine step_slice1 (some 21) rfl (by rfl) 38 1 0 (.tmp 20) rfl (.agg V8.toArray) _ rfl (hbo.out _) ?_
          have hb4 := (Below.refl w3.heap.size w3).alloc (Nat.le_refl _) (.cells V8.toArray 27); have hl10 := tok_sl w3 V8; rw [HlV8.out] at hl10; have hsl8 := hsl8.later (Nat.le_refl _) hb4; have r7 := r7.later hb4 r7.lt; have rG := rG.later hb4 rG.lt; have own9 := ownk_later own9 hb4 (Nat.le_refl _); have hcv9 : ∀ e ∈ (u4, A9, c9) :: ds, Cvs (w3.alloc (.cells V8.toArray 27)) e ∧ Apart lo g B9 e := (fun e he => ⟨(hcv9 e he).1.later (Nat.le_refl _) hb4, (hcv9 e he).2⟩); have hbs := hbs.trans (hb4.mono hbs.size); clear hb4
          refine hK.out _ _ (row_range r7) (fun _ => ?_)
          clear hK K hHeld
          have hHeld := row_range r7
          try (first | (rw [put_some]; dsimp only [List.set]) | rw [put_none])
          refine rc1 5 fun K hK => ?_
          have hdd10 : Cvs (w3.alloc (.cells V8.toArray 27)) (dd.1, B8, d8) ∧ Apart lo g B9 (dd.1, B8, d8) := ⟨hsl8, fun hp a ha => ⟨by have := HF8.out a ha; have := HLOW.out; omega, by have := HF8.out a ha; have := HGR.out; have := HHG.out; omega, fun p hpB => by have := HF8.out a ha; have := HBL.out _ hpB; omega⟩⟩
          have hbase : base ≤ (w3.alloc (.cells V8.toArray 27)).heap.size := Nat.le_trans (Nat.le_trans HGR.out hb7w) hbs.size
          refine step_append_one (some 22) rfl (by rfl) (.tmp 18) (.tmp 21) 38 rfl base 27 i0 _ 36 88 Tryd.underlying38 hi hz0 hz1 (by omega) hz2 rfl _ ds.length (ds.flatMap disV) rfl own9 ⟨w3.heap.size, 0, none⟩ 1 V8 rfl HlV8.out (by rw [Nat.one_mul]; exact hl10) honl8.out n1 n2 hbase ?_; intro v11 w11 own11 hg11 hnew11; obtain ⟨B11, d11, rfl, _, _⟩ := Sl.of_ownk own11; obtain ⟨hat11, hc11, hf11⟩ := bunAt_append hu4 HHG.out rG own9 hcv9 hdd10 (by rw [HV8.out] at own11; exact own11) hg11 hnew11; have hgr11 := grown_own (grown_trans hgr7 (grown_of_below hbs _)) hg11 (fun k hk => by have h1 := (own9.lt k hk).1; rw [HBASE.out] at h1; exact h1)
          have r7 : Row w11 wr.heap.size 27 V2 := by unfold Row; rw [hg11.block wr.heap.size r7.lt (fun e => by cases B9 with | none => cases e | some p => have h1 := HBL.out p rfl; have h2 : wr.heap.size = p.block := Option.some.inj e; omega)]; exact r7
          refine hK.out _ _ (row_range r7) (fun _ => ?_)
          clear hK K hHeld own11 hg11 hnew11 hdd10 own9 rG hcv9 hl10 hsl8
          have hHeld := row_range r7
          try (first | (rw [put_some]; dsimp only [List.set]) | rw [put_none])
          refine rt 6 23 hHeld ?_
          refine rc1 7 fun K hK => ?_
          have rF := r7.far (⟨g, 36, none⟩ : Addr) (.slice B11 (ds.length + 1) d11) (by show wr.heap.size ≠ g; have := HGR.out; have := HHG.out; omega)
          go_simp
          refine hK.out _ _ (row_range rF) (fun _ => ?_)
          clear hK K
          try (first | (rw [put_some]; dsimp only [List.set]) | rw [put_none])
          refine wpAnyH_done (by kernel_rfl) ?_ _
          refine NoPanic.normal ?_
          have hgrF := grown_trans hgr11 (grown_setCell w11 g 36 (.slice B11 (ds.length + 1) d11))
          rw [HDS.out, ← HM.out] at hat11
          clear hHeld hbs
          go_wp2_with fail
          go_roundw
          case rel => exact ⟨k + 1, by omega, by go_num, hat11, hgrF⟩
          case measure => simp [intOf]; omega
        · refine step_slice1 (some 21) rfl (by rfl) 38 1 0 (.tmp 20) rfl (.agg V8.toArray) _ rfl (hbo.out _) ?_
          have hb4 := (Below.refl w3.heap.size w3).alloc (Nat.le_refl _) (.cells V8.toArray 27); have hl10 := tok_sl w3 V8; rw [HlV8.out] at hl10; have hsl8 := hsl8.later (Nat.le_refl _) hb4; have r7 := r7.later hb4 r7.lt; have rG := rG.later hb4 rG.lt; have own9 := ownk_later own9 hb4 (Nat.le_refl _); have hcv9 : ∀ e ∈ (u4, A9, c9) :: ds, Cvs (w3.alloc (.cells V8.toArray 27)) e ∧ Apart lo g B9 e := (fun e he => ⟨(hcv9 e he).1.later (Nat.le_refl _) hb4, (hcv9 e he).2⟩); have hbs := hbs.trans (hb4.mono hbs.size); clear hb4
          refine hK.out _ _ (row_range r7) (fun _ => ?_)
          clear hK K hHeld
          have hHeld := row_range r7
          try (first | (rw [put_some]; dsimp only [List.set]) | rw [put_none])
          refine rc1 1 fun K hK => ?_
          have hcg := row_bun_dis hu4 rG
          go_simp
          refine hK.out _ _ hHeld (fun _ => ?_)
          clear hK K hcg
          try (first | (rw [put_some]; dsimp only [List.set]) | rw [put_none])
          refine rc1 5 fun K hK => ?_
          have hdd10 : Cvs (w3.alloc (.cells V8.toArray 27)) (dd.1, B8, d8) ∧ Apart lo g B9 (dd.1, B8, d8) := ⟨hsl8, fun hp a ha => ⟨by have := HF8.out a ha; have := HLOW.out; omega, by have := HF8.out a ha; have := HGR.out; have := HHG.out; omega, fun p hpB => by have := HF8.out a ha; have := HBL.out _ hpB; omega⟩⟩
          have hbase : base ≤ (w3.alloc (.cells V8.toArray 27)).heap.size := Nat.le_trans (Nat.le_trans HGR.out hb7w) hbs.size
          refine step_append_one (some 22) rfl (by rfl) (.tmp 18) (.tmp 21) 38 rfl base 27 i0 _ 36 88 Tryd.underlying38 hi hz0 hz1 (by omega) hz2 rfl _ ds.length (ds.flatMap disV) rfl own9 ⟨w3.heap.size, 0, none⟩ 1 V8 rfl HlV8.out (by rw [Nat.one_mul]; exact hl10) honl8.out n1 n2 hbase ?_; intro v11 w11 own11 hg11 hnew11; obtain ⟨B11, d11, rfl, _, _⟩ := Sl.of_ownk own11; obtain ⟨hat11, hc11, hf11⟩ := bunAt_append hu4 HHG.out rG own9 hcv9 hdd10 (by rw [HV8.out] at own11; exact own11) hg11 hnew11; have hgr11 := grown_own (grown_trans hgr7 (grown_of_below hbs _)) hg11 (fun k hk => by have h1 := (own9.lt k hk).1; rw [HBASE.out] at h1; exact h1)
          have r7 : Row w11 wr.heap.size 27 V2 := by unfold Row; rw [hg11.block wr.heap.size r7.lt (fun e => by cases B9 with | none => cases e | some p => have h1 := HBL.out p rfl; have h2 : wr.heap.size = p.block := Option.some.inj e; omega)]; exact r7
          refine hK.out _ _ (row_range r7) (fun _ => ?_)
          clear hK K hHeld own11 hg11 hnew11 hdd10 own9 rG hcv9 hl10 hsl8
          have hHeld := row_range r7
          try (first | (rw [put_some]; dsimp only [List.set]) | rw [put_none])
          refine rt 6 23 hHeld ?_
          refine rc1 7 fun K hK => ?_
          have rF := r7.far (⟨g, 36, none⟩ : Addr) (.slice B11 (ds.length + 1) d11) (by show wr.heap.size ≠ g; have := HGR.out; have := HHG.out; omega)
          go_simp
          refine hK.out _ _ (row_range rF) (fun _ => ?_)
          clear hK K
          try (first | (rw [put_some]; dsimp only [List.set]) | rw [put_none])
          refine wpAnyH_done (by kernel_rfl) ?_ _
          refine NoPanic.normal ?_
          have hgrF := grown_trans hgr11 (grown_setCell w11 g 36 (.slice B11 (ds.length + 1) d11))
          rw [HDS.out, ← HM.out] at hat11
          clear hHeld hbs
          go_wp2_with fail
          go_roundw
          case rel => exact ⟨k + 1, by omega, by go_num, hat11, hgrF⟩
          case measure => simp [intOf]; omega
    · obtain rfl : k = ds0.length := by omega
      rw [← hlen, List.take_length] at hat
      obtain ⟨VX, rX, hlX, honX, hbX⟩ := hat.bunO ⟨hu4, hok⟩ (by rw [HLO.out, HBASE.out]; have := hbw6.size; omega)
      have hlow : w.heap.size + 1 < lo := by rw [HLO.out]; omega
      have hlow2 : w.heap.size ≤ lo := by rw [HLO.out]; omega
      have RX := Lib.hid (show wr.heap[g]? = some (.cells VX.toArray 40 (0, 0)) from rX)
      have hzX := Lib.hid (show (Tryd.prog.info? 40).map (·.size) = some VX.toArray.size by rw [size_bun, List.size_toArray, hlX])
      have h37X := Lib.hid (show 37 = VX.toArray.size by rw [List.size_toArray, hlX])
      have honeX := Lib.hid (all_one honX)
      have HL1 := Lib.hid hlow
      have HL2 := Lib.hid hlow2
      clear hat hlt hk rX hlX honX hp6 hlow hlow2 hm hok hlen
      generalize ds0.length = n at *
      go_wp2_with (first
          | (with_reducible refine wpList_load_row rfl 40 (.tmp 5) rfl g rfl 40 VX.toArray (0, 0) _ RX.out Tryd.underlying40 rfl hzX.out ?_)
          | (with_reducible refine wpList_store_row rfl 40 (.tmp 4) (.tmp 25) rfl (w.heap.size + 1) VX.toArray rfl rfl 40 Z.toArray RZ.out hzX.out (Eq.trans h37Z.out.symm h37X.out) honeX.out ?_; refine Hid.out ?_))
      refine Lib.hid ?_
      generalize hw9 : World.setRow _ _ _ = w9
      obtain ⟨r9, hg9⟩ := row_set (xs := VX) (show Row _ (w.heap.size + 1) 40 Z from RZ.out) hw9
      have R9 := Lib.hid (show w9.heap[w.heap.size + 1]? = some (.cells VX.toArray 40 (0, 0)) from r9)
      have hb9 := hbw.grown hg9 hbw.size (fun k h => by cases h; exact Nat.le_succ _)
      have hbX9 := (hbX.set hg9 HL1.out).mono HL2.out
      clear hw9 r9 hg9
      go_wp2_with (with_reducible refine bodyPost_ret (results_cell_row rfl _ _ (w.heap.size + 1) 40 VX.toArray (0, 0) _ rfl R9.out Tryd.underlying40 rfl hzX.out) rfl ?_)
      exact ⟨.agg VX.toArray, rfl, hbX9, hb9⟩
theorem bof_o {lo : Nat} {b : Bun} {w : World} {v : Value} (hb : b.Ok) (hm : ∀ e ∈ b.root :: b.dis, e.cavs.length ≤ 1000000) (hn : b.dis.length ≤ 1000000) (h : BunV lo b w v) :
    ∃ A c B d, ∃ ds : List Dis, v = .agg (bunV b.root A c B ds.length d).toArray ∧ ∀ w', Below w.heap.size w w' → Calls Tryd.prog 36 #[.agg (tokV b.root A c).toArray, .slice B ds.length d] w' fun e w'' => ∃ v', e = .returned v' ∧ BunO w'.heap.size b w'' v' ∧ Below w'.heap.size w' w'' := by
  obtain ⟨A, c, B, d, ds, rfl, hbo, hs, hp⟩ := h.parts
  have hd := bunOf_dis hbo
  refine ⟨A, c, B, d, ds, rfl, fun w' hb' => ?_⟩
  have h1 := bof_any b.root ds hb.root (by rw [← hd]; exact hb.dis) (by rw [← hd]; exact hm) A c B d w' (hs.later (Nat.le_refl _) hb') (hp.later (Nat.le_refl _) hb') (by rw [← toks_len, ← hd]; exact hn)
  rw [← hbo] at h1; exact h1
set_option maxRecDepth 100000 in
set_option maxHeartbeats 2000000 in
theorem bclone_o {lo : Nat} {b : Bun} {w : World} {v : Value} (hb : b.Ok) (hm : ∀ e ∈ b.root :: b.dis, e.cavs.length ≤ 1000000) (hn : b.dis.length ≤ 1000000) (h : BunV lo b w v) :
    Calls Tryd.prog 24 #[v] w fun e w' => ∃ v', e = .returned v' ∧ BunO w.heap.size b w' v' ∧ Below w.heap.size w w' := by
  obtain ⟨A, c, B, d, ds, rfl, hof⟩ := bof_o hb hm hn h
  obtain ⟨Z, hZ⟩ : ∃ Z, Z = bunV zeroK none 0 none 0 0 := ⟨_, rfl⟩
  have hzl : Z.length = 37 := by rw [hZ]; exact length_bunV zeroK_ok none 0 none 0 0
  have hzK := Lib.hid (show (Tryd.prog.info? 40).map (·.size) = some Z.toArray.size by rw [size_bun, List.size_toArray, hzl])
  have h37Z := Lib.hid (show 37 = Z.toArray.size by rw [List.size_toArray, hzl])
  have HZ := Lib.hid hZ
  obtain ⟨r0, rz, hb1, hsz1⟩ := two_rows (w := w) (A := bunV b.root A c B ds.length d) (B := [Value.int .u64 0, .string { data := #[] }, .slice none 0 0, .bool false, .int .u8 0, .int .u8 0, .int .u8 0, .int .u8 0, .int .u8 0, .int .u8 0, .int .u8 0, .int .u8 0, .int .u8 0, .int .u8 0, .int .u8 0, .int .u8 0, .int .u8 0, .int .u8 0, .int .u8 0, .int .u8 0, .int .u8 0, .int .u8 0, .int .u8 0, .int .u8 0, .int .u8 0, .int .u8 0, .int .u8 0, .int .u8 0, .int .u8 0, .int .u8 0, .int .u8 0, .int .u8 0, .int .u8 0, .int .u8 0, .int .u8 0, .int .u8 0, .slice none 0 0]) (tA := 40) (tB := 40) rfl
  have hT := row_bun_tok r0
  have hD := row_bun_dis hb.root r0
  have hlT := length_tokV hb.root A c
  have hof1 := Lib.hid (hof _ hb1)
  have RZ1 : Row ((w.alloc (.cells (bunV b.root A c B ds.length d).toArray 40)).alloc (.cells [Value.int .u64 0, .string { data := #[] }, .slice none 0 0, .bool false, .int .u8 0, .int .u8 0, .int .u8 0, .int .u8 0, .int .u8 0, .int .u8 0, .int .u8 0, .int .u8 0, .int .u8 0, .int .u8 0, .int .u8 0, .int .u8 0, .int .u8 0, .int .u8 0, .int .u8 0, .int .u8 0, .int .u8 0, .int .u8 0, .int .u8 0, .int .u8 0, .int .u8 0, .int .u8 0, .int .u8 0, .int .u8 0, .int .u8 0, .int .u8 0, .int .u8 0, .int .u8 0, .int .u8 0, .int .u8 0, .int .u8 0, .int .u8 0, .slice none 0 0].toArray 40)) (w.heap.size + 1) 40 Z := by rw [hZ, zbun]; exact rz
  obtain ⟨VT, hVT⟩ : ∃ V, V = tokV b.root A c := ⟨_, rfl⟩
  rw [← hVT] at hT hof1 hlT
  generalize bunV b.root A c B ds.length d = V at *
  have hzT := Lib.hid (show (Tryd.prog.info? 27).map (·.size) = some VT.length by rw [size_tok, hlT])
  have HSZ := Lib.hid hsz1
  clear hVT hlT hof h r0 rz hZ hzl hsz1
  generalize ds.length = n at *
  go_enter Tryd.func24, Tryd.ntmps24
  go_wp2_with (first
    | (with_reducible refine wpList_load_mid rfl 27 (.tmp 3) rfl w.heap.size 0 rfl VT _ hT Tryd.underlying27 rfl hzT.out ?_)
    | (go_at_call 36; refine hof1.out.mono ?_; rintro e w2 ⟨v2, rfl, hv2, hb2⟩; obtain ⟨V2, rfl, hl2, ho2, _⟩ := hv2.bunV.cells hb; have hz2 := Lib.hid (show (Tryd.prog.info? 40).map (·.size) = some V2.toArray.size by rw [size_bun, List.size_toArray, hl2]); have h372 := Lib.hid (show 37 = V2.toArray.size by rw [List.size_toArray, hl2]); have hone2 := Lib.hid (all_one ho2); have rz2 := RZ1.later hb2 RZ1.lt; have RZ := Lib.hid (show w2.heap[w.heap.size + 1]? = some (.cells Z.toArray 40 (0, 0)) from rz2); have hbw2 := hb1.trans (hb2.mono hb1.size); clear hl2 ho2)
    | (with_reducible refine wpList_store_row rfl 40 (.tmp 2) (.tmp 7) rfl (w.heap.size + 1) V2.toArray rfl rfl 40 Z.toArray RZ.out hz2.out (Eq.trans h37Z.out.symm h372.out) hone2.out ?_; refine Hid.out ?_))
  refine Lib.hid ?_
  generalize hw9 : World.setRow _ _ _ = w9
  obtain ⟨r9, hg9⟩ := row_set (xs := V2) (show Row _ (w.heap.size + 1) 40 Z from RZ.out) hw9
  have R9 := Lib.hid (show w9.heap[w.heap.size + 1]? = some (.cells V2.toArray 40 (0, 0)) from r9)
  have hb9 := hbw2.grown hg9 hbw2.size (fun k h => by cases h; exact Nat.le_succ _)
  have hv9 := (hv2.set hg9 (by rw [HSZ.out]; omega)).mono (show w.heap.size ≤ _ by rw [HSZ.out]; omega)
  clear hw9 r9 hg9
  go_wp2_with (with_reducible refine bodyPost_ret (results_cell_row rfl _ _ (w.heap.size + 1) 40 V2.toArray (0, 0) _ rfl R9.out Tryd.underlying40 rfl hz2.out) rfl ?_)
  exact ⟨.agg V2.toArray, rfl, hv9, hb9⟩
end Go.Proofs.YtnkkgclmmaakgaaDoor

/- LAYER 21: a slice of tokens of the call's own, one of whose tokens is put. -/
namespace Go.Proofs.YtnkkgclmmaakgaaDoor
set_option maxRecDepth 100000
open Go Go.RowKit

theorem Row.grownO {w w' : World} {g t : Nat} {xs : List Value} {row : Option Nat} (h : Row w g t xs) (hg : w.grownBy w' row) (hne : ∀ k, row = some k → g ≠ k) : Row w' g t xs := by
  have hl := h.lt
  unfold Row at h ⊢
  rw [hg.block g hl (fun e => hne g e.symm rfl)]; exact h
theorem splice_flat {α : Type} {f : α → List Value} {k : Nat} : ∀ (fs : List α) (_ : ∀ a ∈ fs, (f a).length = k) (i : Nat) (a : α) (_ : (f a).length = k) (_ : i < fs.length), splice (fs.flatMap f) (i * k) (f a) = (fs.set i a).flatMap f
  | [], _, _, _, _, hi => absurd hi (Nat.not_lt_zero _)
  | b :: fs, hf, 0, a, ha, _ => by
    have hb := hf b List.mem_cons_self
    unfold splice
    rw [List.flatMap_cons, Nat.zero_mul, List.take_zero, List.nil_append, Nat.zero_add, ha, ← hb, List.drop_left]
    rfl
  | b :: fs, hf, i + 1, a, ha, hi => by
    have hb := hf b List.mem_cons_self
    have ih := splice_flat fs (fun c hc => hf c (List.mem_cons_of_mem _ hc)) i a ha (by simpa using hi)
    unfold splice at ih ⊢
    rw [List.flatMap_cons, List.set_cons_succ, List.flatMap_cons, ← ih, Nat.succ_mul, Nat.add_comm (i * k) k, Nat.add_assoc, ← hb, List.take_length_add_append, List.drop_length_add_append, List.append_assoc]
theorem take_splice {α : Type} (cur cs : List α) (off m : Nat) (h : off + cs.length ≤ m) (hm : m ≤ cur.length) : (splice cur off cs).take m = splice (cur.take m) off cs := by
  have e1 : (cur.take off).length = off := by rw [List.length_take]; omega
  have e2 : (cur.take off).take m = (cur.take m).take off := by rw [List.take_take, List.take_take, Nat.min_comm]
  unfold splice
  rw [List.take_append, List.take_append, e1, e2, List.take_of_length_le (by omega : cs.length ≤ m - off), List.drop_take, Nat.sub_sub]
/-- The token k of such a slice: where it lies, and that another one may be put there. -/
theorem TokL.at {w : World} {lo g base n d : Nat} {B : Option Addr} {ts : List Tok} (h : TokL w lo g base (.slice B n d) ts) (hok : ∀ t ∈ ts, t.Ok) (k : Nat) (hk : k < n) :
    ∃ b dd, B = some ⟨b, 0, none⟩ ∧ base ≤ b ∧ b < w.heap.size ∧ ts[k]? = some dd.1 ∧ w.rangeAt b (k * 36) (disV dd) ∧ Cvs w dd ∧ Apart lo g B dd := by
  obtain ⟨B', d', ds, h1, h2, h3, h4⟩ := h
  injection h1 with e1 e2 e3
  subst e1 e2 e3
  have hl : (ds.flatMap disV).length = ds.length * 36 := length_dissV (by rw [h2]; exact hok)
  obtain ⟨b, hB, hb, hlt, -, -⟩ := ownk_cell h3 (k * 36) (by omega)
  obtain ⟨_, _, hve, _, hsl⟩ := Sl.of_ownk h3
  injection hve with e1 e2 e3
  subst e1 e3
  obtain ⟨dd, hdd⟩ : ∃ dd, ds[k]? = some dd := ⟨_, List.getElem?_eq_getElem hk⟩
  rw [hB] at hsl
  exact ⟨b, dd, hB, hb, hlt, by rw [← h2]; exact toks_get hdd, Nat.zero_add (k * 36) ▸ hsl.thing (dis_ok (by rw [h2]; exact hok)) k dd hdd, h4 _ (List.mem_of_getElem? hdd)⟩
theorem tokL_put {w : World} {lo g base n d b : Nat} {ts : List Tok} {dd : Dis} (h : TokL w lo g base (.slice (some ⟨b, 0, none⟩) n d) ts) (hok : ∀ t ∈ ts, t.Ok) (k : Nat) (hk : k < n) (ho : dd.1.Ok) (hdd : Cvs w dd ∧ Apart lo g (some ⟨b, 0, none⟩) dd) :
    ∃ cur, Row w b 27 cur ∧ k * 36 + (disV dd).length ≤ cur.length ∧ ∀ w', Row w' b 27 (splice cur (k * 36) (disV dd)) → w.grownBy w' (some b) → TokL w' lo g base (.slice (some ⟨b, 0, none⟩) n d) (ts.set k dd.1) := by
  obtain ⟨B', d', ds, h1, h2, h3, h4⟩ := h
  injection h1 with e1 e2 e3
  subst e1 e2 e3
  have hdk := dis_ok (ds := ds) (by rw [h2]; exact hok)
  have hl : (ds.flatMap disV).length = ds.length * 36 := length_dissV (by rw [h2]; exact hok)
  have hld : (disV dd).length = 36 := length_disV ho
  have hle : (k + 1) * 36 ≤ ds.length * 36 := Nat.mul_le_mul_right 36 hk
  obtain ⟨hn, ⟨q, -⟩ | ⟨g', cap, cur, hv, hbg, hg, hnc, hcm, hcs, htake⟩⟩ := h3
  · cases q
  injection hv with e1 e2 e3
  injection e1 with e1
  injection e1 with e1
  subst e1 e3
  have hcl : cur.toList.length = d * 36 := by rw [Array.length_toList]; exact hcs
  have hcap : ds.length * 36 ≤ d * 36 := Nat.mul_le_mul_right 36 hnc
  refine ⟨cur.toList, hg, by omega, fun w' hr hgr => ⟨_, d, ds.set k dd, by rw [List.length_set], by unfold toks at h2 ⊢; rw [List.map_set, h2], ⟨?_, .inr ⟨b, d, (splice cur.toList (k * 36) (disV dd)).toArray, by rw [List.length_set], hbg, hr, by rw [List.length_set]; exact hnc, hcm, ?_, ?_⟩⟩, fun e he => ?_⟩⟩
  · rw [List.length_set, flat_length disV 36 _ (fun e he => by rcases List.mem_or_eq_of_mem_set he with h | h; exact hdk e h; rw [h]; exact hld), List.length_set]
  · rw [List.size_toArray]; unfold splice; rw [List.length_append, List.length_append, List.length_take, List.length_drop, hld]; omega
  · rw [List.length_set, List.toList_toArray, take_splice _ _ _ _ (by omega) (by omega), htake, splice_flat ds hdk k dd hld hk]
  · have hall : Cvs w e ∧ Apart lo g (some ⟨b, 0, none⟩) e := by
      rcases List.mem_or_eq_of_mem_set he with h | h
      · exact h4 e h
      · rw [h]; exact hdd
    exact ⟨Sl.apart hall.1 hgr (fun hx a ha => fun e => (hall.2 (cavs_pos hx) a ha).2.2 _ rfl e.symm), hall.2⟩
/-- The first k of them bound. -/
def allK (root : List UInt8) (l : List Tok) (k : Nat) : List Tok := (l.take k).map (eachD root) ++ l.drop k
theorem allK_len (root : List UInt8) (l : List Tok) (k : Nat) : (allK root l k).length = l.length := by
  unfold allK; rw [List.length_append, List.length_map, ← List.length_append, List.take_append_drop]
theorem allK_get (root : List UInt8) (l : List Tok) (k : Nat) : (allK root l k)[k]? = l[k]? := by
  unfold allK
  by_cases h : k < l.length
  · have e : ((l.take k).map (eachD root)).length = k := by rw [List.length_map, List.length_take]; omega
    rw [List.getElem?_append_right (by omega), e, Nat.sub_self, List.getElem?_drop, Nat.add_zero]
  · rw [List.getElem?_eq_none (by rw [← allK, allK_len]; omega), List.getElem?_eq_none (by omega)]
theorem allK_next (root : List UInt8) (l : List Tok) (k : Nat) (t : Tok) (h : l[k]? = some t) : allK root l (k + 1) = (allK root l k).set k (eachD root t) := by
  have hlt := (List.getElem?_eq_some_iff.1 h).1
  have e : ((l.take k).map (eachD root)).length = k := by rw [List.length_map, List.length_take]; omega
  have hd : l.drop k = t :: l.drop (k + 1) := by rw [List.drop_eq_getElem_cons hlt, (List.getElem?_eq_some_iff.1 h).2]
  unfold allK
  rw [List.set_append_right _ _ (by omega), e, Nat.sub_self, hd, List.set_cons_zero, List.take_add_one, h, Option.toList_some, List.map_append, List.append_assoc]; rfl
theorem allK_same (root : List UInt8) (l : List Tok) (k : Nat) (t : Tok) (h : l[k]? = some t) (hs : eachD root t = t) : allK root l (k + 1) = allK root l k := by
  have hg := allK_get root l k
  rw [h] at hg
  rw [allK_next root l k t h, hs]
  exact List.ext_getElem? fun i => by
    rw [List.getElem?_set]
    by_cases hi : k = i
    · subst hi; rw [if_pos rfl, if_pos (List.getElem?_eq_some_iff.1 hg).1, hg]
    · rw [if_neg hi]
theorem allK_ok {root : List UInt8} {l : List Tok} (hl : ∀ t ∈ l, t.Ok) (k : Nat) : ∀ t ∈ allK root l k, t.Ok := by
  intro t ht
  rcases List.mem_append.1 ht with h | h
  · obtain ⟨e, he, rfl⟩ := List.mem_map.1 h
    exact eachD_ok _ (hl e (List.mem_of_mem_take he))
  · exact hl t (List.mem_of_mem_drop h)
theorem allK_zero (root : List UInt8) (l : List Tok) : allK root l 0 = l := rfl
theorem allK_all (root : List UInt8) (l : List Tok) : allK root l l.length = l.map (eachD root) := by
  unfold allK; rw [List.take_length, List.drop_length, List.append_nil]
end Go.Proofs.YtnkkgclmmaakgaaDoor

/- LAYER 6: package derive's Frame. -/
namespace Go.Proofs.YtnkkgclmmaakgaaDoor
set_option maxRecDepth 100000
open Go Go.RowKit

theorem strCells_bstr (l : List UInt8) : Lib.strCells (bstr l) = byts l := by unfold Lib.strCells bstr byts; simp
set_option maxRecDepth 100000 in
set_option maxHeartbeats 1000000 in
theorem dframe_any (A : Option Addr) (n c : Nat) (ss : List (List UInt8)) (w : World) (hs : Sl w A c (strsV ss)) (hn : n = ss.length) (hm : sumS ss ≤ 1000000000) :
    Calls Tryd.prog 28 #[.slice A n c] w (GaveBytes (frameL ss) w) := by
  subst hn
  obtain ⟨i0, hi, hz0, hz1, hz2⟩ := info_parts infoByte
  have hl1 := sumS_len ss
  have hown0 : w.ownsRow w.heap.size 5 1 (.slice none 0 0) 0 [] := World.ownsRow_nil w _ _ _
  have hb0 := Below.refl w.heap.size w
  go_enter Tryd.func28, Tryd.ntmps28
  go_wp2_with fail
  go_loopw [3, 8] (fun v i wr => ∃ k : Nat, k ≤ ss.length ∧ i = .int .i64 k ∧ wr.ownsRow w.heap.size 5 1 v (frameL (ss.take k)).length (byts (frameL (ss.take k))) ∧ Below w.heap.size w wr) (fun _ i _ => ss.length - (intOf i).toNat)
  case atStart => exact ⟨0, by omega, rfl, hown0, hb0⟩
  case round =>
    clear hown0 hb0
    obtain ⟨k, hk, rfl, hown, hb⟩ := hrel
    by_cases hlt : k < ss.length
    · obtain ⟨b, o, rfl, hb0, hr0⟩ := hs.rd.get (i := 0) (by rw [length_strsV]; omega)
      clear hb0 hr0
      have hix := index_strs (some ⟨b, o, none⟩) b o ss.length c k rfl hlt
      have hc := strs_cell (hs.later (Nat.le_refl _) hb) k hlt
      have HS := Lib.hid (frameL_succ ss k hlt)
      have hq1 := sumS_mem ss (ss.getD k []) (by rw [List.getD_eq_getElem?_getD, List.getElem?_eq_getElem hlt]; exact List.getElem_mem hlt)
      have hF := frameL_le ss k
      have hF2 := length_frameL ss
      generalize ss.getD k [] = q at *
      generalize frameL (ss.take k) = F at *
      have hz := size_bstr q
      have n1 : F.length + (eightL q.length).length ≤ maxLen := by rw [length_eightL]; unfold maxLen; omega
      have n2 : (F.length + (eightL q.length).length) * 1 ≤ 140737488355328 := by rw [length_eightL]; omega
      have m1 : F.length + (eightL q.length).length + (bstr q).size ≤ maxLen := by rw [length_eightL, hz]; unfold maxLen; omega
      have m2 : F.length + (eightL q.length).length + (bstr q).size ≤ 140737488355328 := by rw [length_eightL, hz]; omega
      have hql : (q.length : Int) ≤ 1000000000 := by omega
      have hnum := number_any q.length
      have HL8 := Lib.hid (show (eightL q.length).length = (byts (eightL q.length)).length from (length_byts _).symm)
      have HP := Lib.hid (show partL q = eightL q.length ++ q from rfl)
      have hbs := hb.size
      clear hq1 hF hF2
      generalize eightL q.length = e8 at *
      go_wp2_with (first
        | (go_at_call 41; refine (hnum _).mono ?_; rintro e w1 ⟨v1, rfl, hown1, hb1⟩; obtain ⟨A1, c1, rfl, _, hsl1⟩ := Sl.of_own hown1; have hownF := own_later hown hb1 (Nat.le_refl _); have hbw1 := hb.trans (hb1.mono hbs); clear hown1)
        | (at_builtin; refine wpList_append_sl rfl (.tmp 12) (.tmp 16) 53 rfl w.heap.size 5 i0 _ 1 Tryd.underlying53 hi hz0 hz1 hz2 rfl _ F.length (byts F) rfl hownF A1 e8.length c1 (byts e8) rfl HL8.out hsl1 (byts_one _) n1 n2 hbw1.size ?_; intro v2 w2 hown2 hg2; have hbw2 : Below w.heap.size w w2 := hbw1.grown hg2 hbw1.size (fun k hk => (hownF.lt k hk).1); clear hg2 hownF hsl1)
        | (at_builtin; refine Lib.wpList_append_own_string _ rfl (.tmp 18) (.tmp 19) 53 9 rfl w.heap.size 5 i0 Tryd.underlying53 Tryd.underlying9 hi hz0 hz1 hz2 _ (F.length + e8.length) (byts F ++ byts e8) rfl hown2 (bstr q) rfl m1 m2 hbw2.size ?_; intro v4 w4 hown4 hg4 _h4; have hbw4 : Below w.heap.size w w4 := hbw2.grown hg4 hbw2.size (fun k hk => (hown2.lt k hk).1)))
      go_roundw
      case rel =>
        refine ⟨k + 1, by omega, by go_num, ?_, hbw4⟩
        rw [HS.out, HP.out]
        have e1 : byts F ++ byts e8 ++ byts q = byts (F ++ (e8 ++ q)) := by rw [byts_append, byts_append, List.append_assoc]
        have e2 : F.length + e8.length + q.length = (F ++ (e8 ++ q)).length := by simp only [List.length_append]; omega
        rw [strCells_bstr, e1, hz, e2] at hown4
        exact hown4
      case measure => simp [intOf]; omega
    · obtain rfl : k = ss.length := by omega
      rw [List.take_length] at hown
      clear hlt hk hs
      generalize ss.length = n at *
      go_wp2
      go_ret
      exact ⟨_, rfl, hown, hb⟩
end Go.Proofs.YtnkkgclmmaakgaaDoor

/- LAYER 4: package hmac's New, Write, Sum. -/
namespace Go.Proofs.YtnkkgclmmaakgaaDoor
set_option maxRecDepth 100000
open Go Go.RowKit

/-- Block g is a mac by the key k to which l was written: two digests beside each other. -/
structure Macd (w : World) (g gi go : Nat) (k l : List UInt8) : Prop where
  row : Row w g 86 [.pointer (some ⟨gi, 0, none⟩), .pointer (some ⟨go, 0, none⟩)]
  din : Dgt w gi (xorL 54 (keyL k) ++ l)
  dout : Dgt w go (xorL 92 (keyL k))
  gi_lt : gi < g
  go_lt : go < g
  ne : gi ≠ go
theorem Macd.lt {w : World} {g gi go : Nat} {k l : List UInt8} (h : Macd w g gi go k l) : g < w.heap.size := h.row.lt
/-- The call gave a mac of its own by the key k to which nothing was written. -/
def GaveMac (k : List UInt8) (w : World) (e : Ending) (w' : World) : Prop :=
  ∃ g gi go, e = .returned (.pointer (some ⟨g, 0, none⟩)) ∧ w.heap.size ≤ gi ∧ w.heap.size ≤ go ∧ Macd w' g gi go k [] ∧ Below w.heap.size w w'
set_option maxRecDepth 100000 in
set_option maxHeartbeats 1000000 in
theorem mnew_any (A : Option Addr) (n c : Nat) (k : List UInt8) (w : World) (hT : Tabs w) (hs : Sl w A c (byts k)) (hn : n = k.length) (hm : k.length ≤ 2305843009213693952) :
    Calls Tryd.prog 38 #[.slice A n c] w (GaveMac k w) := by
  have hKl := length_keyL k
  obtain ⟨V, hVq⟩ : ∃ V, V = byts (keyL k) := ⟨_, rfl⟩
  have hVl : V.length = 64 := by rw [hVq, length_byts, hKl]
  have hone := Lib.hid (all_one (show ∀ v ∈ V, v.oneCell' = true by rw [hVq]; exact byts_one _))
  have hsz := Lib.hid (show (Tryd.prog.info? 81).map (·.size) = some V.toArray.size by rw [size_blk, List.size_toArray, hVl])
  have hszV := Lib.hid (show (Tryd.prog.info? 81).map (·.size) = some V.length by rw [size_blk, hVl])
  have h64 := Lib.hid (show 64 = V.toArray.size by rw [List.size_toArray, hVl])
  have hw := Lib.hid (show Calls Tryd.prog 50 #[.slice A n c] w fun e w' => e = .returned (.agg V.toArray) ∧ Below w.heap.size w w' by rw [hVq]; exact whole_any A n c k w hT hs hn hm)
  have hb54 := Lib.hid (show ∀ w, Tabs w → Calls Tryd.prog 51 #[.agg V.toArray, .int .u8 54] w (GaveDig (xorL 54 (keyL k)) w) by rw [hVq]; exact fun w h => begun_any (keyL k) hKl 54 w h)
  have hb92 := Lib.hid (show ∀ w, Tabs w → Calls Tryd.prog 51 #[.agg V.toArray, .int .u8 92] w (GaveDig (xorL 92 (keyL k)) w) by rw [hVq]; exact fun w h => begun_any (keyL k) hKl 92 w h)
  clear hVq hVl hKl hs hn hm
  go_enter Tryd.func38, Tryd.ntmps38
  go_wp2_with (first
    | (go_at_call 50; refine hw.out.mono ?_; rintro e w1 ⟨rfl, hb1⟩)
    | (with_reducible refine wpList_store_row rfl 81 (.tmp 3) (.tmp 5) rfl w1.heap.size V.toArray rfl rfl 81 _ (heap_alloc_new w1 _) hsz.out (Eq.trans (by kernel_rfl) h64.out) hone.out ?_; refine Hid.out ?_))
  refine Lib.hid ?_
  generalize hw4 : World.setRow _ _ _ = w4
  obtain ⟨r4, hb4⟩ := row_new_set (xs := V) hw4
  have hbB := hb1.trans (hb4.mono hb1.size)
  have hT4 := hT.later hbB (Nat.le_refl _)
  clear hw4 hb4 hb1
  go_wp2_with fail
  refine wp_region_noPanic ?_
  refine wp_region_held_drew (S := fun w' => Below w4.heap.size w4 w') (by kernel_rfl) ((Below.refl _ _).drew) (fun hHeld => ?_)
  have hAll := hHeld
  refine rt 0 6 hHeld ?_ (hy := by intro w hS; exact run_load_op 81 (.tmp 3) rfl w1.heap.size 0 rfl V (.array 64 5) (row_range (r4.later hS r4.lt)) Tryd.underlying81 rfl hszV.out)
  refine rt 2 8 hHeld ?_ (hy := by intro w hS; exact run_load_op 81 (.tmp 3) rfl w1.heap.size 0 rfl V (.array 64 5) (row_range (r4.later hS r4.lt)) Tryd.underlying81 rfl hszV.out)
  refine rc1 1 fun K hK => ?_
  go_simp
  refine (hb54.out _ (hT4.later hHeld (Nat.le_refl _))).mono ?_; rintro e w5 ⟨gi, rfl, hgi, hd5, hb5⟩
  try go_wp2_with fail
  refine hK.out _ _ (below_step hHeld hb5) (fun _ => ?_)
  clear hK K
  try (rw [put_some]; dsimp only [List.set])
  have hAll := below_step hAll hb5
  refine wpAnyH_narrow (S' := fun w' => Below w5.heap.size w5 w') (fun _ h => below_step (below_step hHeld hb5) h) _ _ _ _ ?_
  clear hHeld
  have hHeld : Below w5.heap.size w5 w5 := Below.refl _ _
  refine rc1 3 fun K hK => ?_
  go_simp
  refine (hb92.out _ (hT4.later hAll (Nat.le_refl _))).mono ?_; rintro e w6 ⟨go, rfl, hgo, hd6, hb6⟩
  try go_wp2_with fail
  refine hK.out _ _ (below_step hHeld hb6) (fun _ => ?_)
  clear hK K
  try (rw [put_some]; dsimp only [List.set])
  have hAll := below_step hAll hb6
  refine wpAnyH_narrow (S' := fun w' => Below w6.heap.size w6 w') (fun _ h => below_step (below_step hHeld hb6) h) _ _ _ _ ?_
  clear hHeld
  have hHeld : Below w6.heap.size w6 w6 := Below.refl _ _
  refine rt 4 10 hHeld ?_
  refine rc1 5 fun K hK => ?_
  refine step_alloc (some 11) rfl (by rfl) (.pointer (some ⟨w6.heap.size, 0, none⟩)) (.cells #[.pointer (some ⟨gi, 0, none⟩), .pointer (some ⟨go, 0, none⟩)] 86) (by go_simp) ?_; intro w7 hw7 hb7
  refine hK.out _ _ (below_step hHeld hb7) (fun _ => ?_)
  clear hK K
  try (rw [put_some]; dsimp only [List.set])
  have hAll := below_step hAll hb7
  refine wpAnyH_narrow (S' := fun w' => Below w7.heap.size w7 w') (fun _ h => below_step (below_step hHeld hb7) h) _ _ _ _ ?_
  clear hHeld
  have hHeld : Below w7.heap.size w7 w7 := Below.refl _ _
  refine rt 6 2 hHeld ?_
  refine wpAnyH_done (by kernel_rfl) ?_ _
  refine NoPanic.normal ?_
  subst hw7
  have r7 := Row.new w6 86 [.pointer (some ⟨gi, 0, none⟩), .pointer (some ⟨go, 0, none⟩)]
  have hbC := hbB.trans (hAll.mono hbB.size)
  go_wp2
  go_ret
  have q1 := hd5.lt
  have q2 := hd6.lt
  have q3 := hb6.size
  have q4 := hbB.size
  have q5 := hb5.size
  have q6 : w4.drew.heap.size = w4.heap.size := rfl
  exact ⟨w6.heap.size, gi, go, rfl, by omega, by omega, ⟨r7, by rw [List.append_nil]; exact (hd5.later hb6 hd5.lt).later hb7 (by omega), hd6.later hb7 hd6.lt, by omega, by omega, by omega⟩, hbC⟩
theorem mac_cells {w : World} {g gi go : Nat} {k l : List UInt8} (h : Macd w g gi go k l) : w.cell? ⟨g, 0, none⟩ = some (.pointer (some ⟨gi, 0, none⟩)) ∧ w.cell? ⟨g, 1, none⟩ = some (.pointer (some ⟨go, 0, none⟩)) :=
  ⟨(h.row.cell 0).trans rfl, (h.row.cell 1).trans rfl⟩
theorem mwrite_any (g gi go n : Nat) (k l b : List UInt8) (A : Option Addr) (c : Nat) (w : World) (hT : Cube w) (hd : Macd w g gi go k l) (hs : Sl w A c (byts b)) (hA : 0 < b.length → ∀ a, A = some a → a.block ≠ gi) (hn : n = b.length) (hm : 64 + l.length + b.length ≤ 4611686018427387904) :
    Calls Tryd.prog 39 #[.pointer (some ⟨g, 0, none⟩), .slice A n c] w fun e w' => e = .returned (.tuple #[]) ∧ Macd w' g gi go k (l ++ b) ∧ w.grownBy w' (some gi) := by
  have hw := Lib.hid (show Calls Tryd.prog 52 #[.pointer (some ⟨gi, 0, none⟩), .slice A n c] w fun e w' => e = .returned (.tuple #[]) ∧ Dgt w' gi ((xorL 54 (keyL k) ++ l) ++ b) ∧ w.grownBy w' (some gi) from
    write_at gi n _ b A c w hT hd.din hs hA hn (by rw [List.length_append, length_xorL, length_keyL]; exact hm))
  obtain ⟨c0, c1⟩ := mac_cells hd
  clear c1 hs hA hn hm hT
  go_enter Tryd.func39, Tryd.ntmps39
  go_wp2_with (go_at_call 52; refine hw.out.mono ?_; rintro e w3 ⟨rfl, hd3, hg3⟩)
  go_end0
  have q1 := hd.gi_lt
  exact ⟨rfl, ⟨hd.row.grown hg3 (by omega), by rw [← List.append_assoc]; exact hd3, hd.dout.grown hg3 (Ne.symm hd.ne), hd.gi_lt, hd.go_lt, hd.ne⟩, hg3⟩
set_option maxRecDepth 100000 in
set_option maxHeartbeats 1000000 in
theorem msum_any (g gi go : Nat) (k l : List UInt8) (w : World) (hT : Cube w) (hd : Macd w g gi go k l) (hm : 64 + l.length ≤ 2305843009213693952) :
    Calls Tryd.prog 40 #[.pointer (some ⟨g, 0, none⟩)] w fun e w' => e = .returned (.agg (byts (macL k l)).toArray) ∧ Below w.heap.size w w' := by
  obtain ⟨KI, hKI⟩ : ∃ KI, KI = xorL 54 (keyL k) ++ l := ⟨_, rfl⟩
  obtain ⟨KO, hKO⟩ : ∃ KO, KO = xorL 92 (keyL k) := ⟨_, rfl⟩
  have hKIl : KI.length ≤ 2305843009213693952 := by rw [hKI, List.length_append, length_xorL, length_keyL]; exact hm
  have hKOl : KO.length = 64 := by rw [hKO, length_xorL, length_keyL]
  have hdi := hd.din
  have hdo := hd.dout
  rw [← hKI] at hdi
  rw [← hKO] at hdo
  obtain ⟨c0, c1⟩ := mac_cells hd
  have hgl := hd.lt
  have hil := hdi.lt
  have hol := hdo.lt
  obtain ⟨X, hX⟩ : ∃ X, X = byts (shaL KI) := ⟨_, rfl⟩
  have hXl : X.length = 32 := by rw [hX]; exact store_tag
  have honeX := Lib.hid (all_one (show ∀ v ∈ X, v.oneCell' = true by rw [hX]; exact byts_one _))
  have hszX := Lib.hid (show (Tryd.prog.info? 23).map (·.size) = some X.toArray.size by rw [size_tag, List.size_toArray, hXl])
  have h32 := Lib.hid (show 32 = X.toArray.size by rw [List.size_toArray, hXl])
  obtain ⟨V, hV⟩ : ∃ V, V = byts (macL k l) := ⟨_, rfl⟩
  have hVl : V.length = 32 := by rw [hV]; exact store_tag
  have honeV := Lib.hid (all_one (show ∀ v ∈ V, v.oneCell' = true by rw [hV]; exact byts_one _))
  have hszV := Lib.hid (show (Tryd.prog.info? 23).map (·.size) = some V.toArray.size by rw [size_tag, List.size_toArray, hVl])
  have hszo := Lib.hid (show (List.replicate 32 (Value.int .u8 0)).toArray.size = V.toArray.size by rw [List.size_toArray, List.size_toArray, List.length_replicate, hVl])
  have hsum1 := Lib.hid (show ∀ w, Cube w → Dgt w gi KI → Calls Tryd.prog 53 #[.pointer (some ⟨gi, 0, none⟩)] w fun e w' => e = .returned (.agg X.toArray) ∧ Below w.heap.size w w' by rw [hX]; exact fun w hC hd => sum_any gi KI w hC hd hKIl)
  have hsum2 := Lib.hid (show ∀ g w, Cube w → Dgt w g (KO ++ shaL KI) → Calls Tryd.prog 53 #[.pointer (some ⟨g, 0, none⟩)] w fun e w' => e = .returned (.agg V.toArray) ∧ Below w.heap.size w w' by
    intro g w hC hd
    have := sum_any g (KO ++ shaL KI) w hC hd (by rw [List.length_append, hKOl, length_shaL]; decide)
    rw [hV]; unfold macL; rw [← hKI, ← hKO]; exact this)
  have HX := Lib.hid hX
  have HV := Lib.hid hV
  have HKO := Lib.hid hKOl
  clear hX hXl hV hVl hKI hKO hKIl hKOl hm hd
  have tok1 : True := trivial
  have tok2 : True := trivial
  go_enter Tryd.func40, Tryd.ntmps40
  have hb0 := (Below.refl w.heap.size w).alloc (Nat.le_refl _) (.cells (List.replicate 32 (Value.int .u8 0)).toArray 23)
  go_wp2_with (first
    | (go_at_call 53; have _t := tok1; refine (hsum1.out _ (hT.later hb0 (Nat.le_refl _)) (hdi.later hb0 hil)).mono ?_; rintro e w1 ⟨rfl, hb1⟩; have r0 := (Row.new w 23 (List.replicate 32 (.int .u8 0))).later hb1 (Row.new w 23 (List.replicate 32 (.int .u8 0))).lt; have hbA := hb0.trans (hb1.mono hb0.size); clear tok1 hb1)
    | (with_reducible refine wpList_store_row rfl 23 (.tmp 3) (.tmp 9) rfl w1.heap.size X.toArray rfl rfl 23 _ (heap_alloc_new w1 _) hszX.out (Eq.trans (by kernel_rfl) h32.out) honeX.out ?_; refine Hid.out ?_))
  refine Lib.hid ?_
  generalize hw4 : World.setRow _ _ _ = w4
  obtain ⟨r4, hb4⟩ := row_new_set (xs := X) hw4
  rw [HX.out] at r4
  have r0 := r0.later hb4 r0.lt
  have hbB := hbA.trans (hb4.mono hbA.size)
  have c1' : w4.cell? ⟨g, 1, none⟩ = some (.pointer (some ⟨go, 0, none⟩)) := by rw [hbB.cell (p := ⟨g, 1, none⟩) hgl]; exact c1
  have hne : w.heap.size < w4.heap.size := r0.lt
  have hrl := r4.lt
  clear hw4 hb4 hbA hb0 c0 c1
  go_wp2_with (first
    | (go_at_call 54; refine (clone_any go KO _ (hdo.later hbB hol)).mono ?_; rintro e w5 ⟨g5, rfl, hg5, hd5, hb5⟩; have r4 := r4.later hb5 r4.lt; have r0 := r0.later hb5 r0.lt; have hbC := hbB.trans (hb5.mono hbB.size))
    | (go_at_call 52; refine (write_at g5 32 KO (shaL KI) (some ⟨w1.heap.size, 0, none⟩) 32 _ (hT.later hbC (Nat.le_refl _)) hd5 ⟨Rd.row (ys := []) (by rw [List.append_nil]; exact r4), by rw [store_tag]; exact Nat.le_refl _, fun h => by cases h⟩ (fun _ a ha => by cases ha; show w1.heap.size ≠ g5; omega) rfl (by rw [HKO.out, length_shaL]; decide)).mono ?_; rintro e w6 ⟨rfl, hd6, hg6⟩; have hbD := hbC.grown hg6 hbC.size (fun k h => by cases h; omega); have r0 := r0.grown hg6 (by omega))
    | (go_at_call 53; have _t := tok2; refine (hsum2.out g5 _ (hT.later hbD (Nat.le_refl _)) hd6).mono ?_; rintro e w7 ⟨rfl, hb7⟩; have R0 := Lib.hid (show w7.heap[w.heap.size]? = some (.cells (List.replicate 32 (Value.int .u8 0)).toArray 23 (0, 0)) from r0.later hb7 r0.lt); clear tok2)
    | ((with_reducible refine wpList_store_row rfl 23 (.tmp 2) (.tmp 19) rfl w.heap.size V.toArray rfl rfl 23 _ R0.out hszV.out hszo.out honeV.out ?_); have HG := Lib.hid (setRow_heap w7 w.heap.size _ V.toArray 23 (0, 0) R0.out))
    | (with_reducible refine bodyPost_ret (results_cell_row rfl _ _ w.heap.size 23 V.toArray (0, 0) (.array 32 5) rfl HG.out Tryd.underlying23 rfl hszV.out) rfl ?_))
  exact ⟨by rw [HV.out], below_setRow (hbD.trans (hb7.mono hbD.size)) (Nat.le_refl _) _⟩
end Go.Proofs.YtnkkgclmmaakgaaDoor
