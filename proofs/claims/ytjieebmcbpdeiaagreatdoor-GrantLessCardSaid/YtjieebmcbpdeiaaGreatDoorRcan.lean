import Derived.Test.YtjieebmcbpdeiaaGreatDoorRcam
import Derived.Test.YtjieebmcbpdeiaaGreatDoorRcak
import Derived.Test.YtjieebmcbpdeiaaGreatDoorRcal
import Derived.Test.YtjieebmcbpdeiaaGreatDoorRcad
namespace Go.Proofs.YtjieebmcbpdeiaaGreatDoor
set_option maxRecDepth 100000
open Go Go.RowKit
theorem prdV_each (p:Prd) (A:Option Addr) (c:Nat):∀v∈prdV p A c,v.oneCell'=true:=by
 have h:=prdV_one p A c
 rw[List.all_toArray,List.all_eq_true] at h
 exact h
theorem row_all {w:World} {g t n:Nat} {Z V:List Value} (hz:Z.length=n) (hv:V.length=n) (h:Row w g t (splice Z 0 V)):Row w g t V:=by
 have e:splice Z 0 V=V:=by
  unfold splice
  rw[List.take_zero,List.nil_append,Nat.zero_add,hv,←hz,List.drop_length,List.append_nil]
 rw[e] at h
 exact h
set_option maxHeartbeats 1000000 in
theorem pparse_not (s:List UInt8) (hs:s.length≤10000) (w:World) (hE:EnvQ w) (hn:((wordsL s).getD []).length≠2) (HX:parseP s=none):Calls Tryz.prog 21 #[.string (bstr s)] w (GavePrd (parseP s) w):=by
 obtain⟨Z,hZ⟩:∃Z,Z=prdV zeroP none 0:=⟨_,rfl⟩
 have hZl0:Z.length=23:=by rw[hZ];exact length_prdV _ zeroP_ok.net.a _ _
 have hzZ:=Lib.hid (show (Tryz.prog.info? 31).map (·.size)=some Z.toArray.size by rw[List.size_toArray,hZl0];exact size_prd)
 have hZ1:=Lib.hid (show Z.toArray.all (·.oneCell')=true by rw[hZ];exact prdV_one _ _ _)
 have hZe:=Lib.hid (hZ.trans prd_zero)
 have hZd:=Lib.hid (show Z=prdV zeroP none 0 from hZ)
 have hZl:=Lib.hid hZl0
 obtain⟨w1,hw1⟩:∃w1,w1=w.alloc (.cells Z.toArray 31):=⟨_,rfl⟩
 have r1:Row w1 w.heap.size 31 Z:=by rw[hw1];exact Row.new w _ _
 have hb1:Below w.heap.size w w1:=by rw[hw1];exact (Below.refl _ w).alloc (Nat.le_refl _) _
 have HW:=Lib.hid (hw1.trans (show w.alloc (.cells Z.toArray 31)=w.alloc (.cells [Value.int .i64 0,.int .u64 0,.slice none 0 0,.string { data:=#[] },.bool false,.int .u8 0,.int .u8 0,.int .u8 0,.int .u8 0,.int .u8 0,.int .u8 0,.int .u8 0,.int .u8 0,.int .u8 0,.int .u8 0,.int .u8 0,.int .u8 0,.int .u8 0,.int .u8 0,.int .u8 0,.int .u8 0,.int .i64 0,.float .f64 0].toArray 31) by rw[hZe.out]))
 have tok1:True:=trivial
 have hE1:=hE.next hb1
 have hwd:=xwords_any s hs w1 hE1.x
 unfold GaveRow at hwd
 have HX:=Lib.hid HX
 have hsl:((wordsL s).getD []).length≤9223372036854775807:=by
  have h:((wordsL s).getD []).length≤s.length+1:=by
   unfold wordsL
   split
   ·show (0:Nat)≤_;omega
   ·split
    ·exact splitL_len 32 s
    ·show (0:Nat)≤_;omega
  omega
 generalize (wordsL s).getD []=L at *
 generalize (wordsL s).isSome=k at *
 have hwd:=Lib.hid hwd
 generalize L.length=n at *
 have hn1:(n:Int)≠2:=by omega
 have hn2:((n:Int)==2)=false:=beq_eq_false_iff_ne.2 hn1
 clear hw1 hZ hZl0 hn hE hE1
 generalize bstr s=S at *
 go_enter Tryz.func21,Tryz.ntmps21
 go_wp2_with (first
  | (have _t:=tok1;rw[←HW.out];clear tok1)
  | (go_at_call 51;refine hwd.out.mono ?_;rintro e w2 ⟨A,c,rfl,-,hq2⟩;have r2:=r1.later hq2 r1.lt;have hb2:=hb1.trans (hq2.mono hb1.size);have Q2:=Lib.hid (show w2.heap[w.heap.size]?=some (.cells Z.toArray 31 (0,0)) from r2);clear hq2 r1 r2)
  | (have _t:=Q2;refine wpList_store_row rfl 31 (.tmp 2) (.tmp 16) rfl w.heap.size Z.toArray rfl (by rw[hZe.out];rfl) 31 Z.toArray Q2.out hzZ.out rfl hZ1.out ?_;refine Hid.out ?_))
 refine Lib.hid ?_
 generalize hw8:World.setRow _ _ _=w8
 obtain⟨r8,hg8⟩:=row_set (show Row w2 w.heap.size 31 Z from Q2.out) hw8
 have hb8:=hb2.grown hg8 hb2.size (fun k h=>by cases h;exact Nat.le_refl _)
 have R8:=Lib.hid (show w8.heap[w.heap.size]?=some (.cells Z.toArray 31 (0,0)) from r8)
 clear hw8 r8 Q2
 go_wp2_with fail
 exact⟨rfl,_,results_row_tmp rfl _ _ w.heap.size 31 Z.toArray (0,0) _ rfl R8.out Tryz.underlying31 rfl hzZ.out _ rfl,none,0,by rw[HX.out,hZd.out];rfl,by rw[HX.out];exact zero_at _,hb8⟩
set_option maxHeartbeats 2000000 in
theorem pparse_hit (s a b:List UInt8) (p:Prd) (hs:s.length≤10000) (hbl:b.length≤1000) (w:World) (hE:EnvQ w) (hw:wordsL s=some [a,b]) (hr:readP a b=some p) (HX:parseP s=some p):Calls Tryz.prog 21 #[.string (bstr s)] w (GavePrd (parseP s) w):=by
 obtain⟨Z,hZ⟩:∃Z,Z=prdV zeroP none 0:=⟨_,rfl⟩
 have hZl0:Z.length=23:=by rw[hZ];exact length_prdV _ zeroP_ok.net.a _ _
 have hzZ:=Lib.hid (show (Tryz.prog.info? 31).map (·.size)=some Z.toArray.size by rw[List.size_toArray,hZl0];exact size_prd)
 have hZ1:=Lib.hid (show Z.toArray.all (·.oneCell')=true by rw[hZ];exact prdV_one _ _ _)
 have hZe:=Lib.hid (hZ.trans prd_zero)
 have hZd:=Lib.hid (show Z=prdV zeroP none 0 from hZ)
 have hZl:=Lib.hid hZl0
 obtain⟨w1,hw1⟩:∃w1,w1=w.alloc (.cells Z.toArray 31):=⟨_,rfl⟩
 have r1:Row w1 w.heap.size 31 Z:=by rw[hw1];exact Row.new w _ _
 have hb1:Below w.heap.size w w1:=by rw[hw1];exact (Below.refl _ w).alloc (Nat.le_refl _) _
 have HW:=Lib.hid (hw1.trans (show w.alloc (.cells Z.toArray 31)=w.alloc (.cells [Value.int .i64 0,.int .u64 0,.slice none 0 0,.string { data:=#[] },.bool false,.int .u8 0,.int .u8 0,.int .u8 0,.int .u8 0,.int .u8 0,.int .u8 0,.int .u8 0,.int .u8 0,.int .u8 0,.int .u8 0,.int .u8 0,.int .u8 0,.int .u8 0,.int .u8 0,.int .u8 0,.int .u8 0,.int .i64 0,.float .f64 0].toArray 31) by rw[hZe.out]))
 have tok1:True:=trivial
 have hE1:=hE.next hb1
 have hwd:=xwords_any s hs w1 hE1.x
 unfold GaveRow at hwd
 have HX:=Lib.hid HX
 rw[hw] at hwd
 have hwd:Calls Tryz.prog 51 #[.string (bstr s)] w1 fun e w'=>∃(A:Option Addr) (c:Nat),e=.returned (.tuple #[.slice A 2 c,.bool true])∧Sl w' A c (strsV [a,b])∧Below w1.heap.size w1 w':=hwd
 have hrd:=fun w' h=>pread17_any a b hbl w' h
 rw[hr] at hrd
 unfold GaveRead at hrd
 have hrd:∀w',EnvQ w'→Calls Tryz.prog 52 #[.string (bstr a),.string (bstr b)] w' fun e w''=>∃(q:Prd) (A:Option Addr) (c:Nat),e=.returned (.tuple #[.agg (prdV q A c).toArray,.bool true])∧PrdAt w'' q A c∧(∀g,g < w'.heap.size→∀a,A=some a→a.block≠g)∧(∀x,some p=some x→q=x)∧Below w'.heap.size w' w'':=hrd
 have hwd:=Lib.hid hwd
 have hrd:=Lib.hid hrd
 clear hw hr hw1 hZ hZl0 hE
 generalize bstr s=S at *
 obtain⟨A0,hA0⟩:∃A0,A0=bstr a:=⟨_,rfl⟩
 obtain⟨B0,hB0⟩:∃B0,B0=bstr b:=⟨_,rfl⟩
 rw[←hA0,←hB0] at hrd
 have hst:strsV [a,b]=[.string A0,.string B0]:=by rw[hA0,hB0];rfl
 rw[hst] at hwd
 clear hst hA0 hB0
 go_enter Tryz.func21,Tryz.ntmps21
 go_wp2_with (first
  | (have _t:=tok1;rw[←HW.out];clear tok1)
  | (go_at_call 51;refine hwd.out.mono ?_;rintro e w2 ⟨A,c,rfl,hsl,hq2⟩;have r2:=r1.later hq2 r1.lt;have hb2:=hb1.trans (hq2.mono hb1.size);have hE2:=hE1.next hq2;clear hq2 r1))
 obtain⟨bk,ofs,rfl,-,-⟩:=hsl.rd.get (i:=0) (by show 0 < 2;decide)
 have hk0:∀w',Below w2.heap.size w2 w'→w'.cell? ⟨bk,ofs,none⟩=some (.string A0):=fun w' h=>by
  obtain⟨b',o',e,-,hc⟩:=(hsl.later (Nat.le_refl _) h).rd.get (i:=0) (by show 0 < 2;decide)
  cases e;rw[Nat.add_zero] at hc;exact hc
 have hk1:∀w',Below w2.heap.size w2 w'→w'.cell? ⟨bk,ofs+1,none⟩=some (.string B0):=fun w' h=>by
  obtain⟨b',o',e,-,hc⟩:=(hsl.later (Nat.le_refl _) h).rd.get (i:=1) (by show 1 < 2;decide)
  cases e;exact hc
 have hix0:∀W,(Instr.indexAt 23 (.slice (some ⟨bk,ofs,none⟩) 2 c) (.int .i64 0)).run Tryz.prog W=.ok (.pointer (some ⟨bk,ofs,none⟩)) W:=index_strs (some ⟨bk,ofs,none⟩) bk ofs 2 c 0 rfl (by decide)
 have hix1:∀W,(Instr.indexAt 23 (.slice (some ⟨bk,ofs,none⟩) 2 c) (.int .i64 1)).run Tryz.prog W=.ok (.pointer (some ⟨bk,ofs+1,none⟩)) W:=index_strs (some ⟨bk,ofs,none⟩) bk ofs 2 c 1 rfl (by decide)
 have HK0:=Lib.hid hk0
 have HK1:=Lib.hid hk1
 clear hk0 hk1 hE1 hwd HW
 refine wp_region_noPanic ?_
 refine wp_region_held_drew (S:=fun w'=>Below w2.heap.size w2 w') (by kernel_rfl) ((Below.refl _ _).drew) (fun hHeld=>?_)
 have hB:=hHeld
 refine rtake 0 _ (some 18) _ rfl rfl (by kernel_rfl) (by kernel_rfl) (by kernel_rfl) (fun _ _ _ h=>h) (by rfl) hHeld (by intro w hS;go_simp;try with_reducible rfl) ?_
 try (first | (rw[put_some];dsimp only[List.set]) | rw[put_none])
 refine rtake 1 _ (some 19) _ rfl rfl (by kernel_rfl) (by kernel_rfl) (by kernel_rfl) (fun _ _ _ h=>h) (by rfl) hHeld (by intro w hS;go_simp;try with_reducible rfl) ?_
 try (first | (rw[put_some];dsimp only[List.set]) | rw[put_none])
 refine rtake 2 _ (some 20) _ rfl rfl (by kernel_rfl) (by kernel_rfl) (by kernel_rfl) (fun _ _ _ h=>h) (by rfl) hHeld (by intro w hS;have hk:=HK0.out _ hS;clear hS;go_simp;try with_reducible rfl) ?_
 try (first | (rw[put_some];dsimp only[List.set]) | rw[put_none])
 refine rtake 3 _ (some 21) _ rfl rfl (by kernel_rfl) (by kernel_rfl) (by kernel_rfl) (fun _ _ _ h=>h) (by rfl) hHeld (by intro w hS;go_simp;try with_reducible rfl) ?_
 try (first | (rw[put_some];dsimp only[List.set]) | rw[put_none])
 refine rtake 4 _ (some 22) _ rfl rfl (by kernel_rfl) (by kernel_rfl) (by kernel_rfl) (fun _ _ _ h=>h) (by rfl) hHeld (by intro w hS;go_simp;try with_reducible rfl) ?_
 try (first | (rw[put_some];dsimp only[List.set]) | rw[put_none])
 refine rtake 5 _ (some 23) _ rfl rfl (by kernel_rfl) (by kernel_rfl) (by kernel_rfl) (fun _ _ _ h=>h) (by rfl) hHeld (by intro w hS;have hk:=HK1.out _ hS;clear hS;go_simp;try with_reducible rfl) ?_
 try (first | (rw[put_some];dsimp only[List.set]) | rw[put_none])
 refine wpAnyH_ready (rs:=[6,10]) (by kernel_rfl) (by simp) (AllReadyH.cons (o:=_) rfl (fun K hK=>?_) (AllReadyH.cons (o:=_) rfl (fun K hK=>?_) AllReadyH.nil))
 ·go_simp
  refine (hrd.out _ (hE2.next hB)).mono ?_;rintro e ww26 ⟨q,A',c',rfl,hpa,hap,hcr,hqw26⟩;have hap:=Lib.hid hap;obtain rfl:=hcr _ rfl;clear hcr;have hapg:=Lib.hid (hap.out _ (r2.later hB r2.lt).lt)
  try go_wp2_with fail
  refine hK.out _ _ (hHeld.trans (hqw26.mono hHeld.size)) (fun hHeld'=>?_)
  clear hK K
  try (first | (rw[put_some];dsimp only[List.set]) | rw[put_none])
  have hB:=below_step hB hqw26
  have hB6:Below ww26.heap.size ww26 ww26:=Below.refl _ _
  clear hHeld
  have hHeld:=hHeld'
  refine rtake 7 _ (some 17) _ rfl rfl (by kernel_rfl) (by kernel_rfl) (by kernel_rfl) (fun _ _ _ h=>h) (by rfl) hHeld (by intro w hS;go_simp;try with_reducible rfl) ?_
  try (first | (rw[put_some];dsimp only[List.set]) | rw[put_none])
  refine rtake 8 _ (some 25) _ rfl rfl (by kernel_rfl) (by kernel_rfl) (by kernel_rfl) (fun _ _ _ h=>h) (by rfl) hHeld (by intro w hS;go_simp;try with_reducible rfl) ?_
  try (first | (rw[put_some];dsimp only[List.set]) | rw[put_none])
  refine rtake 9 _ (some 26) _ rfl rfl (by kernel_rfl) (by kernel_rfl) (by kernel_rfl) (fun _ _ _ h=>h) (by rfl) hHeld (by intro w hS;go_simp;try with_reducible rfl) ?_
  try (first | (rw[put_some];dsimp only[List.set]) | rw[put_none])
  refine wpAnyH_ready (rs:=[10]) (by kernel_rfl) (by simp) (AllReadyH.cons (o:=_) rfl (fun K hK=>?_) AllReadyH.nil)
  refine step_alloc (some 6) rfl (by rfl) (.pointer (some ⟨ww26.heap.size,0,none⟩)) (.cells Z.toArray 31) (by rw[hZe.out];go_simp;try rfl) ?_;intro ww210 hw hqw210;have r10:Row ww210 ww26.heap.size 31 Z:=(by rw[hw];exact Row.new _ _ _);have hGle:=Lib.hid hB.size;clear hw
  refine hK.out _ _ (hHeld.trans (hqw210.mono hHeld.size)) (fun hHeld'=>?_)
  clear hK K
  try (first | (rw[put_some];dsimp only[List.set]) | rw[put_none])
  have hB:=below_step hB hqw210
  have hB6:=below_step hB6 hqw210
  have hB10:Below ww210.heap.size ww210 ww210:=Below.refl _ _
  clear hHeld
  have hHeld:=hHeld'
  refine wpAnyH_ready (rs:=[11]) (by kernel_rfl) (by simp) (AllReadyH.cons (o:=_) rfl (fun K hK=>?_) AllReadyH.nil)
  refine step_store_row none rfl (by rfl) 31 (.tmp 6) (.tmp 25) rfl _ 0 31 _ (prdV q A' c') rfl rfl (r10.later hB10 r10.lt) (by rw[hZl.out,length_prdV _ hpa.ok.net.a];exact Nat.le_refl _) (by rw[length_prdV _ hpa.ok.net.a];exact size_prd) (prdV_each _ _ _) ?_;intro ww211 r11 hg11;have hqw211:=(Below.refl w2.heap.size _).grown hg11 hB.size (fun k h=>by cases h;exact hGle.out);have r11:=row_all hZl.out (length_prdV q hpa.ok.net.a A' c') r11;have hpa11:PrdAt ww211 q A' c':=(by first | exact hpa.later (Nat.le_refl _) (hB6.grown hg11 hB6.size (fun k h=>by cases h;exact Nat.le_refl _)) | exact hpa.apart hg11 (hap.out _ r10.lt))
  refine hK.out _ _ (hHeld.trans hqw211) (fun hHeld'=>?_)
  clear hK K
  try (first | (rw[put_some];dsimp only[List.set]) | rw[put_none])
  have hB:=hB.trans hqw211
  clear hB6 hB10
  have hB11:Below ww211.heap.size ww211 ww211:=Below.refl _ _
  refine wpAnyH_narrow (S':=fun w'=>Below ww211.heap.size ww211 w') (fun _ h=>(hHeld.trans hqw211).trans (h.mono (hHeld.trans hqw211).size)) _ _ _ _ ?_
  clear hHeld
  have hHeld:Below ww211.heap.size ww211 ww211:=Below.refl _ _
  refine rtake 12 _ (some 7) _ rfl rfl (by kernel_rfl) (by kernel_rfl) (by kernel_rfl) (fun _ _ _ h=>h) (by rfl) hHeld (by intro w hS;go_simp;try with_reducible rfl) ?_
  try (first | (rw[put_some];dsimp only[List.set]) | rw[put_none])
  refine wpAnyH_done (by kernel_rfl) ?_ _
  refine NoPanic.normal ?_
  have hbx:=hb2.trans (hB.mono hb2.size)
  have Q2:=Lib.hid (show (_:World).heap[w.heap.size]?=some (.cells Z.toArray 31 (0,0)) from r2.later hB r2.lt)
  have hVl:=Lib.hid (show (Tryz.prog.info? 31).map (·.size)=some (prdV q A' c').length by rw[length_prdV _ hpa11.ok.net.a];exact size_prd)
  have hzV:=Lib.hid (show (Tryz.prog.info? 31).map (·.size)=some (prdV q A' c').toArray.size by rw[List.size_toArray];exact hVl.out)
  have hV1:=Lib.hid (prdV_one q A' c')
  have hVZ:=Lib.hid (show Z.toArray.size=(prdV q A' c').toArray.size by rw[List.size_toArray,List.size_toArray,hZl.out,length_prdV _ hpa11.ok.net.a])
  have K11:=Lib.hid (row_range r11)
  have HPA:=Lib.hid hpa11
  clear hpa hpa11 r11 r10 hB hB11 hrd
  obtain⟨V,hV⟩:∃V,V=prdV q A' c':=⟨_,rfl⟩
  rw[←hV] at hVl hzV hV1 hVZ K11
  try rw[←hV]
  have HV:=Lib.hid hV
  clear hV
  go_wp2_with (first | (with_reducible refine wpList_load_mid rfl 31 (.tmp 6) rfl ww26.heap.size 0 rfl V _ K11.out Tryz.underlying31 rfl hVl.out ?_) | (with_reducible refine wpList_load_mid rfl 31 (.tmp 6) rfl w2.heap.size 0 rfl V _ K11.out Tryz.underlying31 rfl hVl.out ?_) | (have _t:=Q2;with_reducible refine wpList_store_row rfl 31 (.tmp 2) (.tmp 30) rfl w.heap.size V.toArray rfl rfl 31 Z.toArray Q2.out hzV.out hVZ.out hV1.out ?_;refine Hid.out ?_))
  refine Lib.hid ?_
  generalize hw8:World.setRow _ _ _=w8
  obtain⟨r8,hg8⟩:=row_set (show Row _ w.heap.size 31 Z from Q2.out) hw8
  have hb8:=hbx.grown hg8 hbx.size (fun k h=>by cases h;exact Nat.le_refl _)
  have R8:=Lib.hid (show w8.heap[w.heap.size]?=some (.cells V.toArray 31 (0,0)) from r8)
  clear hw8 r8 Q2
  go_wp2_with fail
  exact⟨rfl,_,results_row_tmp rfl _ _ w.heap.size 31 V.toArray (0,0) _ rfl R8.out Tryz.underlying31 rfl hzV.out _ rfl,A',c',by rw[HX.out,HV.out];rfl,by rw[HX.out];exact HPA.out.apart hg8 hapg.out,hb8⟩
 ·refine step_alloc (some 6) rfl (by rfl) (.pointer (some ⟨w2.heap.size,0,none⟩)) (.cells Z.toArray 31) (by rw[hZe.out];go_simp;try rfl) ?_;intro ww210 hw hqw210;have r10:Row ww210 w2.heap.size 31 Z:=(by rw[hw];exact Row.new _ _ _);have hGle:=Lib.hid hB.size;clear hw
  refine hK.out _ _ (hHeld.trans (hqw210.mono hHeld.size)) (fun hHeld'=>?_)
  clear hK K
  try (first | (rw[put_some];dsimp only[List.set]) | rw[put_none])
  have hB:=below_step hB hqw210
  have hB10:Below ww210.heap.size ww210 ww210:=Below.refl _ _
  clear hHeld
  have hHeld:=hHeld'
  refine wpAnyH_ready (rs:=[6]) (by kernel_rfl) (by simp) (AllReadyH.cons (o:=_) rfl (fun K hK=>?_) AllReadyH.nil)
  go_simp
  refine (hrd.out _ (hE2.next hB)).mono ?_;rintro e ww26 ⟨q,A',c',rfl,hpa,hap,hcr,hqw26⟩;have hap:=Lib.hid hap;obtain rfl:=hcr _ rfl;clear hcr;have hapg:=Lib.hid (hap.out _ (r2.later hB r2.lt).lt)
  try go_wp2_with fail
  refine hK.out _ _ (hHeld.trans (hqw26.mono hHeld.size)) (fun hHeld'=>?_)
  clear hK K
  try (first | (rw[put_some];dsimp only[List.set]) | rw[put_none])
  have hB:=below_step hB hqw26
  have hB10:=below_step hB10 hqw26
  have hB6:Below ww26.heap.size ww26 ww26:=Below.refl _ _
  clear hHeld
  have hHeld:=hHeld'
  refine rtake 7 _ (some 17) _ rfl rfl (by kernel_rfl) (by kernel_rfl) (by kernel_rfl) (fun _ _ _ h=>h) (by rfl) hHeld (by intro w hS;go_simp;try with_reducible rfl) ?_
  try (first | (rw[put_some];dsimp only[List.set]) | rw[put_none])
  refine rtake 8 _ (some 25) _ rfl rfl (by kernel_rfl) (by kernel_rfl) (by kernel_rfl) (fun _ _ _ h=>h) (by rfl) hHeld (by intro w hS;go_simp;try with_reducible rfl) ?_
  try (first | (rw[put_some];dsimp only[List.set]) | rw[put_none])
  refine rtake 9 _ (some 26) _ rfl rfl (by kernel_rfl) (by kernel_rfl) (by kernel_rfl) (fun _ _ _ h=>h) (by rfl) hHeld (by intro w hS;go_simp;try with_reducible rfl) ?_
  try (first | (rw[put_some];dsimp only[List.set]) | rw[put_none])
  refine wpAnyH_ready (rs:=[11]) (by kernel_rfl) (by simp) (AllReadyH.cons (o:=_) rfl (fun K hK=>?_) AllReadyH.nil)
  refine step_store_row none rfl (by rfl) 31 (.tmp 6) (.tmp 25) rfl _ 0 31 _ (prdV q A' c') rfl rfl (r10.later hB10 r10.lt) (by rw[hZl.out,length_prdV _ hpa.ok.net.a];exact Nat.le_refl _) (by rw[length_prdV _ hpa.ok.net.a];exact size_prd) (prdV_each _ _ _) ?_;intro ww211 r11 hg11;have hqw211:=(Below.refl w2.heap.size _).grown hg11 hB.size (fun k h=>by cases h;exact hGle.out);have r11:=row_all hZl.out (length_prdV q hpa.ok.net.a A' c') r11;have hpa11:PrdAt ww211 q A' c':=(by first | exact hpa.later (Nat.le_refl _) (hB6.grown hg11 hB6.size (fun k h=>by cases h;exact Nat.le_refl _)) | exact hpa.apart hg11 (hap.out _ r10.lt))
  refine hK.out _ _ (hHeld.trans hqw211) (fun hHeld'=>?_)
  clear hK K
  try (first | (rw[put_some];dsimp only[List.set]) | rw[put_none])
  have hB:=hB.trans hqw211
  clear hB10 hB6
  have hB11:Below ww211.heap.size ww211 ww211:=Below.refl _ _
  refine wpAnyH_narrow (S':=fun w'=>Below ww211.heap.size ww211 w') (fun _ h=>(hHeld.trans hqw211).trans (h.mono (hHeld.trans hqw211).size)) _ _ _ _ ?_
  clear hHeld
  have hHeld:Below ww211.heap.size ww211 ww211:=Below.refl _ _
  refine rtake 12 _ (some 7) _ rfl rfl (by kernel_rfl) (by kernel_rfl) (by kernel_rfl) (fun _ _ _ h=>h) (by rfl) hHeld (by intro w hS;go_simp;try with_reducible rfl) ?_
  try (first | (rw[put_some];dsimp only[List.set]) | rw[put_none])
  refine wpAnyH_done (by kernel_rfl) ?_ _
  refine NoPanic.normal ?_
  have hbx:=hb2.trans (hB.mono hb2.size)
  have Q2:=Lib.hid (show (_:World).heap[w.heap.size]?=some (.cells Z.toArray 31 (0,0)) from r2.later hB r2.lt)
  have hVl:=Lib.hid (show (Tryz.prog.info? 31).map (·.size)=some (prdV q A' c').length by rw[length_prdV _ hpa11.ok.net.a];exact size_prd)
  have hzV:=Lib.hid (show (Tryz.prog.info? 31).map (·.size)=some (prdV q A' c').toArray.size by rw[List.size_toArray];exact hVl.out)
  have hV1:=Lib.hid (prdV_one q A' c')
  have hVZ:=Lib.hid (show Z.toArray.size=(prdV q A' c').toArray.size by rw[List.size_toArray,List.size_toArray,hZl.out,length_prdV _ hpa11.ok.net.a])
  have K11:=Lib.hid (row_range r11)
  have HPA:=Lib.hid hpa11
  clear hpa hpa11 r11 r10 hB hB11 hrd
  obtain⟨V,hV⟩:∃V,V=prdV q A' c':=⟨_,rfl⟩
  rw[←hV] at hVl hzV hV1 hVZ K11
  try rw[←hV]
  have HV:=Lib.hid hV
  clear hV
  go_wp2_with (first | (with_reducible refine wpList_load_mid rfl 31 (.tmp 6) rfl ww26.heap.size 0 rfl V _ K11.out Tryz.underlying31 rfl hVl.out ?_) | (with_reducible refine wpList_load_mid rfl 31 (.tmp 6) rfl w2.heap.size 0 rfl V _ K11.out Tryz.underlying31 rfl hVl.out ?_) | (have _t:=Q2;with_reducible refine wpList_store_row rfl 31 (.tmp 2) (.tmp 30) rfl w.heap.size V.toArray rfl rfl 31 Z.toArray Q2.out hzV.out hVZ.out hV1.out ?_;refine Hid.out ?_))
  refine Lib.hid ?_
  generalize hw8:World.setRow _ _ _=w8
  obtain⟨r8,hg8⟩:=row_set (show Row _ w.heap.size 31 Z from Q2.out) hw8
  have hb8:=hbx.grown hg8 hbx.size (fun k h=>by cases h;exact Nat.le_refl _)
  have R8:=Lib.hid (show w8.heap[w.heap.size]?=some (.cells V.toArray 31 (0,0)) from r8)
  clear hw8 r8 Q2
  go_wp2_with fail
  exact⟨rfl,_,results_row_tmp rfl _ _ w.heap.size 31 V.toArray (0,0) _ rfl R8.out Tryz.underlying31 rfl hzV.out _ rfl,A',c',by rw[HX.out,HV.out];rfl,by rw[HX.out];exact HPA.out.apart hg8 hapg.out,hb8⟩
set_option maxHeartbeats 2000000 in
theorem pparse_no (s a b:List UInt8) (hs:s.length≤10000) (hbl:b.length≤1000) (w:World) (hE:EnvQ w) (hw:wordsL s=some [a,b]) (hr:readP a b=none) (HX:parseP s=none):Calls Tryz.prog 21 #[.string (bstr s)] w (GavePrd (parseP s) w):=by
 obtain⟨Z,hZ⟩:∃Z,Z=prdV zeroP none 0:=⟨_,rfl⟩
 have hZl0:Z.length=23:=by rw[hZ];exact length_prdV _ zeroP_ok.net.a _ _
 have hzZ:=Lib.hid (show (Tryz.prog.info? 31).map (·.size)=some Z.toArray.size by rw[List.size_toArray,hZl0];exact size_prd)
 have hZ1:=Lib.hid (show Z.toArray.all (·.oneCell')=true by rw[hZ];exact prdV_one _ _ _)
 have hZe:=Lib.hid (hZ.trans prd_zero)
 have hZd:=Lib.hid (show Z=prdV zeroP none 0 from hZ)
 have hZl:=Lib.hid hZl0
 obtain⟨w1,hw1⟩:∃w1,w1=w.alloc (.cells Z.toArray 31):=⟨_,rfl⟩
 have r1:Row w1 w.heap.size 31 Z:=by rw[hw1];exact Row.new w _ _
 have hb1:Below w.heap.size w w1:=by rw[hw1];exact (Below.refl _ w).alloc (Nat.le_refl _) _
 have HW:=Lib.hid (hw1.trans (show w.alloc (.cells Z.toArray 31)=w.alloc (.cells [Value.int .i64 0,.int .u64 0,.slice none 0 0,.string { data:=#[] },.bool false,.int .u8 0,.int .u8 0,.int .u8 0,.int .u8 0,.int .u8 0,.int .u8 0,.int .u8 0,.int .u8 0,.int .u8 0,.int .u8 0,.int .u8 0,.int .u8 0,.int .u8 0,.int .u8 0,.int .u8 0,.int .u8 0,.int .i64 0,.float .f64 0].toArray 31) by rw[hZe.out]))
 have tok1:True:=trivial
 have hE1:=hE.next hb1
 have hwd:=xwords_any s hs w1 hE1.x
 unfold GaveRow at hwd
 have HX:=Lib.hid HX
 rw[hw] at hwd
 have hwd:Calls Tryz.prog 51 #[.string (bstr s)] w1 fun e w'=>∃(A:Option Addr) (c:Nat),e=.returned (.tuple #[.slice A 2 c,.bool true])∧Sl w' A c (strsV [a,b])∧Below w1.heap.size w1 w':=hwd
 have hrd:=fun w' h=>pread17_any a b hbl w' h
 rw[hr] at hrd
 unfold GaveRead at hrd
 have hrd:∀w',EnvQ w'→Calls Tryz.prog 52 #[.string (bstr a),.string (bstr b)] w' fun e w''=>∃(q:Prd) (A:Option Addr) (c:Nat),e=.returned (.tuple #[.agg (prdV q A c).toArray,.bool false])∧PrdAt w'' q A c∧(∀g,g < w'.heap.size→∀a,A=some a→a.block≠g)∧(∀x,none=some x→q=x)∧Below w'.heap.size w' w'':=hrd
 have hwd:=Lib.hid hwd
 have hrd:=Lib.hid hrd
 clear hw hr hw1 hZ hZl0 hE
 generalize bstr s=S at *
 obtain⟨A0,hA0⟩:∃A0,A0=bstr a:=⟨_,rfl⟩
 obtain⟨B0,hB0⟩:∃B0,B0=bstr b:=⟨_,rfl⟩
 rw[←hA0,←hB0] at hrd
 have hst:strsV [a,b]=[.string A0,.string B0]:=by rw[hA0,hB0];rfl
 rw[hst] at hwd
 clear hst hA0 hB0
 go_enter Tryz.func21,Tryz.ntmps21
 go_wp2_with (first
  | (have _t:=tok1;rw[←HW.out];clear tok1)
  | (go_at_call 51;refine hwd.out.mono ?_;rintro e w2 ⟨A,c,rfl,hsl,hq2⟩;have r2:=r1.later hq2 r1.lt;have hb2:=hb1.trans (hq2.mono hb1.size);have hE2:=hE1.next hq2;clear hq2 r1))
 obtain⟨bk,ofs,rfl,-,-⟩:=hsl.rd.get (i:=0) (by show 0 < 2;decide)
 have hk0:∀w',Below w2.heap.size w2 w'→w'.cell? ⟨bk,ofs,none⟩=some (.string A0):=fun w' h=>by
  obtain⟨b',o',e,-,hc⟩:=(hsl.later (Nat.le_refl _) h).rd.get (i:=0) (by show 0 < 2;decide)
  cases e;rw[Nat.add_zero] at hc;exact hc
 have hk1:∀w',Below w2.heap.size w2 w'→w'.cell? ⟨bk,ofs+1,none⟩=some (.string B0):=fun w' h=>by
  obtain⟨b',o',e,-,hc⟩:=(hsl.later (Nat.le_refl _) h).rd.get (i:=1) (by show 1 < 2;decide)
  cases e;exact hc
 have hix0:∀W,(Instr.indexAt 23 (.slice (some ⟨bk,ofs,none⟩) 2 c) (.int .i64 0)).run Tryz.prog W=.ok (.pointer (some ⟨bk,ofs,none⟩)) W:=index_strs (some ⟨bk,ofs,none⟩) bk ofs 2 c 0 rfl (by decide)
 have hix1:∀W,(Instr.indexAt 23 (.slice (some ⟨bk,ofs,none⟩) 2 c) (.int .i64 1)).run Tryz.prog W=.ok (.pointer (some ⟨bk,ofs+1,none⟩)) W:=index_strs (some ⟨bk,ofs,none⟩) bk ofs 2 c 1 rfl (by decide)
 have HK0:=Lib.hid hk0
 have HK1:=Lib.hid hk1
 clear hk0 hk1 hE1 hwd HW
 refine wp_region_noPanic ?_
 refine wp_region_held_drew (S:=fun w'=>Below w2.heap.size w2 w') (by kernel_rfl) ((Below.refl _ _).drew) (fun hHeld=>?_)
 have hB:=hHeld
 refine rtake 0 _ (some 18) _ rfl rfl (by kernel_rfl) (by kernel_rfl) (by kernel_rfl) (fun _ _ _ h=>h) (by rfl) hHeld (by intro w hS;go_simp;try with_reducible rfl) ?_
 try (first | (rw[put_some];dsimp only[List.set]) | rw[put_none])
 refine rtake 1 _ (some 19) _ rfl rfl (by kernel_rfl) (by kernel_rfl) (by kernel_rfl) (fun _ _ _ h=>h) (by rfl) hHeld (by intro w hS;go_simp;try with_reducible rfl) ?_
 try (first | (rw[put_some];dsimp only[List.set]) | rw[put_none])
 refine rtake 2 _ (some 20) _ rfl rfl (by kernel_rfl) (by kernel_rfl) (by kernel_rfl) (fun _ _ _ h=>h) (by rfl) hHeld (by intro w hS;have hk:=HK0.out _ hS;clear hS;go_simp;try with_reducible rfl) ?_
 try (first | (rw[put_some];dsimp only[List.set]) | rw[put_none])
 refine rtake 3 _ (some 21) _ rfl rfl (by kernel_rfl) (by kernel_rfl) (by kernel_rfl) (fun _ _ _ h=>h) (by rfl) hHeld (by intro w hS;go_simp;try with_reducible rfl) ?_
 try (first | (rw[put_some];dsimp only[List.set]) | rw[put_none])
 refine rtake 4 _ (some 22) _ rfl rfl (by kernel_rfl) (by kernel_rfl) (by kernel_rfl) (fun _ _ _ h=>h) (by rfl) hHeld (by intro w hS;go_simp;try with_reducible rfl) ?_
 try (first | (rw[put_some];dsimp only[List.set]) | rw[put_none])
 refine rtake 5 _ (some 23) _ rfl rfl (by kernel_rfl) (by kernel_rfl) (by kernel_rfl) (fun _ _ _ h=>h) (by rfl) hHeld (by intro w hS;have hk:=HK1.out _ hS;clear hS;go_simp;try with_reducible rfl) ?_
 try (first | (rw[put_some];dsimp only[List.set]) | rw[put_none])
 refine wpAnyH_ready (rs:=[6,10]) (by kernel_rfl) (by simp) (AllReadyH.cons (o:=_) rfl (fun K hK=>?_) (AllReadyH.cons (o:=_) rfl (fun K hK=>?_) AllReadyH.nil))
 ·go_simp
  refine (hrd.out _ (hE2.next hB)).mono ?_;rintro e ww26 ⟨q,A',c',rfl,hpa,hap,hcr,hqw26⟩;have hap:=Lib.hid hap;clear hcr;have hapg:=Lib.hid (hap.out _ (r2.later hB r2.lt).lt)
  try go_wp2_with fail
  refine hK.out _ _ (hHeld.trans (hqw26.mono hHeld.size)) (fun hHeld'=>?_)
  clear hK K
  try (first | (rw[put_some];dsimp only[List.set]) | rw[put_none])
  have hB:=below_step hB hqw26
  have hB6:Below ww26.heap.size ww26 ww26:=Below.refl _ _
  clear hHeld
  have hHeld:=hHeld'
  refine rtake 7 _ (some 17) _ rfl rfl (by kernel_rfl) (by kernel_rfl) (by kernel_rfl) (fun _ _ _ h=>h) (by rfl) hHeld (by intro w hS;go_simp;try with_reducible rfl) ?_
  try (first | (rw[put_some];dsimp only[List.set]) | rw[put_none])
  refine rtake 8 _ (some 25) _ rfl rfl (by kernel_rfl) (by kernel_rfl) (by kernel_rfl) (fun _ _ _ h=>h) (by rfl) hHeld (by intro w hS;go_simp;try with_reducible rfl) ?_
  try (first | (rw[put_some];dsimp only[List.set]) | rw[put_none])
  refine rtake 9 _ (some 26) _ rfl rfl (by kernel_rfl) (by kernel_rfl) (by kernel_rfl) (fun _ _ _ h=>h) (by rfl) hHeld (by intro w hS;go_simp;try with_reducible rfl) ?_
  try (first | (rw[put_some];dsimp only[List.set]) | rw[put_none])
  refine wpAnyH_ready (rs:=[10]) (by kernel_rfl) (by simp) (AllReadyH.cons (o:=_) rfl (fun K hK=>?_) AllReadyH.nil)
  refine step_alloc (some 6) rfl (by rfl) (.pointer (some ⟨ww26.heap.size,0,none⟩)) (.cells Z.toArray 31) (by rw[hZe.out];go_simp;try rfl) ?_;intro ww210 hw hqw210;have r10:Row ww210 ww26.heap.size 31 Z:=(by rw[hw];exact Row.new _ _ _);have hGle:=Lib.hid hB.size;clear hw
  refine hK.out _ _ (hHeld.trans (hqw210.mono hHeld.size)) (fun hHeld'=>?_)
  clear hK K
  try (first | (rw[put_some];dsimp only[List.set]) | rw[put_none])
  have hB:=below_step hB hqw210
  have hB6:=below_step hB6 hqw210
  have hB10:Below ww210.heap.size ww210 ww210:=Below.refl _ _
  clear hHeld
  have hHeld:=hHeld'
  refine wpAnyH_ready (rs:=[11]) (by kernel_rfl) (by simp) (AllReadyH.cons (o:=_) rfl (fun K hK=>?_) AllReadyH.nil)
  refine step_store_row none rfl (by rfl) 31 (.tmp 6) (.tmp 25) rfl _ 0 31 _ (prdV q A' c') rfl rfl (r10.later hB10 r10.lt) (by rw[hZl.out,length_prdV _ hpa.ok.net.a];exact Nat.le_refl _) (by rw[length_prdV _ hpa.ok.net.a];exact size_prd) (prdV_each _ _ _) ?_;intro ww211 r11 hg11;have hqw211:=(Below.refl w2.heap.size _).grown hg11 hB.size (fun k h=>by cases h;exact hGle.out);have r11:=row_all hZl.out (length_prdV q hpa.ok.net.a A' c') r11;have hpa11:PrdAt ww211 q A' c':=(by first | exact hpa.later (Nat.le_refl _) (hB6.grown hg11 hB6.size (fun k h=>by cases h;exact Nat.le_refl _)) | exact hpa.apart hg11 (hap.out _ r10.lt))
  refine hK.out _ _ (hHeld.trans hqw211) (fun hHeld'=>?_)
  clear hK K
  try (first | (rw[put_some];dsimp only[List.set]) | rw[put_none])
  have hB:=hB.trans hqw211
  clear hB6 hB10
  have hB11:Below ww211.heap.size ww211 ww211:=Below.refl _ _
  refine wpAnyH_narrow (S':=fun w'=>Below ww211.heap.size ww211 w') (fun _ h=>(hHeld.trans hqw211).trans (h.mono (hHeld.trans hqw211).size)) _ _ _ _ ?_
  clear hHeld
  have hHeld:Below ww211.heap.size ww211 ww211:=Below.refl _ _
  refine rtake 12 _ (some 7) _ rfl rfl (by kernel_rfl) (by kernel_rfl) (by kernel_rfl) (fun _ _ _ h=>h) (by rfl) hHeld (by intro w hS;go_simp;try with_reducible rfl) ?_
  try (first | (rw[put_some];dsimp only[List.set]) | rw[put_none])
  refine wpAnyH_done (by kernel_rfl) ?_ _
  refine NoPanic.normal ?_
  have hbx:=hb2.trans (hB.mono hb2.size)
  have Q2:=Lib.hid (show (_:World).heap[w.heap.size]?=some (.cells Z.toArray 31 (0,0)) from r2.later hB r2.lt)
  clear hpa hpa11 r11 r10 hB hB11 hrd hap hapg
  go_wp2_with (have _t:=Q2;refine wpList_store_row rfl 31 (.tmp 2) (.tmp 29) rfl w.heap.size Z.toArray rfl (by rw[hZe.out];rfl) 31 Z.toArray Q2.out hzZ.out rfl hZ1.out ?_;refine Hid.out ?_)
  refine Lib.hid ?_
  generalize hw8:World.setRow _ _ _=w8
  obtain⟨r8,hg8⟩:=row_set (show Row _ w.heap.size 31 Z from Q2.out) hw8
  have hb8:=hbx.grown hg8 hbx.size (fun k h=>by cases h;exact Nat.le_refl _)
  have R8:=Lib.hid (show w8.heap[w.heap.size]?=some (.cells Z.toArray 31 (0,0)) from r8)
  clear hw8 r8 Q2
  go_wp2_with fail
  exact⟨rfl,_,results_row_tmp rfl _ _ w.heap.size 31 Z.toArray (0,0) _ rfl R8.out Tryz.underlying31 rfl hzZ.out _ rfl,none,0,by rw[HX.out,hZd.out];rfl,by rw[HX.out];exact zero_at _,hb8⟩
 ·refine step_alloc (some 6) rfl (by rfl) (.pointer (some ⟨w2.heap.size,0,none⟩)) (.cells Z.toArray 31) (by rw[hZe.out];go_simp;try rfl) ?_;intro ww210 hw hqw210;have r10:Row ww210 w2.heap.size 31 Z:=(by rw[hw];exact Row.new _ _ _);have hGle:=Lib.hid hB.size;clear hw
  refine hK.out _ _ (hHeld.trans (hqw210.mono hHeld.size)) (fun hHeld'=>?_)
  clear hK K
  try (first | (rw[put_some];dsimp only[List.set]) | rw[put_none])
  have hB:=below_step hB hqw210
  have hB10:Below ww210.heap.size ww210 ww210:=Below.refl _ _
  clear hHeld
  have hHeld:=hHeld'
  refine wpAnyH_ready (rs:=[6]) (by kernel_rfl) (by simp) (AllReadyH.cons (o:=_) rfl (fun K hK=>?_) AllReadyH.nil)
  go_simp
  refine (hrd.out _ (hE2.next hB)).mono ?_;rintro e ww26 ⟨q,A',c',rfl,hpa,hap,hcr,hqw26⟩;have hap:=Lib.hid hap;clear hcr;have hapg:=Lib.hid (hap.out _ (r2.later hB r2.lt).lt)
  try go_wp2_with fail
  refine hK.out _ _ (hHeld.trans (hqw26.mono hHeld.size)) (fun hHeld'=>?_)
  clear hK K
  try (first | (rw[put_some];dsimp only[List.set]) | rw[put_none])
  have hB:=below_step hB hqw26
  have hB10:=below_step hB10 hqw26
  have hB6:Below ww26.heap.size ww26 ww26:=Below.refl _ _
  clear hHeld
  have hHeld:=hHeld'
  refine rtake 7 _ (some 17) _ rfl rfl (by kernel_rfl) (by kernel_rfl) (by kernel_rfl) (fun _ _ _ h=>h) (by rfl) hHeld (by intro w hS;go_simp;try with_reducible rfl) ?_
  try (first | (rw[put_some];dsimp only[List.set]) | rw[put_none])
  refine rtake 8 _ (some 25) _ rfl rfl (by kernel_rfl) (by kernel_rfl) (by kernel_rfl) (fun _ _ _ h=>h) (by rfl) hHeld (by intro w hS;go_simp;try with_reducible rfl) ?_
  try (first | (rw[put_some];dsimp only[List.set]) | rw[put_none])
  refine rtake 9 _ (some 26) _ rfl rfl (by kernel_rfl) (by kernel_rfl) (by kernel_rfl) (fun _ _ _ h=>h) (by rfl) hHeld (by intro w hS;go_simp;try with_reducible rfl) ?_
  try (first | (rw[put_some];dsimp only[List.set]) | rw[put_none])
  refine wpAnyH_ready (rs:=[11]) (by kernel_rfl) (by simp) (AllReadyH.cons (o:=_) rfl (fun K hK=>?_) AllReadyH.nil)
  refine step_store_row none rfl (by rfl) 31 (.tmp 6) (.tmp 25) rfl _ 0 31 _ (prdV q A' c') rfl rfl (r10.later hB10 r10.lt) (by rw[hZl.out,length_prdV _ hpa.ok.net.a];exact Nat.le_refl _) (by rw[length_prdV _ hpa.ok.net.a];exact size_prd) (prdV_each _ _ _) ?_;intro ww211 r11 hg11;have hqw211:=(Below.refl w2.heap.size _).grown hg11 hB.size (fun k h=>by cases h;exact hGle.out);have r11:=row_all hZl.out (length_prdV q hpa.ok.net.a A' c') r11;have hpa11:PrdAt ww211 q A' c':=(by first | exact hpa.later (Nat.le_refl _) (hB6.grown hg11 hB6.size (fun k h=>by cases h;exact Nat.le_refl _)) | exact hpa.apart hg11 (hap.out _ r10.lt))
  refine hK.out _ _ (hHeld.trans hqw211) (fun hHeld'=>?_)
  clear hK K
  try (first | (rw[put_some];dsimp only[List.set]) | rw[put_none])
  have hB:=hB.trans hqw211
  clear hB10 hB6
  have hB11:Below ww211.heap.size ww211 ww211:=Below.refl _ _
  refine wpAnyH_narrow (S':=fun w'=>Below ww211.heap.size ww211 w') (fun _ h=>(hHeld.trans hqw211).trans (h.mono (hHeld.trans hqw211).size)) _ _ _ _ ?_
  clear hHeld
  have hHeld:Below ww211.heap.size ww211 ww211:=Below.refl _ _
  refine rtake 12 _ (some 7) _ rfl rfl (by kernel_rfl) (by kernel_rfl) (by kernel_rfl) (fun _ _ _ h=>h) (by rfl) hHeld (by intro w hS;go_simp;try with_reducible rfl) ?_
  try (first | (rw[put_some];dsimp only[List.set]) | rw[put_none])
  refine wpAnyH_done (by kernel_rfl) ?_ _
  refine NoPanic.normal ?_
  have hbx:=hb2.trans (hB.mono hb2.size)
  have Q2:=Lib.hid (show (_:World).heap[w.heap.size]?=some (.cells Z.toArray 31 (0,0)) from r2.later hB r2.lt)
  clear hpa hpa11 r11 r10 hB hB11 hrd hap hapg
  go_wp2_with (have _t:=Q2;refine wpList_store_row rfl 31 (.tmp 2) (.tmp 29) rfl w.heap.size Z.toArray rfl (by rw[hZe.out];rfl) 31 Z.toArray Q2.out hzZ.out rfl hZ1.out ?_;refine Hid.out ?_)
  refine Lib.hid ?_
  generalize hw8:World.setRow _ _ _=w8
  obtain⟨r8,hg8⟩:=row_set (show Row _ w.heap.size 31 Z from Q2.out) hw8
  have hb8:=hbx.grown hg8 hbx.size (fun k h=>by cases h;exact Nat.le_refl _)
  have R8:=Lib.hid (show w8.heap[w.heap.size]?=some (.cells Z.toArray 31 (0,0)) from r8)
  clear hw8 r8 Q2
  go_wp2_with fail
  exact⟨rfl,_,results_row_tmp rfl _ _ w.heap.size 31 Z.toArray (0,0) _ rfl R8.out Tryz.underlying31 rfl hzZ.out _ rfl,none,0,by rw[HX.out,hZd.out];rfl,by rw[HX.out];exact zero_at _,hb8⟩
theorem pparse17_any (s:List UInt8) (hs:s.length≤10000) (w:World) (hE:EnvQ w):Calls Tryz.prog 21 #[.string (bstr s)] w (GavePrd (parseP s) w):=by
 have hp:=parse_two s
 by_cases h2:((wordsL s).getD []).length=2
 ·obtain⟨a,b,hw⟩:∃a b,wordsL s=some [a,b]:=by
   cases hw:wordsL s with
   | none=>rw[hw] at h2;cases h2
   | some l =>
    rw[hw] at h2
    match l,h2 with
    | [a,b],_=>exact⟨a,b,rfl⟩
  obtain⟨-,-,-,hl⟩:=two_words s a b hw
  have hr:readP a b=parseP s:=by rw[←hp];unfold parse2;rw[hw]
  cases hq:readP a b with
  | none=>exact pparse_no s a b hs (by omega) w hE hw hq (by rw[←hr,hq])
  | some p=>exact pparse_hit s a b p hs (by omega) w hE hw hq (by rw[←hr,hq])
 ·refine pparse_not s hs w hE h2 ?_
  rw[←hp]
  cases hq:parse2 s with
  | none=>rfl
  | some p =>
   obtain⟨a,b,hw,-⟩:=parse2_some s p hq
   rw[hw] at h2
   exact absurd rfl h2
theorem bstr_map_inj (xs ys:List (List UInt8)):decide (xs.map bstr=ys.map bstr)=decide (xs=ys):=by
 rw[decide_eq_decide]
 constructor
 ·intro h
  induction xs generalizing ys with
  | nil=>cases ys with
   | nil=>rfl
   | cons y ys=>cases h
  | cons x xs ih=>cases ys with
   | nil=>cases h
   | cons y ys =>
    rw[List.map_cons,List.map_cons] at h
    injection h with h1 h2
    rw[bstr_inj h1,ih ys h2]
 ·rintro rfl;rfl
theorem getD_bstr (xs:List (List UInt8)) (j:Nat) (h:j < xs.length):(xs.map bstr).getD j ByteArray.empty=bstr (xs.getD j []):=by
 rw[List.getD_eq_getElem?_getD,List.getElem?_map,List.getD_eq_getElem?_getD,List.getElem?_eq_getElem h];rfl
theorem sequal_any (xs ys:List (List UInt8)) (hx:xs.length≤1000000) (hy:ys.length≤1000000) (A B:Option Addr) (c d:Nat) (w:World) (hs:Sl w A c (strsV xs)) (ht:Sl w B d (strsV ys)) :
  Calls Tryz.prog 63 #[.slice A xs.length c,.slice B ys.length d] w fun e w'=>e=.returned (.bool (decide (xs=ys)))∧Below w.heap.size w w':=by
 by_cases hl:xs.length=ys.length
 ·by_cases h0:xs.length=0
  ·have e1:=List.length_eq_zero_iff.1 h0
   have e2:=List.length_eq_zero_iff.1 (hl ▸ h0)
   subst e1 e2
   refine (Tryz.slices_Equal_string_empty A B c 0 d w (by decide)).mono ?_
   rintro e w' ⟨rfl,rfl⟩
   exact⟨rfl,Below.refl _ _⟩
  ·obtain⟨b1,o1,rfl,-,-⟩:=hs.rd.get (i:=0) (by rw[length_strsV];omega)
   obtain⟨b2,o2,rfl,-,-⟩:=ht.rd.get (i:=0) (by rw[length_strsV];omega)
   refine (Tryz.slices_Equal_string b1 o1 xs.length c b2 o2 ys.length d (xs.map bstr) (ys.map bstr) w (by rw[List.length_map];omega) (by rw[List.length_map];omega) (by omega) (by omega)
    (fun j hj=>by rw[List.length_map] at hj;rw[getD_bstr xs j hj];exact strs_cell hs j hj) (fun j hj=>by rw[List.length_map] at hj;rw[getD_bstr ys j hj];exact strs_cell ht j hj)).mono ?_
   rintro e w' ⟨rfl,q,rfl⟩
   refine⟨?_,below_drewN' (Below.refl _ w) q⟩
   rw[List.take_of_length_le (by rw[List.length_map];omega),List.take_of_length_le (by rw[List.length_map];omega),bstr_map_inj]
 ·refine (Tryz.slices_Equal_string_lens A B xs.length c ys.length d w hl).mono ?_
  rintro e w' ⟨rfl,rfl⟩
  exact⟨by rw[decide_eq_false (fun h=>hl (by rw[h]))],Below.refl _ _⟩
theorem cut_strs' (A:Option Addr) (c m n:Nat) (hA:A=none→c=0) (hc:n≤c):∃A',(∀w,(Instr.sliceAt 23 (.slice A m c) none (some (.int .i64 (n:Int))) none).run Tryz.prog w=.ok (.slice A' n c) w)∧A'=A:=by
 refine⟨A,fun w=>?_,rfl⟩
 cases A with
 | none =>
  obtain rfl:=hA rfl
  obtain rfl:n=0:=by omega
  clear hA hc
  go_simp
 | some a =>
  have h2:(n:Int)≤(c:Int):=by omega
  clear hA hc
  go_simp
set_option maxHeartbeats 4000000 in
theorem punder_any (top p:List UInt8) (ht:top.length≤1000) (hp:p.length≤1000) (w:World) (hE:EnvP w):Calls Tryz.prog 29 #[.string (bstr top),.string (bstr p)] w fun e w'=>e=.returned (.bool (underL top p))∧Below w.heap.size w w':=by
 have hr1:=pright_any top ht w
 have hr2:=fun w'=>pright_any p hp w'
 obtain⟨V,hV⟩:∃V,V=underL top p:=⟨_,rfl⟩
 have HV:=Lib.hid (hV.trans (underN_eq top p).symm)
 rw[←hV]
 clear hV
 have tok1:True:=trivial
 cases h1:rightL top with
 | false =>
  rw[h1] at hr1
  have HR:=Lib.hid hr1
  have HW:=Lib.hid (show V=false by rw[HV.out];unfold underN;rw[h1];rfl)
  clear h1 hr1 hr2 HV
  go_enter Tryz.func29,Tryz.ntmps29
  go_wp2_with (go_at_call 61;refine HR.out.mono ?_;rintro e w1 ⟨rfl,hb1⟩)
  go_ret
  exact⟨by rw[HW.out];rfl,hb1⟩
 | true =>
  rw[h1] at hr1
  have HR1:=Lib.hid hr1
  clear hr1
  cases h2:rightL p with
  | false =>
   rw[h2] at hr2
   have HR2:=Lib.hid hr2
   have HW:=Lib.hid (show V=false by rw[HV.out];unfold underN;rw[h2,Bool.and_false,Bool.false_and])
   clear h1 h2 hr2 HV
   go_enter Tryz.func29,Tryz.ntmps29
   go_wp2_with (first
    | (go_at_call 61;have _t:=tok1;refine HR1.out.mono ?_;rintro e w1 ⟨rfl,hb1⟩;clear tok1 HR1)
    | (go_at_call 61;refine (HR2.out _).mono ?_;rintro e w2 ⟨rfl,hb2⟩))
   go_ret
   exact⟨by rw[HW.out];rfl,hb1.trans (hb2.mono hb1.size)⟩
  | true =>
   rw[h2] at hr2
   have HR2:=Lib.hid hr2
   have HW:=Lib.hid (show V=(decide ((namesL top).length≤(namesL p).length)&&decide (namesL top=(namesL p).take (namesL top).length)) by rw[HV.out];unfold underN;rw[h1,h2];rfl)
   have hn1:=Lib.hid (fun w' h=>pnames_any top ht w' h)
   have hn2:=Lib.hid (fun w' h=>pnames_any p hp w' h)
   have l1:=names_sum top
   have l2:=names_sum p
   clear h1 h2 hr2 HV
   generalize namesL top=xs at *
   generalize namesL p=ys at *
   have tok2:True:=trivial
   by_cases hle:xs.length≤ys.length
   ·have hle':(xs.length:Int)≤(ys.length:Int):=by omega
    have HX:=Lib.hid (show V=decide (xs=ys.take xs.length) by rw[HW.out,decide_eq_true hle,Bool.true_and])
    have hyl:(ys.take xs.length).length=xs.length:=by rw[List.length_take];omega
    have HYL:=Lib.hid hyl
    clear HW hle
    go_enter Tryz.func29,Tryz.ntmps29
    go_wp2_with (first
     | (go_at_call 61;have _t:=tok1;refine HR1.out.mono ?_;rintro e w1 ⟨rfl,hb1⟩;clear tok1 HR1)
     | (go_at_call 61;refine (HR2.out _).mono ?_;rintro e w2 ⟨rfl,hb2⟩;have hb2:=hb1.trans (hb2.mono hb1.size);have hE2:=hE.next hb2)
     | (go_at_call 62;have _t:=tok2;refine (hn1.out _ hE2).mono ?_;rintro e w3 ⟨A,c,rfl,hs3,hb3⟩;have hE3:=hE2.next hb3;have hb3:=hb2.trans (hb3.mono hb2.size);clear tok2)
     | (go_at_call 62;refine (hn2.out _ hE3).mono ?_;rintro e w4 ⟨B,d,rfl,hs4,hb4⟩;have hs3:=hs3.later (Nat.le_refl _) hb4;have hb4:=hb3.trans (hb4.mono hb3.size);refine Hid.out ?_))
    refine Lib.hid ?_
    have htk:Sl w4 B d (strsV (ys.take xs.length)):=by rw[strsV_take];exact hs4.take
    have heq:=sequal_any xs (ys.take xs.length) (by omega) (by omega) A B c d w4 hs3 htk
    rw[HYL.out] at heq
    have hroom:=hs4.room
    rw[length_strsV] at hroom
    obtain⟨B',hct,hB'⟩:=cut_strs' B d ys.length xs.length (fun h=>hs4.bare h) (by omega)
    subst hB'
    have HQ:=Lib.hid heq
    clear heq htk hroom hyl
    generalize decide (xs=ys.take xs.length)=D at *
    generalize xs.length=n at *
    generalize ys.length=m at *
    go_wp2_with (go_at_call 63;refine HQ.out.mono ?_;rintro e w5 ⟨rfl,hb5⟩)
    go_ret
    exact⟨by rw[HX.out];rfl,hb4.trans (hb5.mono hb4.size)⟩
   ·have hle':(ys.length:Int) < (xs.length:Int):=by omega
    have HX:=Lib.hid (show V=false by rw[HW.out,decide_eq_false hle,Bool.false_and])
    clear HW hle
    go_enter Tryz.func29,Tryz.ntmps29
    go_wp2_with (first
     | (go_at_call 61;have _t:=tok1;refine HR1.out.mono ?_;rintro e w1 ⟨rfl,hb1⟩;clear tok1 HR1)
     | (go_at_call 61;refine (HR2.out _).mono ?_;rintro e w2 ⟨rfl,hb2⟩;have hb2:=hb1.trans (hb2.mono hb1.size);have hE2:=hE.next hb2)
     | (go_at_call 62;have _t:=tok2;refine (hn1.out _ hE2).mono ?_;rintro e w3 ⟨A,c,rfl,hs3,hb3⟩;have hE3:=hE2.next hb3;have hb3:=hb2.trans (hb3.mono hb2.size);clear tok2)
     | (go_at_call 62;refine (hn2.out _ hE3).mono ?_;rintro e w4 ⟨B,d,rfl,hs4,hb4⟩;have hb4:=hb3.trans (hb4.mono hb3.size)))
    go_ret
    exact⟨by rw[HX.out];rfl,hb4⟩
theorem psame15_any (a b:Nat) (w:World):Calls Tryz.prog 83 #[.float .f64 a,.float .f64 b] w fun e w'=>e=.returned (.bool (decide (a=b)))∧w=w':=by
 go_enter Tryz.func83,Tryz.ntmps83
 go_wp2
 go_ret
 refine⟨?_,rfl⟩
 show Ending.returned (.bool ((a:Int)==(b:Int)))=_
 congr 2
 rw[Bool.eq_iff_iff,beq_iff_eq,decide_eq_true_iff]
 omega
set_option maxHeartbeats 8000000 in
theorem psame17_any (p q:Prd) (A B:Option Addr) (c d:Nat) (w:World) (hp:PrdAt w p A c) (hq:PrdAt w q B d) :
  Calls Tryz.prog 50 #[.agg (prdV p A c).toArray,.agg (prdV q B d).toArray] w fun e w'=>e=.returned (.bool (sameP p q))∧Below w.heap.size w w':=by
 have hszp:=Lib.hid (show (Tryz.prog.info? 28).map (·.size)=some (rngV p.net).length by rw[length_rngV' _ hp.ok.net.a];exact size_rng)
 have hszq:=Lib.hid (show (Tryz.prog.info? 28).map (·.size)=some (rngV q.net).length by rw[length_rngV' _ hq.ok.net.a];exact size_rng)
 obtain⟨w1,hw1⟩:∃w1,w1=(w.alloc (.cells (prdV p A c).toArray 31)).alloc (.cells (prdV q B d).toArray 31):=⟨_,rfl⟩
 obtain⟨r1,r2,hb1,-⟩:=two_rows hw1.symm
 have hp1:=hp.later (Nat.le_refl _) hb1
 have hq1:=hq.later (Nat.le_refl _) hb1
 have hns:=Lib.hid (sequal_any p.names q.names (by have:=sumS_len p.names;have:=hp.sum;omega) (by have:=sumS_len q.names;have:=hq.sum;omega) A B c d w1 hp1.names hq1.names)
 obtain⟨p0,p1,p2,p3,p4,p5⟩:=prd_cells hp.ok.net.a r1
 obtain⟨q0,q1,q2,q3,q4,q5⟩:=prd_cells hq.ok.net.a r2
 have KP:=Lib.hid (fun w' (h:Below w1.heap.size w1 w')=>prd_cells hp.ok.net.a (r1.later h r1.lt))
 have KQ:=Lib.hid (fun w' (h:Below w1.heap.size w1 w')=>prd_cells hq.ok.net.a (r2.later h r2.lt))
 have heq:=Lib.hid (fun w'=>show (Op.equalIn 10000 28 (.agg (rngV p.net).toArray) (.agg (rngV q.net).toArray)).run Tryz.prog w'=.ok (sameR p.net q.net) w' from eq_rng p.net q.net hp.ok.net.a hq.ok.net.a w')
 have hcs:=Lib.hid (fun w'=>psame15_any p.cost q.cost w')
 have HW:=Lib.hid hw1
 have tok:True:=trivial
 have hpb:=bstr_beq p.path q.path
 clear hw1 r1 r2 hp hq hp1 hq1
 generalize prdV p A c=X at *
 generalize prdV q B d=Y at *
 by_cases t1:p.kind=q.kind
 case neg =>
  have HX:=Lib.hid (show sameP p q=false by unfold sameP;simp[t1])
  have a1:(p.kind==q.kind)=false:=by rw[beq_eq_false_iff_ne];exact t1
  clear heq t1
  generalize rngV p.net=R at *
  generalize rngV q.net=R2 at *
  generalize p.names.length=N at *
  generalize q.names.length=N2 at *
  generalize p.kind=kp at *
  generalize q.kind=kq at *
  go_enter Tryz.func50,Tryz.ntmps50
  go_wp2_with (first
   | (have _t:=tok;rw[←HW.out];clear tok))
  go_ret
  exact⟨by rw[HX.out];rfl,hb1⟩
 by_cases t2:p.time=q.time
 case neg =>
  have HX:=Lib.hid (show sameP p q=false by unfold sameP;simp[t1,t2])
  have a1:(p.kind==q.kind)=true:=beq_iff_eq.2 t1
  have a2:((p.time:Int)==(q.time:Int))=false:=by rw[beq_eq_false_iff_ne];omega
  clear heq t1 t2
  generalize rngV p.net=R at *
  generalize rngV q.net=R2 at *
  generalize p.names.length=N at *
  generalize q.names.length=N2 at *
  generalize p.kind=kp at *
  generalize q.kind=kq at *
  go_enter Tryz.func50,Tryz.ntmps50
  go_wp2_with (first
   | (have _t:=tok;rw[←HW.out];clear tok))
  go_ret
  exact⟨by rw[HX.out];rfl,hb1⟩
 by_cases t3:p.names=q.names
 case neg =>
  have HX:=Lib.hid (show sameP p q=false by unfold sameP;simp[t1,t2,t3])
  have a1:(p.kind==q.kind)=true:=beq_iff_eq.2 t1
  have a2:((p.time:Int)==(q.time:Int))=true:=by rw[t2];exact beq_self_eq_true _
  rw[decide_eq_false t3] at hns
  clear heq t1 t2 t3
  generalize rngV p.net=R at *
  generalize rngV q.net=R2 at *
  generalize p.names.length=N at *
  generalize q.names.length=N2 at *
  generalize p.kind=kp at *
  generalize q.kind=kq at *
  go_enter Tryz.func50,Tryz.ntmps50
  go_wp2_with (first
   | (have _t:=tok;rw[←HW.out];clear tok)
   | (go_at_call 63;refine hns.out.mono ?_;rintro e w2 ⟨rfl,hqq⟩;have hb1:=hb1.trans (hqq.mono hb1.size);obtain⟨p0,p1,p2,p3,p4,p5⟩:=KP.out _ hqq;obtain⟨q0,q1,q2,q3,q4,q5⟩:=KQ.out _ hqq))
  go_ret
  exact⟨by rw[HX.out];rfl,hb1⟩
 by_cases t4:p.path=q.path
 case neg =>
  have HX:=Lib.hid (show sameP p q=false by unfold sameP;simp[t1,t2,t3,t4])
  have a1:(p.kind==q.kind)=true:=beq_iff_eq.2 t1
  have a2:((p.time:Int)==(q.time:Int))=true:=by rw[t2];exact beq_self_eq_true _
  rw[decide_eq_true t3] at hns
  rw[decide_eq_false t4] at hpb
  clear heq t1 t2 t3 t4
  generalize rngV p.net=R at *
  generalize rngV q.net=R2 at *
  generalize p.names.length=N at *
  generalize q.names.length=N2 at *
  generalize p.kind=kp at *
  generalize q.kind=kq at *
  go_enter Tryz.func50,Tryz.ntmps50
  go_wp2_with (first
   | (have _t:=tok;rw[←HW.out];clear tok)
   | (go_at_call 63;refine hns.out.mono ?_;rintro e w2 ⟨rfl,hqq⟩;have hb1:=hb1.trans (hqq.mono hb1.size);obtain⟨p0,p1,p2,p3,p4,p5⟩:=KP.out _ hqq;obtain⟨q0,q1,q2,q3,q4,q5⟩:=KQ.out _ hqq))
  go_ret
  exact⟨by rw[HX.out];rfl,hb1⟩
 by_cases t5:sameR p.net q.net=true
 case neg =>
  have HX:=Lib.hid (show sameP p q=false by unfold sameP;simp[t1,t2,t3,t4,t5])
  have a1:(p.kind==q.kind)=true:=beq_iff_eq.2 t1
  have a2:((p.time:Int)==(q.time:Int))=true:=by rw[t2];exact beq_self_eq_true _
  rw[decide_eq_true t3] at hns
  rw[decide_eq_true t4] at hpb
  have a5:=fun w'=>(heq.out w').trans (by rw[show sameR p.net q.net=false from by simpa using t5])
  clear heq t1 t2 t3 t4 t5
  generalize rngV p.net=R at *
  generalize rngV q.net=R2 at *
  generalize p.names.length=N at *
  generalize q.names.length=N2 at *
  generalize p.kind=kp at *
  generalize q.kind=kq at *
  go_enter Tryz.func50,Tryz.ntmps50
  go_wp2_with (first
   | (have _t:=tok;rw[←HW.out];clear tok)
   | (go_at_call 63;refine hns.out.mono ?_;rintro e w2 ⟨rfl,hqq⟩;have hb1:=hb1.trans (hqq.mono hb1.size);obtain⟨p0,p1,p2,p3,p4,p5⟩:=KP.out _ hqq;obtain⟨q0,q1,q2,q3,q4,q5⟩:=KQ.out _ hqq)
   | (with_reducible refine wpList_open (d:=some 33) ?_ ?_;kernel_rfl;with_reducible refine wpList_load_mid rfl 28 (.tmp 32) rfl w.heap.size 4 rfl R _ p4 Tryz.underlying28 rfl hszp.out ?_)
   | (with_reducible refine wpList_open (d:=some 35) ?_ ?_;kernel_rfl;with_reducible refine wpList_load_mid rfl 28 (.tmp 34) rfl (w.heap.size+1) 4 rfl R2 _ q4 Tryz.underlying28 rfl hszq.out ?_))
  go_ret
  exact⟨by rw[HX.out];rfl,hb1⟩
 by_cases t6:p.cost=q.cost
 case neg =>
  have HX:=Lib.hid (show sameP p q=false by unfold sameP;simp[t1,t2,t3,t4,t5,t6])
  have a1:(p.kind==q.kind)=true:=beq_iff_eq.2 t1
  have a2:((p.time:Int)==(q.time:Int))=true:=by rw[t2];exact beq_self_eq_true _
  rw[decide_eq_true t3] at hns
  rw[decide_eq_true t4] at hpb
  have a5:=fun w'=>(heq.out w').trans (by rw[t5])
  rw[decide_eq_false t6] at hcs
  clear heq t1 t2 t3 t4 t5 t6
  generalize rngV p.net=R at *
  generalize rngV q.net=R2 at *
  generalize p.names.length=N at *
  generalize q.names.length=N2 at *
  generalize p.kind=kp at *
  generalize q.kind=kq at *
  go_enter Tryz.func50,Tryz.ntmps50
  go_wp2_with (first
   | (have _t:=tok;rw[←HW.out];clear tok)
   | (go_at_call 63;refine hns.out.mono ?_;rintro e w2 ⟨rfl,hqq⟩;have hb1:=hb1.trans (hqq.mono hb1.size);obtain⟨p0,p1,p2,p3,p4,p5⟩:=KP.out _ hqq;obtain⟨q0,q1,q2,q3,q4,q5⟩:=KQ.out _ hqq)
   | (with_reducible refine wpList_open (d:=some 33) ?_ ?_;kernel_rfl;with_reducible refine wpList_load_mid rfl 28 (.tmp 32) rfl w.heap.size 4 rfl R _ p4 Tryz.underlying28 rfl hszp.out ?_)
   | (with_reducible refine wpList_open (d:=some 35) ?_ ?_;kernel_rfl;with_reducible refine wpList_load_mid rfl 28 (.tmp 34) rfl (w.heap.size+1) 4 rfl R2 _ q4 Tryz.underlying28 rfl hszq.out ?_)
   | (go_at_call 83;refine (hcs.out _).mono ?_;rintro e w' ⟨rfl,rfl⟩))
  go_ret
  exact⟨by rw[HX.out];rfl,hb1⟩
 have HX:=Lib.hid (show sameP p q=true by unfold sameP;simp[t1,t2,t3,t4,t5,t6])
 have a1:(p.kind==q.kind)=true:=beq_iff_eq.2 t1
 have a2:((p.time:Int)==(q.time:Int))=true:=by rw[t2];exact beq_self_eq_true _
 rw[decide_eq_true t3] at hns
 rw[decide_eq_true t4] at hpb
 have a5:=fun w'=>(heq.out w').trans (by rw[t5])
 rw[decide_eq_true t6] at hcs
 clear heq t1 t2 t3 t4 t5 t6
 generalize rngV p.net=R at *
 generalize rngV q.net=R2 at *
 generalize p.names.length=N at *
 generalize q.names.length=N2 at *
 generalize p.kind=kp at *
 generalize q.kind=kq at *
 go_enter Tryz.func50,Tryz.ntmps50
 go_wp2_with (first
  | (have _t:=tok;rw[←HW.out];clear tok)
  | (go_at_call 63;refine hns.out.mono ?_;rintro e w2 ⟨rfl,hqq⟩;have hb1:=hb1.trans (hqq.mono hb1.size);obtain⟨p0,p1,p2,p3,p4,p5⟩:=KP.out _ hqq;obtain⟨q0,q1,q2,q3,q4,q5⟩:=KQ.out _ hqq)
  | (with_reducible refine wpList_open (d:=some 33) ?_ ?_;kernel_rfl;with_reducible refine wpList_load_mid rfl 28 (.tmp 32) rfl w.heap.size 4 rfl R _ p4 Tryz.underlying28 rfl hszp.out ?_)
  | (with_reducible refine wpList_open (d:=some 35) ?_ ?_;kernel_rfl;with_reducible refine wpList_load_mid rfl 28 (.tmp 34) rfl (w.heap.size+1) 4 rfl R2 _ q4 Tryz.underlying28 rfl hszq.out ?_)
  | (go_at_call 83;refine (hcs.out _).mono ?_;rintro e w' ⟨rfl,rfl⟩))
 go_ret
 exact⟨by rw[HX.out];rfl,hb1⟩
end Go.Proofs.YtjieebmcbpdeiaaGreatDoor
