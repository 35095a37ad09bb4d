import Derived.Test.YtimdhdimhboboaaGreatDoorRbbc
import Derived.Test.YtimdhdimhboboaaGreatDoorRbba
import Derived.Deep.DeepCutAuto
import Derived.Test.YtimdhdimhboboaaGreatDoorRbao
import Derived.Test.YtimdhdimhboboaaGreatDoorRbaa
import Derived.Test.YtimdhdimhboboaaGreatDoorCards
import Derived.Test.YtimdhdimhboboaaGreatDoorTie
import Derived.Stop.LaidErr
import Derived.Shelf.Vars
namespace Go.Proofs.YtimdhdimhboboaaGreatDoor
set_option maxRecDepth 100000
open Go Go.RowKit
theorem o0q (p:Prd) (A:Option Addr) (c:Nat):∀v∈prdV p A c,v.oneCell'=true:=by
 have h:=d0N p A c
 rw[List.all_toArray,List.all_eq_true] at h
 exact h
theorem w0K {w:World} {g t n:Nat} {Z V:List Value} (hz:Z.length=n) (hv:V.length=n) (h:Row w g t (splice Z 0 V)):Row w g t V:=by
 have e:splice Z 0 V=V:=by
  unfold splice
  rw[List.take_zero,List.nil_append,Nat.zero_add,hv,←hz,List.drop_length,List.append_nil]
 rw[e] at h
 exact h
set_option maxHeartbeats 1000000 in
theorem t0a (s:List UInt8) (hs:s.length≤10000) (w:World) (hE:EnvQ w) (hn:((b0X s).getD []).length≠2) (HX:c0x s=none):Calls Tryz.prog 32 #[.string (bstr s)] w (f0m (c0x s) w):=by
 obtain⟨Z,hZ⟩:∃Z,Z=prdV f0Y none 0:=⟨_,rfl⟩
 have hZl0:Z.length=23:=by rw[hZ];exact a0Z _ j0r.net.a _ _
 have hzZ:=Lib.hid (show (Tryz.prog.info? 70).map (·.size)=some Z.toArray.size by rw[List.size_toArray,hZl0];exact c0F)
 have hZ1:=Lib.hid (show Z.toArray.all (·.oneCell')=true by rw[hZ];exact d0N _ _ _)
 have hZe:=Lib.hid (hZ.trans j0l)
 have hZd:=Lib.hid (show Z=prdV f0Y none 0 from hZ)
 have hZl:=Lib.hid hZl0
 obtain⟨w1,hw1⟩:∃w1,w1=w.alloc (.cells Z.toArray 70):=⟨_,rfl⟩
 have r1:Row w1 w.heap.size 70 Z:=by rw[hw1];exact Row.new w _ _
 have hb1:Below w.heap.size w w1:=by rw[hw1];exact (Below.refl _ w).alloc (Nat.le_refl _) _
 have HW:=Lib.hid (hw1.trans (show w.alloc (.cells Z.toArray 70)=w.alloc (.cells [Value.int .i64 0,.int .u64 0,.slice none 0 0,.string { data:=#[] },.bool false,.int .u8 0,.int .u8 0,.int .u8 0,.int .u8 0,.int .u8 0,.int .u8 0,.int .u8 0,.int .u8 0,.int .u8 0,.int .u8 0,.int .u8 0,.int .u8 0,.int .u8 0,.int .u8 0,.int .u8 0,.int .u8 0,.int .i64 0,.float .f64 0].toArray 70) by rw[hZe.out]))
 have tok1:True:=trivial
 have hE1:=hE.next hb1
 have hwd:=l0N s hs w1 hE1.x
 unfold o0Y at hwd
 have HX:=Lib.hid HX
 have hsl:((b0X s).getD []).length≤9223372036854775807:=by
  have h:((b0X s).getD []).length≤s.length+1:=by
   unfold b0X
   split
   ·show (0:Nat)≤_;omega
   ·split
    ·exact c0T 32 s
    ·show (0:Nat)≤_;omega
  omega
 generalize (b0X s).getD []=L at *
 generalize (b0X s).isSome=k at *
 have hwd:=Lib.hid hwd
 generalize L.length=n at *
 have hn1:(n:Int)≠2:=by omega
 have hn2:((n:Int)==2)=false:=beq_eq_false_iff_ne.2 hn1
 clear hw1 hZ hZl0 hn hE hE1
 generalize bstr s=S at *
 go_enter Tryz.func32,Tryz.ntmps32
 go_wp2_with (first
  | (have _t:=tok1;rw[←HW.out];clear tok1)
  | (go_at_call 49;refine hwd.out.mono ?_;rintro e w2 ⟨A,c,rfl,-,hq2⟩;have r2:=r1.later hq2 r1.lt;have hb2:=hb1.trans (hq2.mono hb1.size);have Q2:=Lib.hid (show w2.heap[w.heap.size]?=some (.cells Z.toArray 70 (0,0)) from r2);clear hq2 r1 r2)
  | (have _t:=Q2;refine wpList_store_row rfl 70 (.tmp 2) (.tmp 16) rfl w.heap.size Z.toArray rfl (by rw[hZe.out];rfl) 70 Z.toArray Q2.out hzZ.out rfl hZ1.out ?_;refine Hid.out ?_))
 refine Lib.hid ?_
 generalize hw8:World.setRow _ _ _=w8
 obtain⟨r8,hg8⟩:=a0z (show Row w2 w.heap.size 70 Z from Q2.out) hw8
 have hb8:=hb2.grown hg8 hb2.size (fun k h=>by cases h;exact Nat.le_refl _)
 have R8:=Lib.hid (show w8.heap[w.heap.size]?=some (.cells Z.toArray 70 (0,0)) from r8)
 clear hw8 r8 Q2
 go_wp2_with fail
 exact⟨rfl,_,a0g rfl _ _ w.heap.size 70 Z.toArray (0,0) _ rfl R8.out Tryz.underlying70 rfl hzZ.out _ rfl,none,0,by rw[HX.out,hZd.out];rfl,by rw[HX.out];exact i0t _,hb8⟩
set_option maxHeartbeats 2000000 in
theorem k0k (s a b:List UInt8) (hs:s.length≤10000) (o:Option Prd) (hrd:∀w',EnvQ w'→Calls Tryz.prog 50 #[.string (bstr a),.string (bstr b)] w' (i0T o w')) (w:World) (hE:EnvQ w) (hw:b0X s=some [a,b]):Calls Tryz.prog 32 #[.string (bstr s)] w (f0m o w):=by
 obtain⟨Z,hZ⟩:∃Z,Z=prdV f0Y none 0:=⟨_,rfl⟩
 have hZl0:Z.length=23:=by rw[hZ];exact a0Z _ j0r.net.a _ _
 have hzZ:=Lib.hid (show (Tryz.prog.info? 70).map (·.size)=some Z.toArray.size by rw[List.size_toArray,hZl0];exact c0F)
 have hZ1:=Lib.hid (show Z.toArray.all (·.oneCell')=true by rw[hZ];exact d0N _ _ _)
 have hZe:=Lib.hid (hZ.trans j0l)
 have hZd:=Lib.hid (show Z=prdV f0Y none 0 from hZ)
 have hZl:=Lib.hid hZl0
 obtain⟨w1,hw1⟩:∃w1,w1=w.alloc (.cells Z.toArray 70):=⟨_,rfl⟩
 have r1:Row w1 w.heap.size 70 Z:=by rw[hw1];exact Row.new w _ _
 have hb1:Below w.heap.size w w1:=by rw[hw1];exact (Below.refl _ w).alloc (Nat.le_refl _) _
 have HW:=Lib.hid (hw1.trans (show w.alloc (.cells Z.toArray 70)=w.alloc (.cells [Value.int .i64 0,.int .u64 0,.slice none 0 0,.string { data:=#[] },.bool false,.int .u8 0,.int .u8 0,.int .u8 0,.int .u8 0,.int .u8 0,.int .u8 0,.int .u8 0,.int .u8 0,.int .u8 0,.int .u8 0,.int .u8 0,.int .u8 0,.int .u8 0,.int .u8 0,.int .u8 0,.int .u8 0,.int .i64 0,.float .f64 0].toArray 70) by rw[hZe.out]))
 have tok1:True:=trivial
 have hE1:=hE.next hb1
 have hwd:=l0N s hs w1 hE1.x
 unfold o0Y at hwd
 rw[hw] at hwd
 have hwd:Calls Tryz.prog 49 #[.string (bstr s)] w1 fun e w'=>∃(A:Option Addr) (c:Nat),e=.returned (.tuple #[.slice A 2 c,.bool true])∧Sl w' A c (a0I [a,b])∧Below w1.heap.size w1 w':=hwd
 unfold i0T at hrd
 have hwd:=Lib.hid hwd
 have hrd:=Lib.hid hrd
 clear hw hw1 hZ hZl0 hE
 generalize bstr s=S at *
 obtain⟨A0,hA0⟩:∃A0,A0=bstr a:=⟨_,rfl⟩
 obtain⟨B0,hB0⟩:∃B0,B0=bstr b:=⟨_,rfl⟩
 rw[←hA0,←hB0] at hrd
 have hst:a0I [a,b]=[.string A0,.string B0]:=by rw[hA0,hB0];rfl
 rw[hst] at hwd
 clear hst hA0 hB0
 go_enter Tryz.func32,Tryz.ntmps32
 go_wp2_with (first
  | (have _t:=tok1;rw[←HW.out];clear tok1)
  | (go_at_call 49;refine hwd.out.mono ?_;rintro e w2 ⟨A,c,rfl,hsl,hq2⟩;have r2:=r1.later hq2 r1.lt;have hb2:=hb1.trans (hq2.mono hb1.size);have hE2:=hE1.next hq2;clear hq2 r1))
 obtain⟨bk,ofs,rfl,-,-⟩:=hsl.rd.get (i:=0) (by show 0 < 2;decide)
 have hk0:∀w',Below w2.heap.size w2 w'→w'.cell? ⟨bk,ofs,none⟩=some (.string A0):=fun w' h=>by
  obtain⟨b',o',e,-,hc⟩:=(hsl.later (Nat.le_refl _) h).rd.get (i:=0) (by show 0 < 2;decide)
  cases e;rw[Nat.add_zero] at hc;exact hc
 have hk1:∀w',Below w2.heap.size w2 w'→w'.cell? ⟨bk,ofs+1,none⟩=some (.string B0):=fun w' h=>by
  obtain⟨b',o',e,-,hc⟩:=(hsl.later (Nat.le_refl _) h).rd.get (i:=1) (by show 1 < 2;decide)
  cases e;exact hc
 have hix0:∀W,(Instr.indexAt 59 (.slice (some ⟨bk,ofs,none⟩) 2 c) (.int .i64 0)).run Tryz.prog W=.ok (.pointer (some ⟨bk,ofs,none⟩)) W:=b0R (some ⟨bk,ofs,none⟩) bk ofs 2 c 0 rfl (by decide)
 have hix1:∀W,(Instr.indexAt 59 (.slice (some ⟨bk,ofs,none⟩) 2 c) (.int .i64 1)).run Tryz.prog W=.ok (.pointer (some ⟨bk,ofs+1,none⟩)) W:=b0R (some ⟨bk,ofs,none⟩) bk ofs 2 c 1 rfl (by decide)
 have HK0:=Lib.hid hk0
 have HK1:=Lib.hid hk1
 clear hk0 hk1 hE1 hwd HW
 go_cut [6,7] (fun y z wx=>∃g q A' c',y=.pointer (some ⟨g,0,none⟩)∧z=.bool o.isSome∧f0I wx q A' c'∧(∀a,A'=some a→a.block≠w.heap.size)∧(∀x,o=some x→q=x)∧Row wx g 70 (prdV q A' c')∧Below w2.heap.size w2 wx)
 case first =>
  refine wp_region_noPanic ?_
  refine wp_region_held_drew (S:=fun w'=>Below w2.heap.size w2 w') (by kernel_rfl) ((Below.refl _ _).drew) (fun hHeld=>?_)
  have hB:=hHeld
  refine rt 0 18 hHeld ?_
  refine rt 1 19 hHeld ?_
  refine rt 2 20 hHeld ?_ (hy:=by intro w hS;have hk:=HK0.out _ hS;clear hS;go_simp;try with_reducible rfl)
  refine rt 3 21 hHeld ?_
  refine rt 4 22 hHeld ?_
  refine rt 5 23 hHeld ?_ (hy:=by intro w hS;have hk:=HK1.out _ hS;clear hS;go_simp;try with_reducible rfl)
  refine wpAnyH_ready (rs:=[6,10]) (by kernel_rfl) (by simp) (AllReadyH.cons (o:=_) rfl (fun K hK=>?_) (AllReadyH.cons (o:=_) rfl (fun K hK=>?_) AllReadyH.nil))
  ·go_simp
   refine (hrd.out _ (hE2.next hB)).mono ?_;rintro e ww26 ⟨q,A',c',rfl,hpa,hap,hcr,hqw26⟩;have hap:=Lib.hid hap;have hcr:=Lib.hid hcr;have hapg:=Lib.hid (hap.out _ (r2.later hB r2.lt).lt)
   try go_wp2_with fail
   refine hK.out _ _ (hHeld.trans (hqw26.mono hHeld.size)) (fun hHeld'=>?_)
   clear hK K
   try (first | (rw[a0c];dsimp only[List.set]) | rw[a0d])
   have hB:=a0a hB hqw26
   have hB6:Below ww26.heap.size ww26 ww26:=Below.refl _ _
   clear hHeld
   have hHeld:=hHeld'
   refine rt 7 17 hHeld ?_
   refine rt 8 25 hHeld ?_
   refine rt 9 26 hHeld ?_
   refine wpAnyH_ready (rs:=[10]) (by kernel_rfl) (by simp) (AllReadyH.cons (o:=_) rfl (fun K hK=>?_) AllReadyH.nil)
   refine b0x (some 6) rfl (by rfl) (.pointer (some ⟨ww26.heap.size,0,none⟩)) (.cells Z.toArray 70) (by rw[hZe.out];go_simp;try rfl) ?_;intro ww210 hw hqw210;have r10:Row ww210 ww26.heap.size 70 Z:=(by rw[hw];exact Row.new _ _ _);have hGle:=Lib.hid hB.size;clear hw
   refine hK.out _ _ (hHeld.trans (hqw210.mono hHeld.size)) (fun hHeld'=>?_)
   clear hK K
   try (first | (rw[a0c];dsimp only[List.set]) | rw[a0d])
   have hB:=a0a hB hqw210
   have hB6:=a0a hB6 hqw210
   have hB10:Below ww210.heap.size ww210 ww210:=Below.refl _ _
   clear hHeld
   have hHeld:=hHeld'
   refine wpAnyH_ready (rs:=[11]) (by kernel_rfl) (by simp) (AllReadyH.cons (o:=_) rfl (fun K hK=>?_) AllReadyH.nil)
   refine b0h none rfl (by rfl) 70 (.tmp 6) (.tmp 25) rfl _ 0 70 _ (prdV q A' c') rfl rfl (r10.later hB10 r10.lt) (by rw[hZl.out,a0Z _ hpa.ok.net.a];exact Nat.le_refl _) (by rw[a0Z _ hpa.ok.net.a];exact c0F) (o0q _ _ _) ?_;intro ww211 r11 hg11;have hqw211:=(Below.refl w2.heap.size _).grown hg11 hB.size (fun k h=>by cases h;exact hGle.out);have r11:=w0K hZl.out (a0Z q hpa.ok.net.a A' c') r11;have hpa11:f0I ww211 q A' c':=(by first | exact hpa.later (Nat.le_refl _) (hB6.grown hg11 hB6.size (fun k h=>by cases h;exact Nat.le_refl _)) | exact hpa.apart hg11 (hap.out _ r10.lt))
   refine hK.out _ _ (hHeld.trans hqw211) (fun hHeld'=>?_)
   clear hK K
   try (first | (rw[a0c];dsimp only[List.set]) | rw[a0d])
   have hB:=hB.trans hqw211
   clear hB6 hB10
   have hB11:Below ww211.heap.size ww211 ww211:=Below.refl _ _
   refine a0j (S':=fun w'=>Below ww211.heap.size ww211 w') (fun _ h=>(hHeld.trans hqw211).trans (h.mono (hHeld.trans hqw211).size)) _ _ _ _ ?_
   clear hHeld
   have hHeld:Below ww211.heap.size ww211 ww211:=Below.refl _ _
   refine rt 12 7 hHeld ?_
   refine wpAnyH_done (by kernel_rfl) ?_ _
   refine NoPanic.normal ?_
   go_wp2_with fail
   go_meet
   case rel=>exact⟨_,q,A',c',rfl,rfl,hpa11,hapg.out,hcr.out,r11,hB⟩
  ·refine b0x (some 6) rfl (by rfl) (.pointer (some ⟨w2.heap.size,0,none⟩)) (.cells Z.toArray 70) (by rw[hZe.out];go_simp;try rfl) ?_;intro ww210 hw hqw210;have r10:Row ww210 w2.heap.size 70 Z:=(by rw[hw];exact Row.new _ _ _);have hGle:=Lib.hid hB.size;clear hw
   refine hK.out _ _ (hHeld.trans (hqw210.mono hHeld.size)) (fun hHeld'=>?_)
   clear hK K
   try (first | (rw[a0c];dsimp only[List.set]) | rw[a0d])
   have hB:=a0a hB hqw210
   have hB10:Below ww210.heap.size ww210 ww210:=Below.refl _ _
   clear hHeld
   have hHeld:=hHeld'
   refine wpAnyH_ready (rs:=[6]) (by kernel_rfl) (by simp) (AllReadyH.cons (o:=_) rfl (fun K hK=>?_) AllReadyH.nil)
   go_simp
   refine (hrd.out _ (hE2.next hB)).mono ?_;rintro e ww26 ⟨q,A',c',rfl,hpa,hap,hcr,hqw26⟩;have hap:=Lib.hid hap;have hcr:=Lib.hid hcr;have hapg:=Lib.hid (hap.out _ (r2.later hB r2.lt).lt)
   try go_wp2_with fail
   refine hK.out _ _ (hHeld.trans (hqw26.mono hHeld.size)) (fun hHeld'=>?_)
   clear hK K
   try (first | (rw[a0c];dsimp only[List.set]) | rw[a0d])
   have hB:=a0a hB hqw26
   have hB10:=a0a hB10 hqw26
   have hB6:Below ww26.heap.size ww26 ww26:=Below.refl _ _
   clear hHeld
   have hHeld:=hHeld'
   refine rt 7 17 hHeld ?_
   refine rt 8 25 hHeld ?_
   refine rt 9 26 hHeld ?_
   refine wpAnyH_ready (rs:=[11]) (by kernel_rfl) (by simp) (AllReadyH.cons (o:=_) rfl (fun K hK=>?_) AllReadyH.nil)
   refine b0h none rfl (by rfl) 70 (.tmp 6) (.tmp 25) rfl _ 0 70 _ (prdV q A' c') rfl rfl (r10.later hB10 r10.lt) (by rw[hZl.out,a0Z _ hpa.ok.net.a];exact Nat.le_refl _) (by rw[a0Z _ hpa.ok.net.a];exact c0F) (o0q _ _ _) ?_;intro ww211 r11 hg11;have hqw211:=(Below.refl w2.heap.size _).grown hg11 hB.size (fun k h=>by cases h;exact hGle.out);have r11:=w0K hZl.out (a0Z q hpa.ok.net.a A' c') r11;have hpa11:f0I ww211 q A' c':=(by first | exact hpa.later (Nat.le_refl _) (hB6.grown hg11 hB6.size (fun k h=>by cases h;exact Nat.le_refl _)) | exact hpa.apart hg11 (hap.out _ r10.lt))
   refine hK.out _ _ (hHeld.trans hqw211) (fun hHeld'=>?_)
   clear hK K
   try (first | (rw[a0c];dsimp only[List.set]) | rw[a0d])
   have hB:=hB.trans hqw211
   clear hB10 hB6
   have hB11:Below ww211.heap.size ww211 ww211:=Below.refl _ _
   refine a0j (S':=fun w'=>Below ww211.heap.size ww211 w') (fun _ h=>(hHeld.trans hqw211).trans (h.mono (hHeld.trans hqw211).size)) _ _ _ _ ?_
   clear hHeld
   have hHeld:Below ww211.heap.size ww211 ww211:=Below.refl _ _
   refine rt 12 7 hHeld ?_
   refine wpAnyH_done (by kernel_rfl) ?_ _
   refine NoPanic.normal ?_
   go_wp2_with fail
   go_meet
   case rel=>exact⟨_,q,A',c',rfl,rfl,hpa11,hapg.out,hcr.out,r11,hB⟩
 case rest =>
 obtain⟨g,q,A',c',rfl,rfl,hpa,hap,hcr,r11,hB⟩:=hcut
 have hbx:=hb2.trans (hB.mono hb2.size)
 have Q2:=Lib.hid (show (_:World).heap[w.heap.size]?=some (.cells Z.toArray 70 (0,0)) from r2.later hB r2.lt)
 have HAP:=Lib.hid hap
 have HPA:=Lib.hid hpa
 cases o with
 | none =>
  clear r11 hB hrd hcr hap hpa
  go_wp2_with (have _t:=Q2;refine wpList_store_row rfl 70 (.tmp 2) (.tmp 29) rfl w.heap.size Z.toArray rfl (by rw[hZe.out];rfl) 70 Z.toArray Q2.out hzZ.out rfl hZ1.out ?_;refine Hid.out ?_)
  refine Lib.hid ?_
  generalize hw8:World.setRow _ _ _=w8
  obtain⟨r8,hg8⟩:=a0z (show Row _ w.heap.size 70 Z from Q2.out) hw8
  have hb8:=hbx.grown hg8 hbx.size (fun k h=>by cases h;exact Nat.le_refl _)
  have R8:=Lib.hid (show w8.heap[w.heap.size]?=some (.cells Z.toArray 70 (0,0)) from r8)
  clear hw8 r8 Q2
  go_wp2_with fail
  exact⟨rfl,_,a0g rfl _ _ w.heap.size 70 Z.toArray (0,0) _ rfl R8.out Tryz.underlying70 rfl hzZ.out _ rfl,none,0,by rw[hZd.out];rfl,i0t _,hb8⟩
 | some p =>
  obtain rfl:=hcr _ rfl
  have hVl:=Lib.hid (show (Tryz.prog.info? 70).map (·.size)=some (prdV q A' c').length by rw[a0Z _ hpa.ok.net.a];exact c0F)
  have hzV:=Lib.hid (show (Tryz.prog.info? 70).map (·.size)=some (prdV q A' c').toArray.size by rw[List.size_toArray];exact hVl.out)
  have hV1:=Lib.hid (d0N q A' c')
  have hVZ:=Lib.hid (show Z.toArray.size=(prdV q A' c').toArray.size by rw[List.size_toArray,List.size_toArray,hZl.out,a0Z _ hpa.ok.net.a])
  have K11:=Lib.hid (a0m r11)
  clear r11 hB hrd hcr hap hpa
  obtain⟨V,hV⟩:∃V,V=prdV q A' c':=⟨_,rfl⟩
  rw[←hV] at hVl hzV hV1 hVZ K11
  have HV:=Lib.hid hV
  clear hV
  go_wp2_with (first | (with_reducible refine wpList_load_mid rfl 70 (.tmp 6) rfl g 0 rfl V _ K11.out Tryz.underlying70 rfl hVl.out ?_) | (have _t:=Q2;with_reducible refine wpList_store_row rfl 70 (.tmp 2) (.tmp 30) rfl w.heap.size V.toArray rfl rfl 70 Z.toArray Q2.out hzV.out hVZ.out hV1.out ?_;refine Hid.out ?_))
  refine Lib.hid ?_
  generalize hw8:World.setRow _ _ _=w8
  obtain⟨r8,hg8⟩:=a0z (show Row _ w.heap.size 70 Z from Q2.out) hw8
  have hb8:=hbx.grown hg8 hbx.size (fun k h=>by cases h;exact Nat.le_refl _)
  have R8:=Lib.hid (show w8.heap[w.heap.size]?=some (.cells V.toArray 70 (0,0)) from r8)
  clear hw8 r8 Q2
  go_wp2_with fail
  exact⟨rfl,_,a0g rfl _ _ w.heap.size 70 V.toArray (0,0) _ rfl R8.out Tryz.underlying70 rfl hzV.out _ rfl,A',c',by rw[HV.out];rfl,HPA.out.apart hg8 HAP.out,hb8⟩
theorem o0p (s:List UInt8) (hs:s.length≤10000) (w:World) (hE:EnvQ w):Calls Tryz.prog 32 #[.string (bstr s)] w (f0m (c0x s) w):=by
 have hp:=w0u s
 by_cases h2:((b0X s).getD []).length=2
 ·obtain⟨a,b,hw⟩:∃a b,b0X s=some [a,b]:=by
   cases hw:b0X s with
   | none=>rw[hw] at h2;cases h2
   | some l =>
    rw[hw] at h2
    match l,h2 with
    | [a,b],_=>exact⟨a,b,rfl⟩
  obtain⟨-,-,-,hl⟩:=o0T s a b hw
  have hr:f0a a b=c0x s:=by rw[←hp];unfold l0s;rw[hw]
  rw[←hr]
  exact k0k s a b hs _ (fun w' h=>p0N a b (by omega) w' h) w hE hw
 ·refine t0a s hs w hE h2 ?_
  rw[←hp]
  cases hq:l0s s with
  | none=>rfl
  | some p =>
   obtain⟨a,b,hw,-⟩:=k0i s p hq
   rw[hw] at h2
   exact absurd rfl h2
def i0x (t:Tok) (s:List UInt8) (o:Option Prd):Int:=if t.bound=true then 6 else if o.isSome=true then b0K t (b0m s) else 2
def attO (t:Tok) (s:List UInt8) (o:Option Prd):Tok:=if i0x t s o=0 then d0L t (b0m s) else d0j
set_option maxHeartbeats 8000000 in
theorem v0w (t:Tok) (ht:t.Ok) (s:List UInt8) (o:Option Prd) (hpr:∀w',EnvQ w'→Calls Tryz.prog 32 #[.string (bstr s)] w' (f0m o w')) (hcs:capC (b0m s)≤100000) (hft:({ t with cavs:=t.cavs++[b0m s] } : Tok).Fit) (hm:t.cavs.length≤1000000) (A:Option Addr) (c:Nat) (w:World) (hT:Tabs w) (hE:EnvQ w) (hs:Sl w A (c*5) (t.cavs.flatMap cavV)) :
  Calls Tryz.prog 19 #[.agg (tokV t A c).toArray,.string (bstr s)] w (d0z (attO t s o) (i0x t s o) w):=by
 obtain⟨Z,hZ⟩:∃Z,Z=tokV d0j none 0:=⟨_,rfl⟩
 have hZl:Z.length=36:=by rw[hZ];exact a0u d0p none 0
 have hZe:=Lib.hid (hZ.trans ztok)
 have hzZ:=Lib.hid (show (Tryz.prog.info? 27).map (·.size)=some Z.toArray.size by rw[List.size_toArray,hZl];exact a0T)
 have hZ1:=Lib.hid (show Z.toArray.all (·.oneCell')=true by rw[hZ,List.all_toArray,List.all_eq_true];exact b0W _ _ _)
 obtain⟨X,hX⟩:∃X,X=tokV t A c:=⟨_,rfl⟩
 have hXl:X.length=36:=by rw[hX];exact a0u ht A c
 have hzX2:=Lib.hid (show (Tryz.prog.info? 27).map (·.size)=some X.toArray.size by rw[List.size_toArray,hXl];exact a0T)
 obtain⟨w1,hw1⟩:∃w1,w1=(w.alloc (.cells X.toArray 27)).alloc (.cells Z.toArray 27):=⟨_,rfl⟩
 obtain⟨r1,r2,hb1⟩:=f0F hw1.symm
 have HW:=Lib.hid (hw1.trans (by rw[hZe.out]))
 have hc3:w1.cell? ⟨w.heap.size,3,none⟩=some (.bool t.bound):=by rw[r1.cell,hX];rfl
 have hadd:=Lib.hid (show ∀w',Tabs w'→Sl w' A (c*5) (t.cavs.flatMap cavV)→Calls Tryz.prog 14 #[.agg X.toArray,.agg #[.bool false,.string (bstr s),.int .u64 0,.string { data:=#[] },.string { data:=#[] }]] w' (d0z (addT t (b0m s)) (b0K t (b0m s)) w') by
  rw[hX];exact fun w' hT h=>c1A t ht (b0m s) (by show (0:Nat) < _;decide) hcs hm hft A c w' hT h)
 have ts:=hs.later (Nat.le_refl _) hb1
 have HZ:=Lib.hid hZ
 have Q2:=Lib.hid (show w1.heap[w.heap.size+1]?=some (.cells Z.toArray 27 (0,0)) from r2)
 have HE:=Lib.hid (show i0x t s o=if t.bound=true then 6 else if o.isSome=true then b0K t (b0m s) else 2 from rfl)
 have HG:=Lib.hid (show attO t s o=if i0x t s o=0 then d0L t (b0m s) else d0j from rfl)
 have HA:=Lib.hid (show addT t (b0m s)=if b0K t (b0m s)=0 then d0L t (b0m s) else d0j from rfl)
 rw[←hX]
 have tok1:True:=trivial
 have HTB:=Lib.hid hT
 have HEQ:=Lib.hid hE
 have hpr:=Lib.hid hpr
 clear hw1 hZ hX hs hT hE
 generalize i0x t s o=er at *
 generalize attO t s o=U at *
 cases hbd:t.bound with
 | true =>
  rw[hbd] at hc3 HE
  have e1:er=6:=HE.out.trans (if_pos rfl)
  have e2:U=d0j:=by rw[HG.out,e1];rfl
  have E1:=Lib.hid e1
  have E2:=Lib.hid e2
  clear e1 e2 HE HG r1 r2 ts hadd HA hZl hXl
  go_enter Tryz.func19,Tryz.ntmps19
  go_wp2_with (first
   | (have _t:=tok1;rw[←HW.out];clear tok1)
   | (have _t:=Q2;refine wpList_store_row rfl 27 (.tmp 4) (.tmp 10) rfl (w.heap.size+1) Z.toArray rfl (by rw[hZe.out];rfl) 27 Z.toArray Q2.out hzZ.out rfl hZ1.out ?_;refine Hid.out ?_))
  refine Lib.hid ?_
  generalize hw8:World.setRow _ _ _=w8
  obtain⟨r8,hg8⟩:=a0z (show Row w1 (w.heap.size+1) 27 Z from Q2.out) hw8
  have hb8:=hb1.grown hg8 hb1.size (fun k h=>by cases h;omega)
  have R8:=Lib.hid (show w8.heap[w.heap.size+1]?=some (.cells Z.toArray 27 (0,0)) from r8)
  clear hw8 r8 Q2
  go_wp2_with fail
  exact⟨rfl,_,a0g rfl _ _ (w.heap.size+1) 27 Z.toArray (0,0) _ rfl R8.out Tryz.underlying27 rfl hzZ.out _ rfl,none,0,by rw[E2.out,E1.out,HZ.out];rfl,by rw[E2.out];exact d0O _,(fun a h=>by cases h),hb8⟩
 | false =>
  rw[hbd] at hc3 HE
  have hpa:=hpr
  unfold f0m at hpa
  generalize hx:o.getD f0Y=x at *
  generalize hok:o.isSome=ok at *
  have R1:=Lib.hid (show w1.heap[w.heap.size]?=some (.cells X.toArray 27 (0,0)) from r1)
  clear hZl hXl
  go_enter Tryz.func19,Tryz.ntmps19
  go_wp2_with (first
   | (have _t:=tok1;rw[←HW.out];clear tok1)
   | (go_at_call 32;refine (hpa.out _ (HEQ.out.next hb1)).mono ?_;rintro e w2 ⟨A2,c2,rfl,ax,hq⟩;have hlx:=a0Z x ax.ok.net.a A2 c2;have hzP:=Lib.hid (show (Tryz.prog.info? 70).map (·.size)=some (prdV x A2 c2).toArray.size by rw[List.size_toArray,hlx];exact c0F);have h23:=Lib.hid (show 23=(prdV x A2 c2).toArray.size by rw[List.size_toArray,hlx]);have hP1:=Lib.hid (d0N x A2 c2);clear hlx)
   | (have _t:=hzP;refine wpList_store_row rfl 70 (.tmp 6) (.tmp 14) rfl w2.heap.size (prdV x A2 c2).toArray rfl rfl 70 _ (heap_alloc_new w2 _) hzP.out h23.out hP1.out ?_;refine Hid.out ?_))
  refine Lib.hid ?_
  generalize hww:World.setRow _ _ _=w3
  obtain⟨x1,hq3⟩:=a0p (xs:=prdV x A2 c2) hww
  have hq:=hq.trans (hq3.mono hq.size)
  have r1:=r1.later hq r1.lt
  have r2:=r2.later hq r2.lt
  have ts:=ts.later (Nat.le_refl _) hq
  have hb1:=hb1.trans (hq.mono hb1.size)
  have R1:=Lib.hid (show w3.heap[w.heap.size]?=some (.cells X.toArray 27 (0,0)) from r1)
  have Q2:=Lib.hid (show w3.heap[w.heap.size+1]?=some (.cells Z.toArray 27 (0,0)) from r2)
  generalize w2.heap.size=g2 at *
  clear hww hq hq3 x1 hpa hzP h23 hP1 ax hc3 HW hx
  generalize prdV x A2 c2=PV at *
  have HE:=Lib.hid (HE.out.trans (if_neg (by decide)))
  cases ok with
  | false =>
   have e1:er=2:=HE.out.trans (if_neg (by decide))
   have e2:U=d0j:=by rw[HG.out,e1];rfl
   have E1:=Lib.hid e1
   have E2:=Lib.hid e2
   clear e1 e2 HE HG r1 r2 ts hadd HA R1
   go_wp2_with (have _t:=Q2;refine wpList_store_row rfl 27 (.tmp 4) (.tmp 18) rfl (w.heap.size+1) Z.toArray rfl (by rw[hZe.out];rfl) 27 Z.toArray Q2.out hzZ.out rfl hZ1.out ?_;refine Hid.out ?_)
   refine Lib.hid ?_
   generalize hw8:World.setRow _ _ _=w8
   obtain⟨r8,hg8⟩:=a0z (show Row w3 (w.heap.size+1) 27 Z from Q2.out) hw8
   have hb8:=hb1.grown hg8 hb1.size (fun k h=>by cases h;omega)
   have R8:=Lib.hid (show w8.heap[w.heap.size+1]?=some (.cells Z.toArray 27 (0,0)) from r8)
   clear hw8 r8 Q2
   go_wp2_with fail
   exact⟨rfl,_,a0g rfl _ _ (w.heap.size+1) 27 Z.toArray (0,0) _ rfl R8.out Tryz.underlying27 rfl hzZ.out _ rfl,none,0,by rw[E2.out,E1.out,HZ.out];rfl,by rw[E2.out];exact d0O _,(fun a h=>by cases h),hb8⟩
  | true =>
   have e1:er=b0K t (b0m s):=HE.out.trans (if_pos rfl)
   have e2:U=addT t (b0m s):=by rw[HG.out,e1,HA.out]
   have hUo:(addT t (b0m s)).Ok:=by
    rw[HA.out];split
    ·exact h0D ht (by show (0:Nat) < _;decide)
    ·exact d0p
   rw[←e1,←e2] at hadd
   rw[←e2] at hUo
   clear e1 e2 HE HG HA
   unfold d0z at hadd
   have r2L:=Lib.hid r2.lt
   go_wp2_with (first
    | (with_reducible refine wpList_load_row rfl 27 (.tmp 2) rfl w.heap.size rfl 27 X.toArray (0,0) _ R1.out Tryz.underlying27 rfl hzX2.out ?_)
    | (go_at_call 14;refine (hadd.out _ (HTB.out.later hb1 (Nat.le_refl _)) ts).mono ?_;rintro e w4 ⟨B,d,rfl,s4,hap,hb4⟩;have r2:=r2.later hb4 r2.lt;have Q2:=Lib.hid (show w4.heap[w.heap.size+1]?=some (.cells Z.toArray 27 (0,0)) from r2);have hb4:=hb1.trans (hb4.mono hb1.size);have hVl:=a0u hUo B d;have hzV:=Lib.hid (show (Tryz.prog.info? 27).map (·.size)=some (tokV U B d).toArray.size by rw[List.size_toArray,hVl];exact a0T);have hV1:=Lib.hid (show (tokV U B d).toArray.all (·.oneCell')=true by rw[List.all_toArray,List.all_eq_true];exact b0W _ _ _);have hVZ:=Lib.hid (show Z.toArray.size=(tokV U B d).toArray.size by rw[List.size_toArray,List.size_toArray,hVl,HZ.out];exact a0u d0p none 0);clear hVl)
    | (have _t:=hb4;refine wpList_store_row rfl 27 (.tmp 4) (.tmp 23) rfl (w.heap.size+1) (tokV U B d).toArray rfl rfl 27 Z.toArray Q2.out hzV.out hVZ.out hV1.out ?_;refine Hid.out ?_))
   refine Lib.hid ?_
   generalize hw8:World.setRow _ _ _=w8
   obtain⟨r8,hg8⟩:=a0z (show Row w4 (w.heap.size+1) 27 Z from Q2.out) hw8
   have hb8:=hb4.grown hg8 hb4.size (fun k h=>by cases h;omega)
   have R8:=Lib.hid (show w8.heap[w.heap.size+1]?=some (.cells (tokV U B d).toArray 27 (0,0)) from r8)
   have hl3:=r2L.out
   have s8:=s4.apart hg8 (fun _ a ha=>by have:=hap a ha;omega)
   clear hw8 r8 Q2 hg8 s4
   go_wp2_with fail
   exact⟨rfl,_,a0g rfl _ _ (w.heap.size+1) 27 (tokV U B d).toArray (0,0) _ rfl R8.out Tryz.underlying27 rfl hzV.out _ rfl,B,d,rfl,s8,(fun a ha=>by have:=hap a ha;omega),hb8⟩
theorem k0S {P:Program} {w:World} {ops:Array Oper} {rest:List Oper} {o:Oper} {a:Act} {Q:Exit→Act→World→Prop} (hgd:o.guard=none) (ty:TypeId) (k0:Nat) (x0:Operand) (ho:o.op=.build ty #[(k0,x0)]) (v0 v:Value) (hx0:a.eval x0=v0)
  (hv:(Instr.build ty #[(k0,v0)]).run P w=.ok v w) (h:wpList P ops Q rest (a.put o.dst v) w):wpList P ops Q (o :: rest) a w:=by
 refine wpList_plain hgd fun _ hK=>?_
 unfold Oper.wp execOp
 simp only[ho,Sem.run_bind,Sem.run_pure,Result.andThen_ok,List.map_toArray,List.map_cons,List.map_nil,hx0,hv]
 exact hK _ _ h
def keyA:List UInt8:=7 :: List.replicate 31 0
theorem r0Q (w:World):(Instr.build 23 #[(0,.int .u8 7)]).run Tryz.prog w=.ok (.agg (byts keyA).toArray) w:=by go_simp;rfl
def aT (l:List Cav) (S:List UInt8):Tok:=⟨1,[109,101],l,false,S⟩
theorem a1u (l:List Cav) (S:List UInt8) (hS:S.length=32) (hl:∀c∈l,c.party=0):(aT l S).Ok:=⟨by show (1:Nat) < _;decide,fun c hc=>by rw[hl c hc];decide,hS⟩
theorem m0Y (l:List Cav) (S s:List UInt8) (o:Option Prd) (ho:o.isSome=true) (hck:d0F (d0L (aT l S) (b0m s))=true):i0x (aT l S) s o=0∧attO (aT l S) s o=aT (l++[b0m s]) (d0l S (b0m s)):=by
 have e1:b0K (aT l S) (b0m s)=0:=by unfold b0K;rw[if_neg (by show ¬false=true;decide),if_pos hck]
 have e2:i0x (aT l S) s o=0:=by unfold i0x;rw[if_neg (by show ¬false=true;decide),if_pos ho,e1]
 exact⟨e2,by unfold attO;rw[e2];rfl⟩
theorem z0i (w:World) (hE:EnvQ w):Calls Tryz.prog 32 #[.string (bstr [111,112,32,114,101,97,100])] w (f0m (f0a [111,112] [114,101,97,100]) w) :=
 k0k [111,112,32,114,101,97,100] [111,112] [114,101,97,100] (by decide) _ (fun w' h=>m0w [111,112] [114,101,97,100] (by decide) (fun h=>absurd h (by decide)) (fun h=>absurd h (by decide)) (fun h=>absurd h (by decide)) w' h) w hE (by decide)
theorem z0j (w:World) (hE:EnvQ w):Calls Tryz.prog 32 #[.string (bstr [98,101,102,111,114,101,32,57])] w (f0m (f0a [98,101,102,111,114,101] [57]) w) :=
 k0k [98,101,102,111,114,101,32,57] [98,101,102,111,114,101] [57] (by decide) _ (fun w' h=>m0w [98,101,102,111,114,101] [57] (by decide) (fun h=>absurd h (by decide)) (fun h=>absurd h (by decide)) (fun h=>absurd h (by decide)) w' h) w hE (by decide)
theorem b1X:(f0a [111,112] [114,101,97,100]).isSome=true:=by decide
theorem b1Y:(f0a [98,101,102,111,114,101] [57]).isSome=true:=by decide
theorem n0q (l:List Cav) (S:List UInt8) (hl:l.length≤2) (h:∀c∈l,c.text.length≤10∧c.id=[]∧c.vault=[]):(aT l S).Fit :=
 ⟨by show (2:Nat)≤_;decide,by show l.length≤_;omega,fun c hc=>by obtain⟨h1,h2,h3⟩:=h c hc;rw[h2,h3];exact⟨by omega,by decide,by decide⟩⟩
theorem n0o (x:List UInt8) (hx:x.length=32) (w:World):(Op.equalIn 10000 23 (.agg (byts x).toArray) (.agg (byts x).toArray)).run Tryz.prog w=.ok true w:=by
 obtain⟨i8,hi8⟩:∃i,Tryz.prog.info? 5=some i:=⟨_,rfl⟩
 rw[g0v 23 32 i8 Tryz.underlying23 hi8 x x hx hx w,decide_eq_true rfl]
structure t0Z (X:List Value):Prop where
 l:X.length=36
 o:X.toArray.all (·.oneCell')=true
theorem b1R {t:Tok} (h:t.Ok) (A:Option Addr) (c:Nat):t0Z (tokV t A c):=⟨a0u h A c,by rw[List.all_toArray,List.all_eq_true];exact b0W _ _ _⟩
theorem t0Z.z {X:List Value} (h:t0Z X):(Tryz.prog.info? 27).map (·.size)=some X.toArray.size:=by rw[List.size_toArray,h.l];exact a0T
theorem t0Z.s {X:List Value} (h:t0Z X):(36:Nat)=X.toArray.size:=by rw[List.size_toArray,h.l]
set_option maxHeartbeats 8000000 in
theorem y0J (w:World) (hT:Tabs w) (hE:EnvQ w):Calls Tryz.prog 6 #[] w fun e w'=>e=.returned (.bool true)∧Below w.heap.size w w':=by
 obtain⟨S,hS⟩:∃S,S=d0H keyA 1 [109,101]:=⟨_,rfl⟩
 have hSl:S.length=32:=by rw[hS];exact d0b _ _ _
 obtain⟨C1,hC1⟩:∃C,C=b0m [111,112,32,114,101,97,100]:=⟨_,rfl⟩
 obtain⟨C2,hC2⟩:∃C,C=b0m [98,101,102,111,114,101,32,57]:=⟨_,rfl⟩
 obtain⟨N1,hN1⟩:∃N,N=d0l S C1:=⟨_,rfl⟩
 obtain⟨N2,hN2⟩:∃N,N=d0l N1 C2:=⟨_,rfl⟩
 have hNl1:N1.length=32:=by rw[hN1];exact b0G _ _
 have hNl:N2.length=32:=by rw[hN2];exact b0G _ _
 have p1:C1.party=0:=by rw[hC1];rfl
 have p2:C2.party=0:=by rw[hC2];rfl
 have o1:(aT [] S).Ok:=a1u _ _ hSl (fun c h=>by cases h)
 have o2:(aT [C1] N1).Ok:=a1u _ _ hNl1 (fun c h=>by rw[List.mem_singleton.1 h];exact p1)
 have o3:(aT [C1,C2] N2).Ok:=a1u _ _ hNl (fun c h=>by rcases List.mem_cons.1 h with rfl | h;exact p1;rw[List.mem_singleton.1 h];exact p2)
 have hmi:=Lib.hid (show ∀w',Tabs w'→Calls Tryz.prog 16 #[.agg (byts keyA).toArray,.int .u64 1,.string { data:=#[109,101] }] w' fun e w''=>∃(A:Option Addr) (c:Nat),e=.returned (.tuple #[.agg (tokV (aT [] S) A c).toArray,.int .i64 0])∧Sl w'' A (c*5) ((aT [] S).cavs.flatMap cavV)∧Below w'.heap.size w' w'' by
  intro w' h
  refine (b1j keyA rfl 1 (by decide) [109,101] (by decide) w' h).mono ?_
  rintro e w'' ⟨A,c,h1,h2,-,h3⟩
  have em:n0W keyA 1 [109,101]=aT [] S:=by rw[hS];rfl
  rw[em] at h1 h2
  exact⟨A,c,h1,h2,h3⟩)
 have q1:=m0Y [] S [111,112,32,114,101,97,100] (f0a [111,112] [114,101,97,100]) b1X (by rfl)
 have q2:=m0Y [C1] N1 [98,101,102,111,114,101,32,57] (f0a [98,101,102,111,114,101] [57]) b1Y (by rw[hC1];rfl)
 rw[←hC1,←hN1] at q1
 rw[←hC2,←hN2] at q2
 have hm1:=Lib.hid (show ∀A c w',Tabs w'→EnvQ w'→Sl w' A (c*5) ((aT [] S).cavs.flatMap cavV)→Calls Tryz.prog 19 #[.agg (tokV (aT [] S) A c).toArray,.string { data:=#[111,112,32,114,101,97,100] }] w' fun e w''=>∃(A:Option Addr) (c:Nat),e=.returned (.tuple #[.agg (tokV (aT [C1] N1) A c).toArray,.int .i64 0])∧Sl w'' A (c*5) ((aT [C1] N1).cavs.flatMap cavV)∧Below w'.heap.size w' w'' by
  intro A c w' h h' hs
  refine (v0w (aT [] S) o1 [111,112,32,114,101,97,100] _ z0i (by decide) (n0q _ S (by show (1:Nat)≤2;decide) (fun c h=>by rw[List.mem_singleton.1 h];exact⟨by decide,rfl,rfl⟩)) (by show (0:Nat)≤1000000;decide) A c w' h h' hs).mono ?_
  rintro e w'' ⟨A,c,h1,h2,-,h3⟩
  rw[q1.1,q1.2] at h1
  rw[q1.2] at h2
  exact⟨A,c,h1,h2,h3⟩)
 have hm2:=Lib.hid (show ∀A c w',Tabs w'→EnvQ w'→Sl w' A (c*5) ((aT [C1] N1).cavs.flatMap cavV)→Calls Tryz.prog 19 #[.agg (tokV (aT [C1] N1) A c).toArray,.string { data:=#[98,101,102,111,114,101,32,57] }] w' fun e w''=>∃(A:Option Addr) (c:Nat),e=.returned (.tuple #[.agg (tokV (aT [C1,C2] N2) A c).toArray,.int .i64 0])∧Sl w'' A (c*5) ((aT [C1,C2] N2).cavs.flatMap cavV)∧Below w'.heap.size w' w'' by
  intro A c w' h h' hs
  refine (v0w (aT [C1] N1) o2 [98,101,102,111,114,101,32,57] _ z0j (by decide) (n0q _ N1 (by show (2:Nat)≤2;decide) (fun c h=>by rcases List.mem_cons.1 h with rfl | h;exact⟨by rw[hC1];decide,by rw[hC1];rfl,by rw[hC1];rfl⟩;rw[List.mem_singleton.1 h];exact⟨by decide,rfl,rfl⟩)) (by show (1:Nat)≤_;decide) A c w' h h' hs).mono ?_
  rintro e w'' ⟨A,c,h1,h2,-,h3⟩
  rw[q2.1,q2.2] at h1
  rw[q2.2] at h2
  exact⟨A,c,h1,h2,h3⟩)
 have htg:=Lib.hid (show ∀A c w',Tabs w'→Sl w' A (c*5) ((aT [C1,C2] N2).cavs.flatMap cavV)→Calls Tryz.prog 8 #[.agg (byts keyA).toArray,.agg (tokV (aT [C1,C2] N2) A c).toArray] w' fun e w''=>∃B d,e=.returned (.slice B 3 d)∧Sl w'' B (d*32) (h0T [S,N1,N2])∧Below w'.heap.size w' w'' by
  intro A c w' h hs
  have hc:∀x∈[C1,C2],capC x≤100000:=fun x hx=>by rcases List.mem_cons.1 hx with rfl | hx;rw[hC1];decide;rw[List.mem_singleton.1 hx,hC2];decide
  have ht:=v0z keyA rfl (aT [C1,C2] N2) o3 (by show (2:Nat)≤_;decide) (by show (2:Nat)≤_;decide) hc A c w' h hs
  have e:m0L keyA (aT [C1,C2] N2)=[S,N1,N2]:=by rw[hN2,hN1,hS];rfl
  rw[e] at ht
  exact ht)
 have hkz:=Lib.hid (show (Tryz.prog.info? 23).map (·.size)=some (byts keyA).toArray.size by rw[List.size_toArray,a0R keyA rfl];exact a0C)
 have hk32:=Lib.hid (show (32:Nat)=(byts keyA).toArray.size by rw[List.size_toArray,a0R keyA rfl])
 have hk1:=Lib.hid (l0P keyA)
 have hbk:=Lib.hid r0Q
 have HT:=Lib.hid hT
 have HE:=Lib.hid hE
 clear hS hC1 hC2 hN1 hN2 p1 p2 q1 q2 hT hE
 generalize keyA=K at *
 go_enter Tryz.func6,Tryz.ntmps6
 go_wp2_with (first
  | (refine k0S rfl 23 0 _ rfl (.int .u8 7) (.agg (byts K).toArray) rfl (hbk.out _) ?_)
  | (with_reducible refine wpList_store_row rfl 23 (.tmp 1) (.tmp 9) rfl w.heap.size (byts K).toArray rfl rfl 23 _ (heap_alloc_new w _) hkz.out (Eq.trans (by kernel_rfl) hk32.out) hk1.out ?_;refine Hid.out ?_))
 refine Lib.hid ?_
 generalize hww:World.setRow _ _ _=w1
 obtain⟨r1,hb1⟩:=a0p (xs:=byts K) hww
 have R1:=Lib.hid (show w1.heap[w.heap.size]?=some (.cells (byts K).toArray 23 (0,0)) from r1)
 clear hww hbk hk1 hk32
 go_wp2_with (first
  | (with_reducible refine wpList_load_row rfl 23 (.tmp 1) rfl w.heap.size rfl 23 (byts K).toArray (0,0) _ R1.out Tryz.underlying23 rfl hkz.out ?_)
  | (go_at_call 16;refine (hmi.out _ (HT.out.later hb1 (Nat.le_refl _))).mono ?_;rintro e w2 ⟨A1,c1,rfl,s2,hq⟩;have r1:=r1.later hq r1.lt;have hb2:=hb1.trans (hq.mono hb1.size);have x2:=Lib.hid (b1R o1 A1 c1);clear hq)
  | (have _t:=x2;with_reducible refine wpList_store_row rfl 27 (.tmp 2) (.tmp 13) rfl w2.heap.size (tokV (aT [] S) A1 c1).toArray rfl rfl 27 _ (heap_alloc_new w2 _) x2.out.z (Eq.trans (by kernel_rfl) x2.out.s) x2.out.o ?_;refine Hid.out ?_))
 refine Lib.hid ?_
 generalize hww:World.setRow _ _ _=w3
 obtain⟨r2,hq⟩:=a0p (xs:=tokV (aT [] S) A1 c1) hww
 have r1:=r1.later hq r1.lt
 have s2:=s2.later (Nat.le_refl _) hq
 have hb3:=hb2.trans (hq.mono hb2.size)
 have R2:=Lib.hid (show w3.heap[w2.heap.size]?=some (.cells (tokV (aT [] S) A1 c1).toArray 27 (0,0)) from r2)
 generalize w2.heap.size=g2 at *
 clear hww hq hmi hb1 hb2 R1
 go_wp2_with (first
  | (with_reducible refine wpList_load_row rfl 27 (.tmp 2) rfl g2 rfl 27 (tokV (aT [] S) A1 c1).toArray (0,0) _ R2.out Tryz.underlying27 rfl x2.out.z ?_)
  | (go_at_call 19;refine (hm1.out _ _ _ (HT.out.later hb3 (Nat.le_refl _)) (HE.out.next hb3) s2).mono ?_;rintro e w4 ⟨A3,c3,rfl,s4,hq⟩;have r1:=r1.later hq r1.lt;have r2:=r2.later hq r2.lt;have hb4:=hb3.trans (hq.mono hb3.size);have x4:=Lib.hid (b1R o2 A3 c3);clear hq)
  | (have _t:=x4;with_reducible refine wpList_store_row rfl 27 (.tmp 4) (.tmp 18) rfl w4.heap.size (tokV (aT [C1] N1) A3 c3).toArray rfl rfl 27 _ (heap_alloc_new w4 _) x4.out.z (Eq.trans (by kernel_rfl) x4.out.s) x4.out.o ?_;refine Hid.out ?_))
 refine Lib.hid ?_
 generalize hww:World.setRow _ _ _=w5
 obtain⟨r4,hq⟩:=a0p (xs:=tokV (aT [C1] N1) A3 c3) hww
 have r1:=r1.later hq r1.lt
 have r2:=r2.later hq r2.lt
 have s4:=s4.later (Nat.le_refl _) hq
 have hb5:=hb4.trans (hq.mono hb4.size)
 have R4:=Lib.hid (show w5.heap[w4.heap.size]?=some (.cells (tokV (aT [C1] N1) A3 c3).toArray 27 (0,0)) from r4)
 generalize w4.heap.size=g4 at *
 clear hww hq hm1 hb3 hb4 R2 s2
 go_wp2_with (first
  | (with_reducible refine wpList_load_row rfl 27 (.tmp 4) rfl g4 rfl 27 (tokV (aT [C1] N1) A3 c3).toArray (0,0) _ R4.out Tryz.underlying27 rfl x4.out.z ?_)
  | (go_at_call 19;refine (hm2.out _ _ _ (HT.out.later hb5 (Nat.le_refl _)) (HE.out.next hb5) s4).mono ?_;rintro e w6 ⟨A5,c5,rfl,s6,hq⟩;have r1:=r1.later hq r1.lt;have r2:=r2.later hq r2.lt;have hb6:=hb5.trans (hq.mono hb5.size);have x6:=Lib.hid (b1R o3 A5 c5);clear hq)
  | (have _t:=x6;with_reducible refine wpList_store_row rfl 27 (.tmp 6) (.tmp 23) rfl w6.heap.size (tokV (aT [C1,C2] N2) A5 c5).toArray rfl rfl 27 _ (heap_alloc_new w6 _) x6.out.z (Eq.trans (by kernel_rfl) x6.out.s) x6.out.o ?_;refine Hid.out ?_))
 refine Lib.hid ?_
 generalize hww:World.setRow _ _ _=w7
 obtain⟨r6,hq⟩:=a0p (xs:=tokV (aT [C1,C2] N2) A5 c5) hww
 have r1:=r1.later hq r1.lt
 have r2:=r2.later hq r2.lt
 have s6:=s6.later (Nat.le_refl _) hq
 have hb7:=hb6.trans (hq.mono hb6.size)
 have R6:=Lib.hid (show w7.heap[w6.heap.size]?=some (.cells (tokV (aT [C1,C2] N2) A5 c5).toArray 27 (0,0)) from r6)
 have R1:=Lib.hid (show w7.heap[w.heap.size]?=some (.cells (byts K).toArray 23 (0,0)) from r1)
 generalize w6.heap.size=g6 at *
 clear hww hq hm2 hb5 hb6 R4 s4 r4 x4
 go_wp2_with (first
  | (with_reducible refine wpList_load_row rfl 23 (.tmp 1) rfl w.heap.size rfl 23 (byts K).toArray (0,0) _ R1.out Tryz.underlying23 rfl hkz.out ?_)
  | (with_reducible refine wpList_load_row rfl 27 (.tmp 6) rfl g6 rfl 27 (tokV (aT [C1,C2] N2) A5 c5).toArray (0,0) _ R6.out Tryz.underlying27 rfl x6.out.z ?_)
  | (go_at_call 8;refine (htg.out _ _ _ (HT.out.later hb7 (Nat.le_refl _)) s6).mono ?_;rintro e w8 ⟨B,d,rfl,s8,hq⟩;have r2:=r2.later hq r2.lt;have r6:=r6.later hq r6.lt;have hb8:=hb7.trans (hq.mono hb7.size);clear hq;refine Hid.out ?_))
 refine Lib.hid ?_
 have hfl:∀u∈[S,N1,N2],(byts u).length=32:=fun u hu=>by
  simp only[List.mem_cons,List.not_mem_nil,or_false] at hu
  rcases hu with rfl | rfl | rfl
  ·exact a0R _ hSl
  ·exact a0R _ hNl1
  ·exact a0R _ hNl
 obtain⟨b,o,rfl,hb0,hr0⟩:=s8.rd.get (i:=0) (by rw[i0B _ hfl];show (0:Nat) < 3*32;decide)
 have hix0:=i0i (some ⟨b,o,none⟩) b o 3 d 0 rfl (by decide)
 have hix2:=i0i (some ⟨b,o,none⟩) b o 3 d 2 rfl (by decide)
 have HR0:=Lib.hid (fun (W:World) (h:Sl W (some ⟨b,o,none⟩) (d*32) (h0T [S,N1,N2]))=>h.thing (k:=32) hfl 0 S rfl)
 have HR2:=Lib.hid (fun (W:World) (h:Sl W (some ⟨b,o,none⟩) (d*32) (h0T [S,N1,N2]))=>h.thing (k:=32) hfl 2 N2 rfl)
 have hSz:=Lib.hid (show (Tryz.prog.info? 23).map (·.size)=some (byts S).length by rw[a0R _ hSl];exact a0C)
 have hNz:=Lib.hid (show (Tryz.prog.info? 23).map (·.size)=some (byts N2).length by rw[a0R _ hNl];exact a0C)
 have hqS:=Lib.hid (n0o S hSl)
 have hqN:=Lib.hid (n0o N2 hNl)
 clear hb0 hr0 hfl R1 R6 r1 s6 htg hb7 hkz HT HE x2 x6 o1 o2 o3 hSl hNl hNl1
 go_upto_region 6 with fail
 refine wp_region_noPanic ?_
 refine wp_region_held_drew (S:=fun w'=>Below w8.heap.size w8 w') (by kernel_rfl) ((Below.refl _ _).drew) (fun hHeld=>?_)
 have hB:Below w8.heap.size w8 w8.drew:=(Below.refl _ _).drew
 refine rt 0 28 hHeld ?_
 refine rt 1 29 hHeld ?_
 refine rt 2 30 hHeld ?_
 refine rt 3 31 hHeld ?_
 refine rt 4 32 hHeld ?_
 refine rt 5 33 hHeld ?_
 refine rt 6 34 hHeld ?_
 refine rt 7 35 hHeld ?_
 refine rt 8 36 hHeld ?_
 refine rt 9 37 hHeld ?_
 refine rt 10 38 hHeld ?_
 refine rt 11 39 hHeld ?_
 refine rt 12 40 hHeld ?_
 refine rt 13 41 hHeld ?_
 refine rt 14 42 hHeld ?_
 refine rt 15 43 hHeld ?_
 refine rt 16 44 hHeld ?_
 refine rt 17 45 hHeld ?_ (hy:=by intro w hS;have h1:=hix0;go_simp;try with_reducible rfl)
 refine rt 18 46 hHeld ?_ (hy:=by intro w hS;exact a0A 23 (.tmp 45) rfl b (o+0*32) rfl (byts S) _ (HR0.out _ (s8.later (Nat.le_refl _) hS)) Tryz.underlying23 rfl hSz.out)
 refine rt 19 47 hHeld ?_
 refine rt 20 48 hHeld ?_ (hy:=by intro w hS;exact a0A 23 (.tmp 47) rfl g2 4 rfl (byts S) _ (d0Q (t:=aT [] S) (r2.later hS r2.lt)) Tryz.underlying23 rfl hSz.out)
 refine rt 21 49 hHeld ?_ (hy:=by intro w hS;have h1:=hqS.out w;go_simp;try with_reducible rfl)
 refine rt 22 50 hHeld ?_
 refine rt 23 51 hHeld ?_
 refine rt 24 52 hHeld ?_
 refine rt 25 53 hHeld ?_ (hy:=by intro w hS;have h1:=hix2;go_simp;try with_reducible rfl)
 refine rt 26 54 hHeld ?_ (hy:=by intro w hS;exact a0A 23 (.tmp 53) rfl b (o+2*32) rfl (byts N2) _ (HR2.out _ (s8.later (Nat.le_refl _) hS)) Tryz.underlying23 rfl hNz.out)
 refine rt 27 55 hHeld ?_
 refine rt 28 56 hHeld ?_ (hy:=by intro w hS;exact a0A 23 (.tmp 55) rfl g6 4 rfl (byts N2) _ (d0Q (t:=aT [C1,C2] N2) (r6.later hS r6.lt)) Tryz.underlying23 rfl hNz.out)
 refine rt 29 57 hHeld ?_ (hy:=by intro w hS;have h1:=hqN.out w;go_simp;try with_reducible rfl)
 refine rt 30 58 hHeld ?_
 refine rt 31 0 hHeld ?_
 refine wpAnyH_done (by kernel_rfl) ?_ _
 refine NoPanic.normal ?_
 have hbz:=hb8.trans (hB.mono hb8.size)
 clear hB hHeld
 go_wp2_with fail
 go_ret
 exact⟨rfl,hbz⟩
structure EnvJ (w:World):Prop where
 tabs:Tabs w
 cav:EnvQ w
theorem EnvJ.next {w w':World} (h:EnvJ w) (hb:Below w.heap.size w w'):EnvJ w':=⟨h.tabs.later hb (Nat.le_refl _),h.cav.next hb⟩
theorem v0K (l:List Cav):∀c∈l,capC c≤(l.map capC).sum:=by
 induction l with
 | nil=>intro c h;cases h
 | cons a l ih =>
  intro c h
  rw[List.map_cons,List.sum_cons]
  rcases List.mem_cons.1 h with rfl | h
  ·omega
  ·have:=ih c h;omega
theorem y0k {t:Tok} (h:capT t≤10000):t.id.length≤100000000:=by unfold capT at h;omega
theorem g0C {t:Tok} (h:capT t≤10000):t.cavs.length≤1000000:=by
 have h1:=q0A t.cavs
 unfold capT at h;omega
theorem r0U {t:Tok} (h:capT t≤10000):∀c∈t.cavs,capC c≤100000:=fun c hc=>by
 have h1:=v0K t.cavs c hc
 unfold capT at h;omega
theorem s0f {t:Tok} (h:capT t≤10000) {cv:Cav} (hc:capC cv≤10000):({ t with cavs:=t.cavs++[cv] } : Tok).Fit:=by
 have h1:=y0k h
 have h2:=g0C h
 refine⟨by show t.id.length≤_;omega,by show (t.cavs++[cv]).length≤_;rw[List.length_append];show t.cavs.length+1≤_;omega,fun d hd=>?_⟩
 have h3:capC d≤100000:=by
  rcases List.mem_append.1 hd with hd | hd
  ·exact r0U h d hd
  ·rw[List.mem_singleton.1 hd];omega
 unfold capC at h3
 exact⟨by omega,by omega,by omega⟩
theorem i0j (w:World) (hE:EnvJ w):Calls Tryz.prog 6 #[] w fun e w'=>e=.returned (.bool true)∧Below w.heap.size w w':=y0J w hE.tabs hE.cav
open Go Go.ChangeShapes Go.WideShapes Go.ChangeAt Go.RowKit
theorem t0y {W:World} (h:W.ShapedOpen Tryz.prog):∃m,W.cell? ⟨3,0,none⟩=some (.int .i64 m) :=
 Go.Proofs.cell_of_shapedOpen_int (zero:=#[.int .i64 0]) (t:=3) h (of_decide_eq_true (by kernel_rfl)) (by kernel_rfl) rfl (by kernel_rfl) (by kernel_rfl) Tryz.underlying3
theorem g64:Tryz.prog.globalNamed "math/bits.deBruijn64tab"=some 7:=by kernel_rfl
theorem gSyn:Tryz.prog.globalNamed "strconv.ErrSyntax"=some 4:=by kernel_rfl
theorem gRng:Tryz.prog.globalNamed "strconv.ErrRange"=some 5:=by kernel_rfl
def g0A:List Int:=[0,1,56,2,57,49,28,3,61,58,42,50,38,29,17,4,62,47,59,36,45,43,51,22,53,39,33,30,24,18,12,5,63,55,48,27,60,41,37,16,46,35,44,21,52,32,23,11,54,26,40,15,34,20,31,10,25,14,19,9,13,8,7,6]
theorem u0s:∀j,j < 64→g0A.getD j 0=((Lib.deBruijn64tab.getD j 0:Nat):Int):=by
 have h:∀j:Fin 64,g0A.getD j.1 0=((Lib.deBruijn64tab.getD j.1 0:Nat):Int):=by decide +kernel
 intro j hj
 exact h ⟨j,hj⟩
theorem x0i:"*"++"errors.errorString"="*errors.errorString":=by decide
theorem g0x:∀u,Tryz.prog.typeName? 3 u=some "*errors.errorString"→u=266:=fun u h =>
 typeName_ptr_named (nm:="errors.errorString") (by rw[x0i];kernel_rfl) (by kernel_rfl) (by decide) u (by rw[x0i];exact h)
theorem d1h {W:World} (t64:Lib.TabIs Tryz.prog W "math/bits.deBruijn64tab" .u8 g0A) (tPow:Lib.TabIs Tryz.prog W "internal/strconv.uint64pow10" .u64 Lib.pow10Tab):EnvC W :=
 ⟨tPow,fun j hj=>by rw[t64.cell g64 j hj,u0s j hj]⟩
theorem c1r {W:World} (h:laidMet Tryz.prog Rows.chainTellsRow.laid W) (hs:W.ShapedOpen Tryz.prog):EnvJ W:=by
 have h1:=laidMet.tail h
 have h2:=laidMet.tail h1
 have h3:=laidMet.tail h2
 have h4:=laidMet.tail h3
 have h6:=laidMet.tail (laidMet.tail h4)
 have h7:=laidMet.tail h6
 have t64:Lib.TabIs Tryz.prog W "math/bits.deBruijn64tab" .u8 g0A:=Lib.tabIs_of_head (zs:=g0A) g64 (t:=130) (by kernel_rfl) Tryz.underlying130 Tryz.underlying5 (by kernel_rfl) (by kernel_rfl) h1
 have tCu:Lib.TabIs Tryz.prog W "chitty/word.cubeRoots" .u32 h0y:=Lib.tabIs_of_head (zs:=h0y) c1u (t:=201) (by kernel_rfl) Tryz.underlying201 Tryz.underlying76 (by kernel_rfl) (by kernel_rfl) h2
 have tSq:Lib.TabIs Tryz.prog W "chitty/word.squareRoots" .u32 k0D:=Lib.tabIs_of_head (zs:=k0D) v0f (t:=172) (by kernel_rfl) Tryz.underlying172 Tryz.underlying76 (by kernel_rfl) (by kernel_rfl) h3
 have tPow:Lib.TabIs Tryz.prog W "internal/strconv.uint64pow10" .u64 Lib.pow10Tab:=Lib.tabIs_of_head (zs:=Lib.pow10Tab) gPow (t:=247) (by kernel_rfl) Tryz.underlying247 Tryz.underlying24 (by kernel_rfl) (by kernel_rfl) h4
 obtain⟨aR,sR,hR,-⟩:=laid_sentinel h6 gRng (by kernel_rfl) Tryz.underlying146 g0x Tryz.underlying266 Tryz.underlying268 rfl rfl Tryz.underlying9 (by kernel_rfl) (by kernel_rfl)
 obtain⟨aS,sS,hS,-⟩:=laid_sentinel h7 gSyn (by kernel_rfl) Tryz.underlying146 g0x Tryz.underlying266 Tryz.underlying268 rfl rfl Tryz.underlying9 (by kernel_rfl) (by kernel_rfl)
 exact⟨⟨⟨fun i hi=>tCu.cell c1u i hi⟩,⟨fun i hi=>tSq.cell v0f i hi⟩⟩,show EnvQ W from ⟨d1h t64 tPow,t0y hs,⟨_,by simpa using World.var?_cell gSyn hS 0,.inr ⟨_,_,rfl⟩⟩,⟨_,by simpa using World.var?_cell gRng hR 0,.inr ⟨_,_,rfl⟩⟩⟩⟩
def c0D (cs:List Value):Obj→Obj
 | .cells _ t frozen=>.cells cs.toArray t frozen
 | o=>o
def y0h:List Int:=[0,1,28,2,29,14,24,3,30,22,20,15,25,17,4,8,31,27,13,23,21,19,16,7,26,12,18,6,11,5,10,9]
def x0Q:List Int:=[128,191,160,191,128,159,144,191,128,143]++List.replicate 22 0
def synS:ByteArray:={ data:=#[105,110,118,97,108,105,100,32,115,121,110,116,97,120] }
def rngS:ByteArray:={ data:=#[118,97,108,117,101,32,111,117,116,32,111,102,32,114,97,110,103,101] }
noncomputable def c1C:Nat:=(World.holding Tryz.prog default ⟨#[],#[],[]⟩).heap.size
noncomputable def i0Z (os:Os):World :=
 let w0:=World.holding Tryz.prog os ⟨#[.cells #[.string rngS] 268,.cells #[.string synS] 268],#[],[]⟩
 { w0 with heap:=((((((((w0.heap.modify 2 (c0D (h0y.map (Value.int .u32)))).modify 1 (c0D (k0D.map (Value.int .u32)))).modify 10 (c0D (y0h.map (Value.int .u8)))).modify 7 (c0D (g0A.map (Value.int .u8)))).modify 6 (c0D (Lib.pow10Tab.map (Value.int .u64)))).modify
   9 (c0D (x0Q.map (Value.int .u8)))).modify 8 (c0D (Go.Pinned.utf8FirstZ.map fun n:Nat=>Value.int .u8 (n:Int)))).modify
   5 (c0D [.iface 266 (.pointer (some ⟨c1C,0,none⟩))])).modify 4 (c0D [.iface 266 (.pointer (some ⟨c1C+1,0,none⟩))]) }
theorem b1o (os:Os) (args:Array Value):laidMet Tryz.prog Rows.chainTellsRow.laid ((i0Z os).forCall (fun _ _=>0) ⟨#[],args,[]⟩).memory :=
 laidMet_of_run' 8 (by kernel_rfl) (by kernel_rfl)
end Go.Proofs.YtimdhdimhboboaaGreatDoor
