import Derived.Test.YtcbilopdeiapjaaGreatDoorRgbc
import Derived.Test.YtcbilopdeiapjaaGreatDoorRgan
import Derived.Stop.LaidErr
set_option maxHeartbeats 16000000
set_option maxRecDepth 100000
open Go.Proofs.Tryz
namespace Go.Proofs.YtcbilopdeiapjaaGreatDoor
open Go Go.RowKit
theorem o0Z (p:Prd) (A:Option Addr) (c:Nat):∀v∈prdV p A c,v.oneCell'=true:=by
 have h:=d0W p A c
 rw[List.all_toArray,List.all_eq_true] at h
 exact h
theorem x0J {w:World} {g t n:Nat} {Z V:List Value} (hz:Z.length=n) (hv:V.length=n) (h:Row w g t (splice Z 0 V)):Row w g t V:=by
 have e:splice Z 0 V=V:=by
  unfold splice
  rw[List.take_zero,List.nil_append,Nat.zero_add,hv,←hz,List.drop_length,List.append_nil]
 rw[e] at h
 exact h
theorem t0W (s:List UInt8) (hs:s.length≤10000) (w:World) (hE:EnvQ w) (hn:((c0h s).getD []).length≠2) (HX:c0L s=none):Calls prog 26 #[.string (bstr s)] w (g0n (c0L s) w):=by
 obtain⟨Z,hZ⟩:∃Z,Z=prdV g0g none 0:=⟨_,rfl⟩
 have hZl0:Z.length=23:=by rw[hZ];exact b0f _ j0N.net.a _ _
 have hzZ:=f1D (show (prog.info? 72).map (·.size)=some Z.toArray.size by rw[List.size_toArray,hZl0];exact c0T)
 have hZ1:=f1D (show Z.toArray.all (·.oneCell')=true by rw[hZ];exact d0W _ _ _)
 have hZe:=f1D (hZ.trans j0G)
 have hZd:=f1D (show Z=prdV g0g none 0 from hZ)
 have hZl:=f1D hZl0
 obtain⟨w1,hw1⟩:∃w1,w1=w.alloc (.cells Z.toArray 72):=⟨_,rfl⟩
 have r1:Row w1 w.heap.size 72 Z:=by rw[hw1];exact Row.new w _ _
 have hb1:Below w.heap.size w w1:=by rw[hw1];exact (Below.refl _ w).alloc (f1F _) _
 have HW:=f1D (hw1.trans (show w.alloc (.cells Z.toArray 72)=w.alloc (.cells [Value.int .i64 0,.int .u64 0,.slice none 0 0,.string { data:=#[] },.bool false,.int .u8 0,.int .u8 0,.int .u8 0,.int .u8 0,.int .u8 0,.int .u8 0,.int .u8 0,.int .u8 0,.int .u8 0,.int .u8 0,.int .u8 0,.int .u8 0,.int .u8 0,.int .u8 0,.int .u8 0,.int .u8 0,.int .i64 0,.float .f64 0].toArray 72) by rw[hZe.out]))
 have tok1:True:=trivial
 have hE1:=hE.next hb1
 have hwd:=m0o s hs w1 hE1.x
 unfold p0P at hwd
 have HX:=f1D HX
 have hsl:((c0h s).getD []).length≤9223372036854775807:=by
  have h:((c0h s).getD []).length≤s.length+1:=by
   unfold c0h
   split
   ·show (0:Nat)≤_;omega
   ·split
    ·exact d0h 32 s
    ·show (0:Nat)≤_;omega
  omega
 generalize (c0h s).getD []=L at *
 generalize (c0h s).isSome=k at *
 have hwd:=f1D hwd
 generalize L.length=n at *
 have hn1:(n:Int)≠2:=by omega
 have hn2:((n:Int)==2)=false:=beq_eq_false_iff_ne.2 hn1
 clear hw1 hZ hZl0 hn hE hE1
 generalize bstr s=S at *
 go_enter func26,ntmps26
 go_wp2_with (first
  | (have _t:=tok1;rw[←HW.out];clear tok1)
  | (go_at_call 43;refine hwd.out.mono ?_;rintro e w2 ⟨A,c,rfl,-,hq2⟩;have r2:=r1.later hq2 r1.lt;have hb2:=hb1.trans (hq2.mono hb1.size);have Q2:=f1D (show w2.heap[w.heap.size]?=some (.cells Z.toArray 72 (0,0)) from r2);clear hq2 r1 r2)
  | (have _t:=Q2;refine wpList_store_row rfl 72 (.tmp 2) (.tmp 16) rfl w.heap.size Z.toArray rfl (by rw[hZe.out];rfl) 72 Z.toArray Q2.out hzZ.out rfl hZ1.out ?_;refine Hid.out ?_))
 refine f1D ?_
 generalize hw8:World.setRow _ _ _=w8
 obtain⟨r8,hg8⟩:=a0y (show Row w2 w.heap.size 72 Z from Q2.out) hw8
 have hb8:=hb2.grown hg8 hb2.size (fun k h=>by cases h;exact f1F _)
 have R8:=f1D (show w8.heap[w.heap.size]?=some (.cells Z.toArray 72 (0,0)) from r8)
 clear hw8 r8 Q2
 go_wp2_with fail
 exact⟨rfl,_,a0d rfl _ _ w.heap.size 72 Z.toArray (0,0) _ rfl R8.out underlying72 rfl hzZ.out _ rfl,none,0,by rw[HX.out,hZd.out];rfl,by rw[HX.out];exact i0O _,hb8⟩
theorem x0w (s a b:List UInt8) (hs:s.length≤10000) (o:Option Prd) (hrd:∀w',EnvQ w'→Calls prog 44 #[.string (bstr a),.string (bstr b)] w' (j0p o w')) (w:World) (hE:EnvQ w) (hw:c0h s=some [a,b]):Calls prog 26 #[.string (bstr s)] w (g0n o w):=by
 obtain⟨Z,hZ⟩:∃Z,Z=prdV g0g none 0:=⟨_,rfl⟩
 have hZl0:Z.length=23:=by rw[hZ];exact b0f _ j0N.net.a _ _
 have hzZ:=f1D (show (prog.info? 72).map (·.size)=some Z.toArray.size by rw[List.size_toArray,hZl0];exact c0T)
 have hZ1:=f1D (show Z.toArray.all (·.oneCell')=true by rw[hZ];exact d0W _ _ _)
 have hZe:=f1D (hZ.trans j0G)
 have hZd:=f1D (show Z=prdV g0g none 0 from hZ)
 have hZl:=f1D hZl0
 obtain⟨w1,hw1⟩:∃w1,w1=w.alloc (.cells Z.toArray 72):=⟨_,rfl⟩
 have r1:Row w1 w.heap.size 72 Z:=by rw[hw1];exact Row.new w _ _
 have hb1:Below w.heap.size w w1:=by rw[hw1];exact (Below.refl _ w).alloc (f1F _) _
 have HW:=f1D (hw1.trans (show w.alloc (.cells Z.toArray 72)=w.alloc (.cells [Value.int .i64 0,.int .u64 0,.slice none 0 0,.string { data:=#[] },.bool false,.int .u8 0,.int .u8 0,.int .u8 0,.int .u8 0,.int .u8 0,.int .u8 0,.int .u8 0,.int .u8 0,.int .u8 0,.int .u8 0,.int .u8 0,.int .u8 0,.int .u8 0,.int .u8 0,.int .u8 0,.int .u8 0,.int .i64 0,.float .f64 0].toArray 72) by rw[hZe.out]))
 have tok1:True:=trivial
 have hE1:=hE.next hb1
 have hwd:=m0o s hs w1 hE1.x
 unfold p0P at hwd
 rw[hw] at hwd
 have hwd:Calls prog 43 #[.string (bstr s)] w1 fun e w'=>∃(A:Option Addr) (c:Nat),e=.returned (.tuple #[.slice A 2 c,.bool true])∧Sl w' A c (a0F [a,b])∧Below w1.heap.size w1 w':=hwd
 unfold j0p at hrd
 have hwd:=f1D hwd
 have hrd:=f1D hrd
 clear hw hw1 hZ hZl0 hE
 generalize bstr s=S at *
 obtain⟨A0,hA0⟩:∃A0,A0=bstr a:=⟨_,rfl⟩
 obtain⟨B0,hB0⟩:∃B0,B0=bstr b:=⟨_,rfl⟩
 rw[←hA0,←hB0] at hrd
 have hst:a0F [a,b]=[.string A0,.string B0]:=by rw[hA0,hB0];rfl
 rw[hst] at hwd
 clear hst hA0 hB0
 go_enter func26,ntmps26
 go_wp2_with (first
  | (have _t:=tok1;rw[←HW.out];clear tok1)
  | (go_at_call 43;refine hwd.out.mono ?_;rintro e w2 ⟨A,c,rfl,hsl,hq2⟩;have r2:=r1.later hq2 r1.lt;have hb2:=hb1.trans (hq2.mono hb1.size);have hE2:=hE1.next hq2;clear hq2 r1))
 obtain⟨bk,ofs,rfl,-,-⟩:=hsl.rd.get (i:=0) (by show 0 < 2;decide)
 have hk0:∀w',Below w2.heap.size w2 w'→w'.cell? ⟨bk,ofs,none⟩=some (.string A0):=fun w' h=>by
  obtain⟨b',o',e,-,hc⟩:=(hsl.later (f1F _) h).rd.get (i:=0) (by show 0 < 2;decide)
  cases e;rw[Nat.add_zero] at hc;exact hc
 have hk1:∀w',Below w2.heap.size w2 w'→w'.cell? ⟨bk,ofs+1,none⟩=some (.string B0):=fun w' h=>by
  obtain⟨b',o',e,-,hc⟩:=(hsl.later (f1F _) h).rd.get (i:=1) (by show 1 < 2;decide)
  cases e;exact hc
 have hix0:∀W,(Instr.indexAt 24 (.slice (some ⟨bk,ofs,none⟩) 2 c) (.int .i64 0)).run prog W=.ok (.pointer (some ⟨bk,ofs,none⟩)) W:=b0w (some ⟨bk,ofs,none⟩) bk ofs 2 c 0 rfl (by decide)
 have hix1:∀W,(Instr.indexAt 24 (.slice (some ⟨bk,ofs,none⟩) 2 c) (.int .i64 1)).run prog W=.ok (.pointer (some ⟨bk,ofs+1,none⟩)) W:=b0w (some ⟨bk,ofs,none⟩) bk ofs 2 c 1 rfl (by decide)
 have HK0:=f1D hk0
 have HK1:=f1D hk1
 clear hk0 hk1 hE1 hwd HW
 go_cut [6,7] (fun y z wx=>∃g q A' c',y=.pointer (some ⟨g,0,none⟩)∧z=.bool o.isSome∧f0N wx q A' c'∧(∀a,A'=some a→a.block≠w.heap.size)∧(∀x,o=some x→q=x)∧Row wx g 72 (prdV q A' c')∧Below w2.heap.size w2 wx)
 case first =>
  refine wp_region_noPanic ?_
  refine wp_region_held_drew (S:=fun w'=>Below w2.heap.size w2 w') (by kernel_rfl) ((Below.refl _ _).drew) (fun hHeld=>?_)
  have hB:=hHeld
  refine rt 0 18 hHeld ?_
  refine rt 1 19 hHeld ?_
  refine rt 2 20 hHeld ?_ (hy:=by intro w hS;have hk:=HK0.out _ hS;clear hS;go_simp;try with_reducible rfl)
  refine rt 3 21 hHeld ?_
  refine rt 4 22 hHeld ?_
  refine rt 5 23 hHeld ?_ (hy:=by intro w hS;have hk:=HK1.out _ hS;clear hS;go_simp;try with_reducible rfl)
  refine rc2 6 10 (fun K hK=>?_) fun K hK=>?_
  ·go_simp
   refine (hrd.out _ (hE2.next hB)).mono ?_;rintro e ww26 ⟨q,A',c',rfl,hpa,hap,hcr,hqw26⟩;have hap:=f1D hap;have hcr:=f1D hcr;have hapg:=f1D (hap.out _ (r2.later hB r2.lt).lt)
   try go_wp2_with fail
   refine hK.out _ _ (hHeld.trans (hqw26.mono hHeld.size)) (fun hHeld'=>?_)
   clear hK K
   have hB:=a0a hB hqw26
   have hB6:Below ww26.heap.size ww26 ww26:=Below.refl _ _
   clear hHeld
   have hHeld:=hHeld'
   refine rt 7 17 hHeld ?_
   refine rt 8 25 hHeld ?_
   refine rt 9 26 hHeld ?_
   refine rc1 10 fun K hK=>?_
   refine b0q (some 6) rfl (by rfl) (.pointer (some ⟨ww26.heap.size,0,none⟩)) (.cells Z.toArray 72) (by rw[hZe.out];go_simp;try rfl) ?_;intro ww210 hw hqw210;have r10:Row ww210 ww26.heap.size 72 Z:=(by rw[hw];exact Row.new _ _ _);have hGle:=f1D hB.size;clear hw
   refine hK.out _ _ (hHeld.trans (hqw210.mono hHeld.size)) (fun hHeld'=>?_)
   clear hK K
   try (first | (rw[a0l];dsimp only[List.set]) | rw[a0u])
   have hB:=a0a hB hqw210
   have hB6:=a0a hB6 hqw210
   have hB10:Below ww210.heap.size ww210 ww210:=Below.refl _ _
   clear hHeld
   have hHeld:=hHeld'
   refine rc1 11 fun K hK=>?_
   refine a0R none rfl (by rfl) 72 (.tmp 6) (.tmp 25) rfl _ 0 72 _ (prdV q A' c') rfl rfl (r10.later hB10 r10.lt) (by rw[hZl.out,b0f _ hpa.ok.net.a];exact f1F _) (by rw[b0f _ hpa.ok.net.a];exact c0T) (o0Z _ _ _) ?_;intro ww211 r11 hg11;have hqw211:=(Below.refl w2.heap.size _).grown hg11 hB.size (fun k h=>by cases h;exact hGle.out);have r11:=x0J hZl.out (b0f q hpa.ok.net.a A' c') r11;have hpa11:f0N ww211 q A' c':=(by first | exact hpa.later (f1F _) (hB6.grown hg11 hB6.size (fun k h=>by cases h;exact f1F _)) | exact hpa.apart hg11 (hap.out _ r10.lt))
   refine hK.out _ _ (hHeld.trans hqw211) (fun hHeld'=>?_)
   clear hK K
   rw[a0u]
   have hB:=hB.trans hqw211
   clear hB6 hB10
   have hB11:Below ww211.heap.size ww211 ww211:=Below.refl _ _
   refine a0f (S':=fun w'=>Below ww211.heap.size ww211 w') (fun _ h=>(hHeld.trans hqw211).trans (h.mono (hHeld.trans hqw211).size)) _ _ _ _ ?_
   clear hHeld
   have hHeld:Below ww211.heap.size ww211 ww211:=Below.refl _ _
   refine rt 12 7 hHeld ?_
   refine wpAnyH_done (by kernel_rfl) ?_ _
   refine NoPanic.normal ?_
   go_wp2_with fail
   go_meet
   case rel=>exact⟨_,q,A',c',rfl,rfl,hpa11,hapg.out,hcr.out,r11,hB⟩
  ·refine b0q (some 6) rfl (by rfl) (.pointer (some ⟨w2.heap.size,0,none⟩)) (.cells Z.toArray 72) (by rw[hZe.out];go_simp;try rfl) ?_;intro ww210 hw hqw210;have r10:Row ww210 w2.heap.size 72 Z:=(by rw[hw];exact Row.new _ _ _);have hGle:=f1D hB.size;clear hw
   refine hK.out _ _ (hHeld.trans (hqw210.mono hHeld.size)) (fun hHeld'=>?_)
   clear hK K
   try (first | (rw[a0l];dsimp only[List.set]) | rw[a0u])
   have hB:=a0a hB hqw210
   have hB10:Below ww210.heap.size ww210 ww210:=Below.refl _ _
   clear hHeld
   have hHeld:=hHeld'
   refine rc1 6 fun K hK=>?_
   go_simp
   refine (hrd.out _ (hE2.next hB)).mono ?_;rintro e ww26 ⟨q,A',c',rfl,hpa,hap,hcr,hqw26⟩;have hap:=f1D hap;have hcr:=f1D hcr;have hapg:=f1D (hap.out _ (r2.later hB r2.lt).lt)
   try go_wp2_with fail
   refine hK.out _ _ (hHeld.trans (hqw26.mono hHeld.size)) (fun hHeld'=>?_)
   clear hK K
   have hB:=a0a hB hqw26
   have hB10:=a0a hB10 hqw26
   have hB6:Below ww26.heap.size ww26 ww26:=Below.refl _ _
   clear hHeld
   have hHeld:=hHeld'
   refine rt 7 17 hHeld ?_
   refine rt 8 25 hHeld ?_
   refine rt 9 26 hHeld ?_
   refine rc1 11 fun K hK=>?_
   refine a0R none rfl (by rfl) 72 (.tmp 6) (.tmp 25) rfl _ 0 72 _ (prdV q A' c') rfl rfl (r10.later hB10 r10.lt) (by rw[hZl.out,b0f _ hpa.ok.net.a];exact f1F _) (by rw[b0f _ hpa.ok.net.a];exact c0T) (o0Z _ _ _) ?_;intro ww211 r11 hg11;have hqw211:=(Below.refl w2.heap.size _).grown hg11 hB.size (fun k h=>by cases h;exact hGle.out);have r11:=x0J hZl.out (b0f q hpa.ok.net.a A' c') r11;have hpa11:f0N ww211 q A' c':=(by first | exact hpa.later (f1F _) (hB6.grown hg11 hB6.size (fun k h=>by cases h;exact f1F _)) | exact hpa.apart hg11 (hap.out _ r10.lt))
   refine hK.out _ _ (hHeld.trans hqw211) (fun hHeld'=>?_)
   clear hK K
   rw[a0u]
   have hB:=hB.trans hqw211
   clear hB10 hB6
   have hB11:Below ww211.heap.size ww211 ww211:=Below.refl _ _
   refine a0f (S':=fun w'=>Below ww211.heap.size ww211 w') (fun _ h=>(hHeld.trans hqw211).trans (h.mono (hHeld.trans hqw211).size)) _ _ _ _ ?_
   clear hHeld
   have hHeld:Below ww211.heap.size ww211 ww211:=Below.refl _ _
   refine rt 12 7 hHeld ?_
   refine wpAnyH_done (by kernel_rfl) ?_ _
   refine NoPanic.normal ?_
   go_wp2_with fail
   go_meet
   case rel=>exact⟨_,q,A',c',rfl,rfl,hpa11,hapg.out,hcr.out,r11,hB⟩
 case rest =>
 obtain⟨g,q,A',c',rfl,rfl,hpa,hap,hcr,r11,hB⟩:=hcut
 have hbx:=hb2.trans (hB.mono hb2.size)
 have Q2:=f1D (show (_:World).heap[w.heap.size]?=some (.cells Z.toArray 72 (0,0)) from r2.later hB r2.lt)
 have HAP:=f1D hap
 have HPA:=f1D hpa
 cases o with
 | none =>
  clear r11 hB hrd hcr hap hpa
  go_wp2_with (have _t:=Q2;refine wpList_store_row rfl 72 (.tmp 2) (.tmp 29) rfl w.heap.size Z.toArray rfl (by rw[hZe.out];rfl) 72 Z.toArray Q2.out hzZ.out rfl hZ1.out ?_;refine Hid.out ?_)
  refine f1D ?_
  generalize hw8:World.setRow _ _ _=w8
  obtain⟨r8,hg8⟩:=a0y (show Row _ w.heap.size 72 Z from Q2.out) hw8
  have hb8:=hbx.grown hg8 hbx.size (fun k h=>by cases h;exact f1F _)
  have R8:=f1D (show w8.heap[w.heap.size]?=some (.cells Z.toArray 72 (0,0)) from r8)
  clear hw8 r8 Q2
  go_wp2_with fail
  exact⟨rfl,_,a0d rfl _ _ w.heap.size 72 Z.toArray (0,0) _ rfl R8.out underlying72 rfl hzZ.out _ rfl,none,0,by rw[hZd.out];rfl,i0O _,hb8⟩
 | some p =>
  obtain rfl:=hcr _ rfl
  have hVl:=f1D (show (prog.info? 72).map (·.size)=some (prdV q A' c').length by rw[b0f _ hpa.ok.net.a];exact c0T)
  have hzV:=f1D (show (prog.info? 72).map (·.size)=some (prdV q A' c').toArray.size by rw[List.size_toArray];exact hVl.out)
  have hV1:=f1D (d0W q A' c')
  have hVZ:=f1D (show Z.toArray.size=(prdV q A' c').toArray.size by rw[List.size_toArray,List.size_toArray,hZl.out,b0f _ hpa.ok.net.a])
  have K11:=f1D (a0i r11)
  clear r11 hB hrd hcr hap hpa
  obtain⟨V,hV⟩:∃V,V=prdV q A' c':=⟨_,rfl⟩
  rw[←hV] at hVl hzV hV1 hVZ K11
  have HV:=f1D hV
  clear hV
  go_wp2_with (first | (with_reducible refine wpList_load_mid rfl 72 (.tmp 6) rfl g 0 rfl V _ K11.out underlying72 rfl hVl.out ?_) | (have _t:=Q2;with_reducible refine wpList_store_row rfl 72 (.tmp 2) (.tmp 30) rfl w.heap.size V.toArray rfl rfl 72 Z.toArray Q2.out hzV.out hVZ.out hV1.out ?_;refine Hid.out ?_))
  refine f1D ?_
  generalize hw8:World.setRow _ _ _=w8
  obtain⟨r8,hg8⟩:=a0y (show Row _ w.heap.size 72 Z from Q2.out) hw8
  have hb8:=hbx.grown hg8 hbx.size (fun k h=>by cases h;exact f1F _)
  have R8:=f1D (show w8.heap[w.heap.size]?=some (.cells V.toArray 72 (0,0)) from r8)
  clear hw8 r8 Q2
  go_wp2_with fail
  exact⟨rfl,_,a0d rfl _ _ w.heap.size 72 V.toArray (0,0) _ rfl R8.out underlying72 rfl hzV.out _ rfl,A',c',by rw[HV.out];rfl,HPA.out.apart hg8 HAP.out,hb8⟩
theorem o0Y (s:List UInt8) (hs:s.length≤10000) (w:World) (hE:EnvQ w):Calls prog 26 #[.string (bstr s)] w (g0n (c0L s) w):=by
 have hp:=x0p s
 by_cases h2:((c0h s).getD []).length=2
 ·obtain⟨a,b,hw⟩:∃a b,c0h s=some [a,b]:=by
   cases hw:c0h s with
   | none=>rw[hw] at h2;cases h2
   | some l =>
    rw[hw] at h2
    match l,h2 with
    | [a,b],_=>exact⟨a,b,rfl⟩
  obtain⟨-,-,-,hl⟩:=p0H s a b hw
  have hr:g0G a b=c0L s:=by rw[←hp];unfold l0S;rw[hw]
  rw[←hr]
  exact x0w s a b hs _ (fun w' h=>q0F a b (by omega) w' h) w hE hw
 ·refine t0W s hs w hE h2 ?_
  rw[←hp]
  cases hq:l0S s with
  | none=>rfl
  | some p =>
   obtain⟨a,b,hw,-⟩:=k0F s p hq
   rw[hw] at h2
   exact absurd rfl h2
def n0V (t:Tok) (s:List UInt8) (o:Option Prd):Int:=if t.bound=true then 6 else if o.isSome=true then b0B t (b0F s) else 2
def attO (t:Tok) (s:List UInt8) (o:Option Prd):Tok:=if n0V t s o=0 then c0G t (b0F s) else b0l
theorem d1F (t:Tok) (ht:t.Ok) (s:List UInt8) (o:Option Prd) (hpr:∀w',EnvQ w'→Calls prog 26 #[.string (bstr s)] w' (g0n o w')) (hcs:capC (b0F s)≤100000) (hft:({ t with cavs:=t.cavs++[b0F s] } : Tok).Fit) (hm:t.cavs.length≤1000000) (A:Option Addr) (c:Nat) (w:World) (hT:Tabs w) (hE:EnvQ w) (hs:Sl w A (c*5) (t.cavs.flatMap cavV)) :
  Calls prog 15 #[.agg (tokV t A c).toArray,.string (bstr s)] w (b0L (attO t s o) (n0V t s o) w):=by
 obtain⟨Z,hZ⟩:∃Z,Z=tokV b0l none 0:=⟨_,rfl⟩
 have hZl:Z.length=36:=by rw[hZ];exact a0n b0Z none 0
 have hZe:=f1D (hZ.trans ztok)
 have hzZ:=f1D (show (prog.info? 29).map (·.size)=some Z.toArray.size by rw[List.size_toArray,hZl];exact a0I)
 have hZ1:=f1D (show Z.toArray.all (·.oneCell')=true by rw[hZ,List.all_toArray,List.all_eq_true];exact a0X _ _ _)
 obtain⟨X,hX⟩:∃X,X=tokV t A c:=⟨_,rfl⟩
 have hXl:X.length=36:=by rw[hX];exact a0n ht A c
 have hzX2:=f1D (show (prog.info? 29).map (·.size)=some X.toArray.size by rw[List.size_toArray,hXl];exact a0I)
 obtain⟨w1,hw1⟩:∃w1,w1=(w.alloc (.cells X.toArray 29)).alloc (.cells Z.toArray 29):=⟨_,rfl⟩
 obtain⟨r1,r2,hb1⟩:=c0V hw1.symm
 have HW:=f1D (hw1.trans (by rw[hZe.out]))
 have hc3:w1.cell? ⟨w.heap.size,3,none⟩=some (.bool t.bound):=by rw[r1.cell,hX];rfl
 have hadd:=f1D (show ∀w',Tabs w'→Sl w' A (c*5) (t.cavs.flatMap cavV)→Calls prog 19 #[.agg X.toArray,.agg #[.bool false,.string (bstr s),.int .u64 0,.string { data:=#[] },.string { data:=#[] }]] w' (b0L (addT t (b0F s)) (b0B t (b0F s)) w') by
  rw[hX];exact fun w' hT h=>b1h t ht (b0F s) (by show (0:Nat) < _;decide) hcs hm hft A c w' hT h)
 have ts:=hs.later (f1F _) hb1
 have HZ:=f1D hZ
 have Q2:=f1D (show w1.heap[w.heap.size+1]?=some (.cells Z.toArray 29 (0,0)) from r2)
 have HE:=f1D (show n0V t s o=if t.bound=true then 6 else if o.isSome=true then b0B t (b0F s) else 2 from rfl)
 have HG:=f1D (show attO t s o=if n0V t s o=0 then c0G t (b0F s) else b0l from rfl)
 have HA:=f1D (show addT t (b0F s)=if b0B t (b0F s)=0 then c0G t (b0F s) else b0l from rfl)
 rw[←hX]
 have tok1:True:=trivial
 have HTB:=f1D hT
 have HEQ:=f1D hE
 have hpr:=f1D hpr
 clear hw1 hZ hX hs hT hE
 generalize n0V t s o=er at *
 generalize attO t s o=U at *
 cases hbd:t.bound with
 | true =>
  rw[hbd] at hc3 HE
  have e1:er=6:=HE.out.trans (if_pos rfl)
  have e2:U=b0l:=by rw[HG.out,e1];rfl
  have E1:=f1D e1
  have E2:=f1D e2
  clear e1 e2 HE HG r1 r2 ts hadd HA hZl hXl
  go_enter func15,ntmps15
  go_wp2_with (first
   | (have _t:=tok1;rw[←HW.out];clear tok1)
   | (have _t:=Q2;refine wpList_store_row rfl 29 (.tmp 4) (.tmp 10) rfl (w.heap.size+1) Z.toArray rfl (by rw[hZe.out];rfl) 29 Z.toArray Q2.out hzZ.out rfl hZ1.out ?_;refine Hid.out ?_))
  refine f1D ?_
  generalize hw8:World.setRow _ _ _=w8
  obtain⟨r8,hg8⟩:=a0y (show Row w1 (w.heap.size+1) 29 Z from Q2.out) hw8
  have hb8:=hb1.grown hg8 hb1.size (fun k h=>by cases h;omega)
  have R8:=f1D (show w8.heap[w.heap.size+1]?=some (.cells Z.toArray 29 (0,0)) from r8)
  clear hw8 r8 Q2
  go_wp2_with fail
  exact⟨rfl,_,a0d rfl _ _ (w.heap.size+1) 29 Z.toArray (0,0) _ rfl R8.out underlying29 rfl hzZ.out _ rfl,none,0,by rw[E2.out,E1.out,HZ.out];rfl,by rw[E2.out];exact c0x _,(fun a h=>by cases h),hb8⟩
 | false =>
  rw[hbd] at hc3 HE
  have hpa:=hpr
  unfold g0n at hpa
  generalize hx:o.getD g0g=x at *
  generalize hok:o.isSome=ok at *
  have R1:=f1D (show w1.heap[w.heap.size]?=some (.cells X.toArray 29 (0,0)) from r1)
  clear hZl hXl
  go_enter func15,ntmps15
  go_wp2_with (first
   | (have _t:=tok1;rw[←HW.out];clear tok1)
   | (go_at_call 26;refine (hpa.out _ (HEQ.out.next hb1)).mono ?_;rintro e w2 ⟨A2,c2,rfl,ax,hq⟩;have hlx:=b0f x ax.ok.net.a A2 c2;have hzP:=f1D (show (prog.info? 72).map (·.size)=some (prdV x A2 c2).toArray.size by rw[List.size_toArray,hlx];exact c0T);have h23:=f1D (show 23=(prdV x A2 c2).toArray.size by rw[List.size_toArray,hlx]);have hP1:=f1D (d0W x A2 c2);clear hlx)
   | (have _t:=hzP;refine wpList_store_row rfl 72 (.tmp 6) (.tmp 14) rfl w2.heap.size (prdV x A2 c2).toArray rfl rfl 72 _ (heap_alloc_new w2 _) hzP.out h23.out hP1.out ?_;refine Hid.out ?_))
  refine f1D ?_
  generalize hww:World.setRow _ _ _=w3
  obtain⟨x1,hq3⟩:=a0v (xs:=prdV x A2 c2) hww
  have hq:=hq.trans (hq3.mono hq.size)
  have r1:=r1.later hq r1.lt
  have r2:=r2.later hq r2.lt
  have ts:=ts.later (f1F _) hq
  have hb1:=hb1.trans (hq.mono hb1.size)
  have R1:=f1D (show w3.heap[w.heap.size]?=some (.cells X.toArray 29 (0,0)) from r1)
  have Q2:=f1D (show w3.heap[w.heap.size+1]?=some (.cells Z.toArray 29 (0,0)) from r2)
  generalize w2.heap.size=g2 at *
  clear hww hq hq3 x1 hpa hzP h23 hP1 ax hc3 HW hx
  generalize prdV x A2 c2=PV at *
  have HE:=f1D (HE.out.trans (if_neg (by decide)))
  cases ok with
  | false =>
   have e1:er=2:=HE.out.trans (if_neg (by decide))
   have e2:U=b0l:=by rw[HG.out,e1];rfl
   have E1:=f1D e1
   have E2:=f1D e2
   clear e1 e2 HE HG r1 r2 ts hadd HA R1
   go_wp2_with (have _t:=Q2;refine wpList_store_row rfl 29 (.tmp 4) (.tmp 18) rfl (w.heap.size+1) Z.toArray rfl (by rw[hZe.out];rfl) 29 Z.toArray Q2.out hzZ.out rfl hZ1.out ?_;refine Hid.out ?_)
   refine f1D ?_
   generalize hw8:World.setRow _ _ _=w8
   obtain⟨r8,hg8⟩:=a0y (show Row w3 (w.heap.size+1) 29 Z from Q2.out) hw8
   have hb8:=hb1.grown hg8 hb1.size (fun k h=>by cases h;omega)
   have R8:=f1D (show w8.heap[w.heap.size+1]?=some (.cells Z.toArray 29 (0,0)) from r8)
   clear hw8 r8 Q2
   go_wp2_with fail
   exact⟨rfl,_,a0d rfl _ _ (w.heap.size+1) 29 Z.toArray (0,0) _ rfl R8.out underlying29 rfl hzZ.out _ rfl,none,0,by rw[E2.out,E1.out,HZ.out];rfl,by rw[E2.out];exact c0x _,(fun a h=>by cases h),hb8⟩
  | true =>
   have e1:er=b0B t (b0F s):=HE.out.trans (if_pos rfl)
   have e2:U=addT t (b0F s):=by rw[HG.out,e1,HA.out]
   have hUo:(addT t (b0F s)).Ok:=by
    rw[HA.out];split
    ·exact f0U ht (by show (0:Nat) < _;decide)
    ·exact b0Z
   rw[←e1,←e2] at hadd
   rw[←e2] at hUo
   clear e1 e2 HE HG HA
   unfold b0L at hadd
   have r2L:=f1D r2.lt
   go_wp2_with (first
    | (with_reducible refine wpList_load_row rfl 29 (.tmp 2) rfl w.heap.size rfl 29 X.toArray (0,0) _ R1.out underlying29 rfl hzX2.out ?_)
    | (go_at_call 19;refine (hadd.out _ (HTB.out.later hb1 (f1F _)) ts).mono ?_;rintro e w4 ⟨B,d,rfl,s4,hap,hb4⟩;have r2:=r2.later hb4 r2.lt;have Q2:=f1D (show w4.heap[w.heap.size+1]?=some (.cells Z.toArray 29 (0,0)) from r2);have hb4:=hb1.trans (hb4.mono hb1.size);have hVl:=a0n hUo B d;have hzV:=f1D (show (prog.info? 29).map (·.size)=some (tokV U B d).toArray.size by rw[List.size_toArray,hVl];exact a0I);have hV1:=f1D (show (tokV U B d).toArray.all (·.oneCell')=true by rw[List.all_toArray,List.all_eq_true];exact a0X _ _ _);have hVZ:=f1D (show Z.toArray.size=(tokV U B d).toArray.size by rw[List.size_toArray,List.size_toArray,hVl,HZ.out];exact a0n b0Z none 0);clear hVl)
    | (have _t:=hb4;refine wpList_store_row rfl 29 (.tmp 4) (.tmp 23) rfl (w.heap.size+1) (tokV U B d).toArray rfl rfl 29 Z.toArray Q2.out hzV.out hVZ.out hV1.out ?_;refine Hid.out ?_))
   refine f1D ?_
   generalize hw8:World.setRow _ _ _=w8
   obtain⟨r8,hg8⟩:=a0y (show Row w4 (w.heap.size+1) 29 Z from Q2.out) hw8
   have hb8:=hb4.grown hg8 hb4.size (fun k h=>by cases h;omega)
   have R8:=f1D (show w8.heap[w.heap.size+1]?=some (.cells (tokV U B d).toArray 29 (0,0)) from r8)
   have hl3:=r2L.out
   have s8:=s4.apart hg8 (fun _ a ha=>by have:=hap a ha;omega)
   clear hw8 r8 Q2 hg8 s4
   go_wp2_with fail
   exact⟨rfl,_,a0d rfl _ _ (w.heap.size+1) 29 (tokV U B d).toArray (0,0) _ rfl R8.out underlying29 rfl hzV.out _ rfl,B,d,rfl,s8,(fun a ha=>by have:=hap a ha;omega),hb8⟩
structure EnvJ (w:World):Prop where
 tabs:Tabs w
 cav:EnvQ w
theorem EnvJ.next {w w':World} (h:EnvJ w) (hb:Below w.heap.size w w'):EnvJ w':=⟨h.tabs.later hb (f1F _),h.cav.next hb⟩
theorem d1o (key:List UInt8) (hk:key.length=32) (n:Nat) (hn:n < 18446744073709551616) (id:List UInt8) (hi:id.length≤100000) (w:World) (hE:EnvJ w) :
  Calls prog 39 #[.agg (byts key).toArray,.int .u64 (n:Int),.string (bstr id)] w fun e w'=>e=.returned (.agg (byts (c0D key n id)).toArray)∧Below w.heap.size w w':=r0D key hk n hn id (by omega) w hE.tabs
theorem w0x (key:List UInt8) (hk:key.length=32) (n:Nat) (hn:n < 18446744073709551616) (id:List UInt8) (hi:id.length≤100000) (w:World) (hE:EnvJ w) :
  Calls prog 14 #[.agg (byts key).toArray,.int .u64 (n:Int),.string (bstr id)] w (b0L (c0R key n id) (b0C id) w):=c1j key hk n hn id (by omega) w hE.tabs
open Go Go.ChangeShapes Go.WideShapes Go.ChangeAt Go.RowKit
theorem u0u {W:World} (h:W.ShapedOpen prog):∃m,W.cell? ⟨3,0,none⟩=some (.int .i64 m) :=
 Go.Proofs.cell_of_shapedOpen_int (zero:=#[.int .i64 0]) (t:=3) h (of_decide_eq_true (by kernel_rfl)) (by kernel_rfl) rfl (by kernel_rfl) (by kernel_rfl) underlying3
theorem g64:prog.globalNamed "math/bits.deBruijn64tab"=some 7:=by kernel_rfl
theorem gSyn:prog.globalNamed "strconv.ErrSyntax"=some 4:=by kernel_rfl
theorem gRng:prog.globalNamed "strconv.ErrRange"=some 5:=by kernel_rfl
def g0P:List Int:=[0,1,56,2,57,49,28,3,61,58,42,50,38,29,17,4,62,47,59,36,45,43,51,22,53,39,33,30,24,18,12,5,63,55,48,27,60,41,37,16,46,35,44,21,52,32,23,11,54,26,40,15,34,20,31,10,25,14,19,9,13,8,7,6]
theorem v0q:∀j,j < 64→g0P.getD j 0=((Lib.deBruijn64tab.getD j 0:Nat):Int):=by
 have h:∀j:Fin 64,g0P.getD j.1 0=((Lib.deBruijn64tab.getD j.1 0:Nat):Int):=by decide +kernel
 intro j hj
 exact h ⟨j,hj⟩
theorem y0h:"*"++"errors.errorString"="*errors.errorString":=by decide
theorem g0M:∀u,prog.typeName? 3 u=some "*errors.errorString"→u=284:=fun u h =>
 typeName_ptr_named (nm:="errors.errorString") (by rw[y0h];kernel_rfl) (by kernel_rfl) (by decide) u (by rw[y0h];exact h)
theorem f1k {W:World} (t64:Lib.TabIs prog W "math/bits.deBruijn64tab" .u8 g0P) (tPow:Lib.TabIs prog W "internal/strconv.uint64pow10" .u64 Lib.pow10Tab):EnvC W :=
 ⟨tPow,fun j hj=>by rw[t64.cell g64 j hj,v0q j hj]⟩
theorem d1v {W:World} (h:laidMet prog Rows.thirdDischargesRow.laid W) (hs:W.ShapedOpen prog):EnvJ W:=by
 have h1:=laidMet.tail h
 have h2:=laidMet.tail h1
 have h3:=laidMet.tail h2
 have h4:=laidMet.tail h3
 have h6:=laidMet.tail (laidMet.tail h4)
 have h7:=laidMet.tail h6
 have t64:Lib.TabIs prog W "math/bits.deBruijn64tab" .u8 g0P:=Lib.tabIs_of_head (zs:=g0P) g64 (t:=139) (by kernel_rfl) underlying139 underlying5 (by kernel_rfl) (by kernel_rfl) h1
 have tCu:Lib.TabIs prog W "chitty/word.cubeRoots" .u32 h0O:=Lib.tabIs_of_head (zs:=h0O) d1y (t:=216) (by kernel_rfl) underlying216 underlying147 (by kernel_rfl) (by kernel_rfl) h2
 have tSq:Lib.TabIs prog W "chitty/word.squareRoots" .u32 l0a:=Lib.tabIs_of_head (zs:=l0a) w0g (t:=185) (by kernel_rfl) underlying185 underlying147 (by kernel_rfl) (by kernel_rfl) h3
 have tPow:Lib.TabIs prog W "internal/strconv.uint64pow10" .u64 Lib.pow10Tab:=Lib.tabIs_of_head (zs:=Lib.pow10Tab) gPow (t:=265) (by kernel_rfl) underlying265 underlying26 (by kernel_rfl) (by kernel_rfl) h4
 obtain⟨aR,sR,hR,-⟩:=laid_sentinel h6 gRng (by kernel_rfl) underlying153 g0M underlying284 underlying286 rfl rfl underlying9 (by kernel_rfl) (by kernel_rfl)
 obtain⟨aS,sS,hS,-⟩:=laid_sentinel h7 gSyn (by kernel_rfl) underlying153 g0M underlying284 underlying286 rfl rfl underlying9 (by kernel_rfl) (by kernel_rfl)
 exact⟨⟨⟨fun i hi=>tCu.cell d1y i hi⟩,⟨fun i hi=>tSq.cell w0g i hi⟩⟩,show EnvQ W from ⟨f1k t64 tPow,u0u hs,⟨_,by simpa using World.var?_cell gSyn hS 0,.inr ⟨_,_,rfl⟩⟩,⟨_,by simpa using World.var?_cell gRng hR 0,.inr ⟨_,_,rfl⟩⟩⟩⟩
def c0S (cs:List Value):Obj→Obj
 | .cells _ t frozen=>.cells cs.toArray t frozen
 | o=>o
def z0h:List Int:=[0,1,28,2,29,14,24,3,30,22,20,15,25,17,4,8,31,27,13,23,21,19,16,7,26,12,18,6,11,5,10,9]
def y0R:List Int:=[128,191,160,191,128,159,144,191,128,143]++List.replicate 22 0
def synS:ByteArray:={ data:=#[105,110,118,97,108,105,100,32,115,121,110,116,97,120] }
def rngS:ByteArray:={ data:=#[118,97,108,117,101,32,111,117,116,32,111,102,32,114,97,110,103,101] }
noncomputable def d1H:Nat:=(World.holding prog default ⟨#[],#[],[]⟩).heap.size
noncomputable def j0u (os:Os):World :=
 let w0:=World.holding prog os ⟨#[.cells #[.string rngS] 286,.cells #[.string synS] 286],#[],[]⟩
 { w0 with heap:=((((((((w0.heap.modify 2 (c0S (h0O.map (Value.int .u32)))).modify 1 (c0S (l0a.map (Value.int .u32)))).modify 10 (c0S (z0h.map (Value.int .u8)))).modify 7 (c0S (g0P.map (Value.int .u8)))).modify 6 (c0S (Lib.pow10Tab.map (Value.int .u64)))).modify
   9 (c0S (y0R.map (Value.int .u8)))).modify 8 (c0S (Go.Pinned.utf8FirstZ.map fun n:Nat=>Value.int .u8 (n:Int)))).modify
   5 (c0S [.iface 284 (.pointer (some ⟨d1H,0,none⟩))])).modify 4 (c0S [.iface 284 (.pointer (some ⟨d1H+1,0,none⟩))]) }
theorem c1p (os:Os) (args:Array Value):laidMet prog Rows.thirdDischargesRow.laid ((j0u os).forCall (fun _ _=>0) ⟨#[],args,[]⟩).memory :=
 laidMet_of_run' 8 (by kernel_rfl) (by kernel_rfl)
end Go.Proofs.YtcbilopdeiapjaaGreatDoor
namespace Go.Proofs.YtcbilopdeiapjaaGreatDoor
open Go Go.RowKit
theorem p0j (s:List UInt8) (hs:s.length≤4000) (w:World):Calls prog 28 #[.string (bstr s)] w (g0n (c0L s) w):=by
 have hzs:=a0c s
 have HE:=f1D (fun t=>c0b t s)
 obtain⟨Z,hZ⟩:∃Z,Z=prdV g0g none 0:=⟨_,rfl⟩
 have hZl0:Z.length=23:=by rw[hZ];exact b0f _ j0N.net.a _ _
 have hzZ:=f1D (show (prog.info? 72).map (·.size)=some Z.toArray.size by rw[List.size_toArray,hZl0];exact c0T)
 have hZ1:=f1D (show Z.toArray.all (·.oneCell')=true by rw[hZ];exact d0W _ _ _)
 have hZe:=f1D (hZ.trans j0G)
 have hZd:=f1D (show Z=prdV g0g none 0 from hZ)
 have hZl:=f1D hZl0
 obtain⟨w1,hw1⟩:∃w1,w1=w.alloc (.cells Z.toArray 72):=⟨_,rfl⟩
 have q1:Row w1 w.heap.size 72 Z:=by rw[hw1];exact Row.new w _ _
 have hb1:Below w.heap.size w w1:=by rw[hw1];exact (Below.refl _ w).alloc (f1F _) _
 have HW:=f1D (hw1.trans (show w.alloc (.cells Z.toArray 72)=w.alloc (.cells [Value.int .i64 0,.int .u64 0,.slice none 0 0,.string { data:=#[] },.bool false,.int .u8 0,.int .u8 0,.int .u8 0,.int .u8 0,.int .u8 0,.int .u8 0,.int .u8 0,.int .u8 0,.int .u8 0,.int .u8 0,.int .u8 0,.int .u8 0,.int .u8 0,.int .u8 0,.int .u8 0,.int .u8 0,.int .i64 0,.float .f64 0].toArray 72) by rw[hZe.out]))
 clear hw1 hZ hZl0
 have HNO:=f1D (fun h=>p0V s h)
 have HAT:=f1D (fun k hk h hn=>v0n s k hk h hn)
 have HIX:=f1D (fun k (hk:k < s.length) w'=>a0V s k hk w')
 have HCUT:=f1D (fun k=>(show (bstr s).extract (k+1) s.length=bstr (s.drop (k+1)) by rw[a0G,List.take_of_length_le (by rw[List.length_drop];omega)]))
 have HPL:=f1D (fun h=>t0N s h)
 have HPW:=f1D (fun h1 h2=>q0B s h1 h2)
 have HPH:=f1D (fun k j h1 h2 h3 h4 h5=>x0m s k j h1 h2 h3 h4 h5)
 have HPM:=f1D (fun k h1 h2 h3=>t0O s k h1 h2 h3)
 obtain⟨S,hS⟩:∃S,S=bstr s:=⟨_,rfl⟩
 rw[←hS] at hzs HIX HCUT HE ⊢
 clear hS
 by_cases hlong:512 < s.length
 ·have hl':(512:Int) < (s.length:Int):=by omega
  go_enter func28,ntmps28
  have HX:=f1D (HPL.out hlong)
  have Q2:=f1D (show w1.heap[w.heap.size]?=some (.cells Z.toArray 72 (0,0)) from q1)
  go_wp2_with (have _t:=Q2;rw[←HW.out];refine wpList_store_row rfl 72 (.tmp 2) (.tmp 19) rfl w.heap.size Z.toArray rfl (by rw[hZe.out];rfl) 72 Z.toArray Q2.out hzZ.out rfl hZ1.out ?_;refine Hid.out ?_)
  refine f1D ?_
  generalize hw8:World.setRow _ _ _=w8
  obtain⟨r8,hg8⟩:=a0y (show Row w1 w.heap.size 72 Z from Q2.out) hw8
  have hb8:=hb1.grown hg8 hb1.size (fun k h=>by cases h;exact f1F _)
  have R8:=f1D (show w8.heap[w.heap.size]?=some (.cells Z.toArray 72 (0,0)) from r8)
  clear hw8 r8 hg8 Q2
  go_wp2_with fail
  exact⟨rfl,_,a0d rfl _ _ w.heap.size 72 Z.toArray (0,0) _ rfl R8.out underlying72 rfl hzZ.out _ rfl,none,0,by rw[HX.out,hZd.out];rfl,by rw[HX.out];exact i0O _,hb8⟩
 ·have hl':(s.length:Int)≤512:=by omega
  have hl2:s.length≤512:=by omega
  clear hlong
  go_enter func28,ntmps28
  go_wp2
  rw[←HW.out]
  clear HW
  go_loopw [4] (fun i wr=>∃k:Nat,k≤s.length∧i=.int .i64 k∧(∀j,j < k→s.getD j 0≠32)∧Row wr w.heap.size 72 Z∧Below w.heap.size w wr) (fun i _=>s.length - (intOf i).toNat)
  case atStart=>exact⟨0,Nat.zero_le _,rfl,fun j hj=>by omega,q1,hb1⟩
  case round =>
   clear q1 hb1
   obtain⟨k,hk,rfl,hz,q1,hb1⟩:=hrel
   by_cases hlt:k < s.length
   ·have hlt':(k:Int) < (s.length:Int):=by omega
    have hix:=HIX.out k hlt
    by_cases hx:s.getD k 0=32
    ·have HBL:=f1D (HAT.out k hlt hx hz)
     rw[hx] at hix
     have hix:∀w,(Instr.index 9 (.string S) (.int .i64 (k:Int))).run prog w=.ok (.int .u8 32) w:=hix
     have hcut:=HCUT.out k
     have HH:=f1D (fun j h3 h4 h5=>HPH.out k j hl2 HBL.out h3 h4 h5)
     have HM:=f1D (fun h=>HPM.out k hl2 HBL.out h)
     have hbl:(s.drop (k+1)).length≤600:=by rw[List.length_drop];omega
     have hks:(k:Int)+1≤(s.length:Int):=by omega
     have hwk:IntKind.i64.wrap ((k:Int)+1)=(k:Int)+1:=by rw[IntKind.wrap_i64];omega
     have hkn:((k:Int)+1).toNat=k+1:=by omega
     clear HPH HPM HBL HAT HNO HPL HPW HIX HCUT hz hx
     generalize s.drop (k+1)=b at *
     have hnum:=fun w'=>n0i b (by omega) w'
     have hnam:=fun w'=>p0g b (by omega) w'
     rw[show o0L (a0J b)=.tuple #[.int .u64 (((a0J b).getD 0:Nat):Int),.bool (a0J b).isSome] from rfl] at hnum
     unfold j0q at hnam
     have hnum:=f1D hnum
     have hnam:=f1D hnam
     have hnet:=fun w'=>p0i b (by omega) w'
     have hcst:=f1D (fun w'=>t0d b (by omega) w')
     rw[o0P] at hnet
     have hnet:=f1D hnet
     have HCA:=f1D (fun A c w' h j hj=>b1F b hbl A c w' h j hj)
     have HC:=f1D (v0x b)
     have hro:=(g0R b _ (j0s b 4 (by omega))).net
     rw[HC.out.2.2.2.2.1] at hro
     have hro:((b0u b).getD a0T).Ok:=hro
     generalize (a0J b).getD 0=n at *
     generalize (c0o b).getD []=l at *
     generalize (b0t b).getD 0=f at *
     obtain⟨r,hr⟩:∃r,r=(b0u b).getD a0T:=⟨_,rfl⟩
     rw[←hr] at hnet HC hro
     obtain⟨N,hN⟩:∃N,N=rngV r:=⟨_,rfl⟩
     have hNl:=f1D (show N.length=18 by rw[hN];exact a0C _ hro.a)
     have hzN:=f1D (show (prog.info? 69).map (·.size)=some N.length by rw[hNl.out];exact c0n)
     have hzN2:=f1D (show (prog.info? 69).map (·.size)=some N.toArray.size by rw[List.size_toArray,hNl.out];exact c0n)
     have h18:=f1D (show 18=N.toArray.size by rw[List.size_toArray,hNl.out])
     have hN1:=f1D (show N.toArray.all (·.oneCell')=true by rw[hN];exact d0q _)
     have HN:=f1D hN
     rw[←hN] at hnet
     clear hr hN hro hbl
     generalize hBB:bstr b=B at *
     have HB:=f1D hBB
     clear hBB
     go_wp2_with (first
      | (go_at_call 47;refine (hnum.out _).mono ?_;rintro e w2 ⟨rfl,hq2⟩;have q2:=q1.later hq2 q1.lt;have hb2:=hb1.trans (hq2.mono hb1.size))
      | (go_at_call 48;refine (hnam.out _).mono ?_;rintro e w3 ⟨A,c,rfl,sl3,hap,hq3⟩;have hap:=f1D (hap _ q2.lt);have q3:=q2.later hq3 q2.lt;have hb3:=hb2.trans (hq3.mono hb2.size))
      | (go_at_call 49;refine (hnet.out _).mono ?_;rintro e w4 ⟨rfl,hq4⟩;have q4:=q3.later hq4 q3.lt;have sl4:=sl3.later (f1F _) hq4;have hb4:=hb3.trans (hq4.mono hb3.size))
      | (have _t:=hb4;refine wpList_store_row rfl 69 (.tmp 10) (.tmp 47) rfl w4.heap.size N.toArray rfl rfl 69 _ (heap_alloc_new w4 _) hzN2.out h18.out hN1.out ?_;refine Hid.out ?_))
     refine f1D ?_
     generalize hw5:World.setRow _ _ _=w5
     obtain⟨r5,hb5'⟩:=a0v (xs:=N) hw5
     have q5:=q4.later hb5' q4.lt
     have sl5:=sl4.later (f1F _) hb5'
     have hb5:=hb4.trans (hb5'.mono hb4.size)
     clear hw5 hb5' q1 q2 q3 q4 sl3 sl4 hix hcut hnum hnam hnet hb1 hb2 hb3 hb4 hq2 hq3 hq4
     generalize w4.heap.size=g at *
     go_wp2_with (first
      | (go_at_call 50;refine (hcst.out _).mono ?_;rintro e w6 ⟨rfl,hq6⟩;have q6:=q5.later hq6 q5.lt;have r6:=r5.later hq6 r5.lt;have sl6:=sl5.later (f1F _) hq6;have hb6:=hb5.trans (hq6.mono hb5.size);refine Hid.out ?_))
     refine f1D ?_
     clear q5 r5 sl5 hb5 hq6 hcst
     obtain⟨X,hX⟩:∃X:Nat→List Value,X=fun j=>prdV (d0t b j) (j0i A c j).1 (j0i A c j).2:=⟨_,rfl⟩
     have HXl:=f1D (show ∀j,j < 6→(X j).length=23 by intro j hj;rw[hX];exact b0f _ (HCA.out A c w6 sl6 j hj).ok.net.a _ _)
     have hB0:∀w',(Instr.build 72 #[(0,.int .i64 1),(1,.int .u64 (n:Int))]).run prog w'=.ok (.agg (X 0).toArray) w':=by
      intro w';rw[hX];show _=Result.ok (Value.agg (prdV (d0t b 0) none 0).toArray) w';rw[HC.out.1];exact v0s n 1 w'
     have hB1:∀w',(Instr.build 72 #[(0,.int .i64 2),(1,.int .u64 (n:Int))]).run prog w'=.ok (.agg (X 1).toArray) w':=by
      intro w';rw[hX];show _=Result.ok (Value.agg (prdV (d0t b 1) none 0).toArray) w';rw[HC.out.2.1];exact v0s n 2 w'
     have hB2:∀w',(Instr.build 72 #[(0,.int .i64 3),(2,.slice A l.length c)]).run prog w'=.ok (.agg (X 2).toArray) w':=by
      intro w';rw[hX];show _=Result.ok (Value.agg (prdV (d0t b 2) A c).toArray) w';rw[HC.out.2.2.1];exact b1A A l c w'
     have hB3:∀w',(Instr.build 72 #[(0,.int .i64 4),(3,.string B)]).run prog w'=.ok (.agg (X 3).toArray) w':=by
      intro w';rw[hX,←HB.out];show _=Result.ok (Value.agg (prdV (d0t b 3) none 0).toArray) w';rw[HC.out.2.2.2.1];exact b1B b w'
     have hB4:∀w',(Instr.build 72 #[(0,.int .i64 5),(4,.agg N.toArray)]).run prog w'=.ok (.agg (X 4).toArray) w':=by
      intro w';rw[hX];show _=Result.ok (Value.agg (prdV (d0t b 4) none 0).toArray) w';rw[HC.out.2.2.2.2.1];refine (b1C N hNl.out w').trans ?_;rw[HN.out];rfl
     have hB5:∀w',(Instr.build 72 #[(0,.int .i64 6),(5,.float .f64 f)]).run prog w'=.ok (.agg (X 5).toArray) w':=by
      intro w';rw[hX];show _=Result.ok (Value.agg (prdV (d0t b 5) none 0).toArray) w';rw[HC.out.2.2.2.2.2];exact b1D f w'
     have HXe:=f1D (show ∀j,X j=prdV (d0t b j) (j0i A c j).1 (j0i A c j).2 by intro j;rw[hX])
     obtain⟨R,hR1,hR2,hR3⟩:=y0c X HXl.out
     have HR2:=f1D hR2
     have HR3:=f1D hR3
     have HB0:=f1D hB0
     have HB1:=f1D hB1
     have HB2:=f1D hB2
     have HB3:=f1D hB3
     have HB4:=f1D hB4
     have HB5:=f1D hB5
     clear hX hR1 hR2 hR3 hB0 hB1 hB2 hB3 hB4 hB5
     go_wp2_with (first
      | (refine b0g rfl 72 0 1 _ _ rfl (.int .i64 1) (.int .u64 (n:Int)) (.agg (X 0).toArray) rfl rfl (HB0.out _) ?_)
      | (refine b0g rfl 72 0 1 _ _ rfl (.int .i64 2) (.int .u64 (n:Int)) (.agg (X 1).toArray) rfl rfl (HB1.out _) ?_)
      | (refine b0g rfl 72 0 2 _ _ rfl (.int .i64 3) (.slice A l.length c) (.agg (X 2).toArray) rfl rfl (HB2.out _) ?_)
      | (refine b0g rfl 72 0 3 _ _ rfl (.int .i64 4) (.string B) (.agg (X 3).toArray) rfl rfl (HB3.out _) ?_)
      | (with_reducible refine wpList_load_mid rfl 69 (.tmp 10) rfl g 0 rfl N _ (a0i r6) underlying69 rfl hzN.out ?_)
      | (refine b0g rfl 72 0 4 _ _ rfl (.int .i64 5) (.agg N.toArray) (.agg (X 4).toArray) rfl rfl (HB4.out _) ?_)
      | (refine b0g rfl 72 0 5 _ _ rfl (.int .i64 6) (.float .f64 f) (.agg (X 5).toArray) rfl rfl (HB5.out _) ?_)
      | (refine n0u rfl 98 6 [_,_,_,_,_,_] rfl [(0,.agg (X 0).toArray),(1,.agg (X 1).toArray),(2,.agg (X 2).toArray),(3,.agg (X 3).toArray),(4,.agg (X 4).toArray),(5,.agg (X 5).toArray)] rfl _ (HR2.out _) ?_;refine Hid.out ?_))
     refine f1D ?_
     obtain⟨w7,hw7⟩:∃w7,w7=w6.alloc (.cells R.toArray 72):=⟨_,rfl⟩
     rw[←hw7]
     have s7:Row w7 w6.heap.size 72 R:=by rw[hw7];exact Row.new _ _ _
     have hb7':Below w6.heap.size w6 w7:=by rw[hw7];exact (Below.refl _ _).alloc (f1F _) _
     have q7:=q6.later hb7' q6.lt
     have sl7:=sl6.later (f1F _) hb7'
     have hb7:=hb6.trans (hb7'.mono hb6.size)
     clear hw7 hb7' q6 r6 sl6 hb6 HB0 HB1 HB2 HB3 HB4 HB5 HR2
     generalize w6.heap.size=gs at *
     go_wp2
     go_loopw [68] (fun i wr2=>∃j:Nat,j≤6∧i=.int .i64 j∧(∀i,i < j→c0A (d0t b i)≠s)∧Row wr2 w.heap.size 72 Z∧Row wr2 gs 72 R∧Sl wr2 A c (a0F l)∧Below w.heap.size w wr2) (fun i _=>6 - (intOf i).toNat)
     case atStart=>exact⟨0,Nat.zero_le _,rfl,fun j hj=>by omega,q7,s7,sl7,hb7⟩
     case round =>
      clear q7 s7 sl7 hb7
      obtain⟨j,hj,rfl,hz,q7,s7,sl7,hb7⟩:=hrel
      by_cases hlt6:j < 6
      ·have hlt6':(j:Int) < 6:=by omega
       have hix:∀W,(Instr.indexAt 98 (.slice (some ⟨gs,0,none⟩) 6 6) (.int .i64 (j:Int))).run prog W=.ok (.pointer (some ⟨gs,j*23,none⟩)) W:=by
        intro W
        have:=w0t (some ⟨gs,0,none⟩) gs 0 6 6 j rfl hlt6 W
        rw[Nat.zero_add] at this;exact this
       have hrg:wr.rangeAt gs (j*23) (X j):=fun i v hv=>by
        rw[s7.cell];exact HR3.out j hlt6 i v hv
       have hpa:=HCA.out A c wr sl7 j hlt6
       have htx:=fun w' (h:Below wr.heap.size wr w')=>q0U (d0t b j) (j0i A c j).1 (j0i A c j).2 w' (hpa.later (f1F _) h)
       rw[←HXe.out j] at htx
       have heq:=HE.out (c0A (d0t b j))
       have HHJ:=f1D (HH.out j hlt6 hz)
       have hXl:=HXl.out j hlt6
       have hXe:=HXe.out j
       have hX1:=f1D (show (X j).toArray.all (·.oneCell')=true by rw[hXe];exact d0W _ _ _)
       have htx:=f1D htx
       have HPA:=f1D hpa
       have HEX:=f1D hXe
       generalize X j=Y at *
       have hzY:=f1D (show (prog.info? 72).map (·.size)=some Y.length by rw[hXl];exact c0T)
       have hzY2:=f1D (show (prog.info? 72).map (·.size)=some Y.toArray.size by rw[List.size_toArray,hXl];exact c0T)
       have h23:=f1D (show 23=Y.toArray.size by rw[List.size_toArray,hXl])
       have hZY:=f1D (show Z.toArray.size=Y.toArray.size by rw[List.size_toArray,List.size_toArray,hXl,hZl.out])
       have HZZ:=f1D hz
       have HRG:=f1D hrg
       clear hXl hXe hz hpa hrg
       go_wp2_with (first
        | (with_reducible refine wpList_load_mid rfl 72 (.tmp 70) rfl gs (j*23) rfl Y _ HRG.out underlying72 rfl hzY.out ?_)
        | (refine wpList_store_row rfl 72 (.tmp 15) (.tmp 71) rfl wr.heap.size Y.toArray rfl rfl 72 _ (heap_alloc_new wr _) hzY2.out h23.out hX1.out ?_;refine Hid.out ?_))
       refine f1D ?_
       generalize hw9:World.setRow _ _ _=w9
       obtain⟨r9,hb9'⟩:=a0v (xs:=Y) hw9
       have q9:=q7.later hb9' q7.lt
       have s9:=s7.later hb9' s7.lt
       have sl9:=sl7.later (f1F _) hb9'
       have hb9:=hb7.trans (hb9'.mono hb7.size)
       have hpa:=HPA.out.later (f1F _) hb9'
       have HTX:=f1D (htx.out w9 hb9')
       clear htx hw9 hb9' q7 s7 sl7 hb7 hix HRG HPA
       generalize wr.heap.size=g9 at *
       go_wp2_with (first
        | (with_reducible refine wpList_load_mid rfl 72 (.tmp 15) rfl g9 0 rfl Y _ (a0i r9) underlying72 rfl hzY.out ?_)
        | (go_at_call 51;refine HTX.out.mono ?_;rintro e w10 ⟨rfl,hq10⟩;have r10:=r9.later hq10 r9.lt;have q10:=q9.later hq10 q9.lt;have s10:=s9.later hq10 s9.lt;have sl10:=sl9.later (f1F _) hq10;have hpa:=hpa.later (f1F _) hq10;have hb10:=hb9.trans (hq10.mono hb9.size);clear r9 q9 s9 sl9 hb9;refine Hid.out ?_))
       refine f1D ?_
       clear HTX hq10
       by_cases hT:c0A (d0t b j)=s
       ·have HX:=f1D (HHJ.out hT)
        rw[decide_eq_true hT] at heq
        have Q2:=f1D (show w10.heap[w.heap.size]?=some (.cells Z.toArray 72 (0,0)) from q10)
        have HPA:=f1D hpa
        clear hT HZZ q10 s10 sl10 hpa
        generalize bstr (c0A (d0t b j))=TX at *
        go_wp2_with (first
         | (with_reducible refine wpList_load_mid rfl 72 (.tmp 15) rfl g9 0 rfl Y _ (a0i r10) underlying72 rfl hzY.out ?_)
         | (with_reducible refine wpList_store_row rfl 72 (.tmp 2) (.tmp 76) rfl w.heap.size Y.toArray rfl rfl 72 Z.toArray Q2.out hzY2.out hZY.out hX1.out ?_;refine Hid.out ?_))
        refine f1D ?_
        generalize hw8:World.setRow _ _ _=w8
        obtain⟨r8,hg8⟩:=a0y (show Row w10 w.heap.size 72 Z from Q2.out) hw8
        have hb8:=hb10.grown hg8 hb10.size (fun k h=>by cases h;exact f1F _)
        have hpa:=HPA.out.apart hg8 (p0R A c j _ hap.out)
        have R8:=f1D (show w8.heap[w.heap.size]?=some (.cells Y.toArray 72 (0,0)) from r8)
        clear hw8 r8 hg8 Q2
        go_wp2_with fail
        exact⟨rfl,_,a0d rfl _ _ w.heap.size 72 Y.toArray (0,0) _ rfl R8.out underlying72 rfl hzY2.out _ rfl,(j0i A c j).1,(j0i A c j).2,by rw[HX.out,HEX.out];rfl,by rw[HX.out];exact hpa,hb8⟩
       ·have HZ:=f1D (show ∀i:Nat,i < j+1→c0A (d0t b i)≠s from fun i hi=>by
         by_cases e:i=j
         ·rw[e];exact hT
         ·exact HZZ.out i (by omega))
        rw[decide_eq_false hT] at heq
        clear hT HZZ HHJ
        generalize bstr (c0A (d0t b j))=TX at *
        go_wp2
        go_roundw
        case rel=>exact⟨j+1,by omega,by go_num,HZ.out,q10,s10,sl10,hb10⟩
        case measure=>simp[intOf];omega
      ·obtain rfl:j=6:=by omega
       have HZ:=f1D hz
       clear hz
       have HX:=f1D (HM.out HZ.out)
       have Q2:=f1D (show wr.heap[w.heap.size]?=some (.cells Z.toArray 72 (0,0)) from q7)
       go_wp2_with (have _t:=Q2;refine wpList_store_row rfl 72 (.tmp 2) (.tmp 78) rfl w.heap.size Z.toArray rfl (by rw[hZe.out];rfl) 72 Z.toArray Q2.out hzZ.out rfl hZ1.out ?_;refine Hid.out ?_)
       refine f1D ?_
       generalize hw8:World.setRow _ _ _=w8
       obtain⟨r8,hg8⟩:=a0y (show Row wr w.heap.size 72 Z from Q2.out) hw8
       have hb8:=hb7.grown hg8 hb7.size (fun k h=>by cases h;exact f1F _)
       have R8:=f1D (show w8.heap[w.heap.size]?=some (.cells Z.toArray 72 (0,0)) from r8)
       clear hw8 r8 hg8 Q2
       go_wp2_with fail
       exact⟨rfl,_,a0d rfl _ _ w.heap.size 72 Z.toArray (0,0) _ rfl R8.out underlying72 rfl hzZ.out _ rfl,none,0,by rw[HX.out,hZd.out];rfl,by rw[HX.out];exact i0O _,hb8⟩
    ·have hx2:((s.getD k 0).toNat:Int)≠32:=by
      intro h
      exact hx (UInt8.toNat_inj.1 (by show _=32;omega))
     generalize hxx:(s.getD k 0).toNat=x at *
     have HXX:=f1D hx
     clear hx hxx
     go_wp2
     go_roundw
     case rel=>exact⟨k+1,by omega,by go_num,fun j hj=>by
      by_cases h:j < k
      ·exact hz j h
      ·obtain rfl:j=k:=by omega
       exact HXX.out,q1,hb1⟩
     case measure=>simp[intOf];omega
   ·obtain rfl:k=s.length:=by omega
    have HZ0:=f1D hz
    clear hz
    have HX:=f1D (HPW.out hl2 (HNO.out HZ0.out))
    have Q2:=f1D (show wr.heap[w.heap.size]?=some (.cells Z.toArray 72 (0,0)) from q1)
    go_wp2_with (have _t:=Q2;refine wpList_store_row rfl 72 (.tmp 2) (.tmp 79) rfl w.heap.size Z.toArray rfl (by rw[hZe.out];rfl) 72 Z.toArray Q2.out hzZ.out rfl hZ1.out ?_;refine Hid.out ?_)
    refine f1D ?_
    generalize hw8:World.setRow _ _ _=w8
    obtain⟨r8,hg8⟩:=a0y (show Row wr w.heap.size 72 Z from Q2.out) hw8
    have hb8:=hb1.grown hg8 hb1.size (fun k h=>by cases h;exact f1F _)
    have R8:=f1D (show w8.heap[w.heap.size]?=some (.cells Z.toArray 72 (0,0)) from r8)
    clear hw8 r8 hg8 Q2
    go_wp2_with fail
    exact⟨rfl,_,a0d rfl _ _ w.heap.size 72 Z.toArray (0,0) _ rfl R8.out underlying72 rfl hzZ.out _ rfl,none,0,by rw[HX.out,hZd.out];rfl,by rw[HX.out];exact i0O _,hb8⟩
end Go.Proofs.YtcbilopdeiapjaaGreatDoor
