import Derived.Test.YtcbilopdeiapjaaGreatDoorRgam
set_option maxHeartbeats 16000000
set_option maxRecDepth 100000
open Go.Proofs.Tryz
namespace Go.Proofs.YtcbilopdeiapjaaGreatDoor
open Go Go.RowKit
theorem r0D (key:List UInt8) (hk:key.length=32) (n:Nat) (_hn:n < 18446744073709551616) (id:List UInt8) (hi:id.length≤100000000) (w:World) (hT:Tabs w) :
  Calls prog 39 #[.agg (byts key).toArray,.int .u64 (n:Int),.string (bstr id)] w fun e w'=>e=.returned (.agg (byts (c0D key n id)).toArray)∧Below w.heap.size w w':=by
 have hKl:=a0U key hk
 have hkz:=f1D (show (prog.info? 23).map (·.size)=some (byts key).length by rw[a0t,hKl])
 obtain⟨V,hV⟩:∃V,V=byts (c0D key n id):=⟨_,rfl⟩
 have hVl:V.length=32:=by rw[hV];exact a0U _ (b0H _ _ _)
 have hone:=f1D (show ∀v∈V,v.oneCell'=true by rw[hV];exact a0o _)
 have hszl:=f1D (show (prog.info? 23).map (·.size)=some V.length by rw[a0t,hVl])
 have hsz2:=f1D (show (prog.info? 23).map (·.size)=some V.toArray.size by rw[a0t,List.size_toArray,hVl])
 have hfit:=f1D (show 0+V.length≤(List.replicate 32 (Value.int .u8 0)).length by rw[hVl,List.length_replicate];decide)
 have HVr:=f1D (show splice (List.replicate 32 (Value.int .u8 0)) 0 V=V by
  unfold splice
  rw[List.take_zero,List.nil_append,Nat.zero_add,hVl,List.drop_eq_nil_of_le (by simp),List.append_nil])
 have HV:=f1D hV
 clear hV hVl hKl
 go_enter func39,ntmps39
 go_upto_region 1 with fail
 generalize hw1:World.alloc (World.alloc _ _) _=w1
 obtain⟨r1,r2,hb1⟩:=c0V (B:=List.replicate 32 (Value.int .u8 0)) hw1
 clear hw1
 refine wp_region_noPanic ?_
 refine wp_region_held_drew (S:=fun w'=>Row w' w.heap.size 23 (byts key)) (by kernel_rfl) (r1.later ((Below.refl _ _).drew) r1.lt) (fun hHeld=>?_)
 have hB:Below w1.heap.size w1 w1.drew:=(Below.refl _ _).drew
 refine rt 0 7 hHeld ?_ (hy:=by intro w hS;exact a0s 23 (.tmp 3) rfl _ 0 rfl (byts key) _ (a0i hS) underlying23 rfl hkz.out)
 refine rt 1 8 hHeld ?_
 refine rt 4 11 hHeld ?_
 refine rc1 2 fun K hK=>?_
 go_simp
 refine (i0G n _).mono ?_;rintro e ww12 ⟨v2,rfl,ho2,hqw12⟩;obtain⟨A2,c2,rfl,-,s2⟩:=Sl.of_own ho2
 try go_wp2_with fail
 refine hK.out _ _ (hHeld.later hqw12 hHeld.lt) (fun hHeld=>?_)
 clear hK K
 have hB:=a0a hB hqw12
 have hB2:Below ww12.heap.size ww12 ww12:=Below.refl _ _
 refine rc1 3 fun K hK=>?_
 refine j0H (some 10) rfl (by rfl) (.string (bstr (b0j n))) (by have hcv:=b0o s2 _ rfl;go_simp) ?_
 refine rk hK hHeld fun hHeld=>?_
 clear hK K
 refine rc1 5 fun K hK=>?_
 refine i0m (some 12) rfl (by rfl) _ [b0j n,id] (by have hss:=k0V (b0j n) id ww12;go_simp;rfl) rfl ?_;intro ww15 s5 hqw15
 refine rk hK (hHeld.later hqw15 hHeld.lt) fun hHeld=>?_
 clear hK K
 have hB:=a0a hB hqw15
 have hB2:=a0a hB2 hqw15
 have hB5:Below ww15.heap.size ww15 ww15:=Below.refl _ _
 refine rc1 6 fun K hK=>?_
 go_simp
 refine (g0U key hk [109,105,110,116] _ 2 2 [b0j n,id] _ (hT.later (hb1.trans (hB.mono hb1.size)) (f1F _)) s5 rfl (by show (4+1)+(((b0j n).length+1)+((id.length+1)+0))≤_;rw[b0a];omega)).mono ?_;rintro e ww16 ⟨rfl,hqw16⟩;rw[show keyD key [109,105,110,116] [b0j n,id]=c0D key n id from rfl,←HV.out]
 try go_wp2_with fail
 refine hK.out _ _ (hHeld.later hqw16 hHeld.lt) (fun hHeld=>?_)
 clear hK K
 have hB:=a0a hB hqw16
 have hB2:=a0a hB2 hqw16
 have hB5:=a0a hB5 hqw16
 have hB6:Below ww16.heap.size ww16 ww16:=Below.refl _ _
 refine rc1 7 fun K hK=>?_
 refine a0R none rfl (by rfl) 23 (.tmp 6) (.tmp 13) rfl _ 0 23 _ V rfl rfl (r2.later hB r2.lt) hfit.out hszl.out hone.out ?_;intro wf rf hgf;have hBz:=hB
 refine hK.out _ _ (hHeld.grown hgf (by omega)) (fun hHeld=>?_)
 clear hK K
 rw[a0u]
 refine wpAnyH_done (by kernel_rfl) ?_ _
 refine NoPanic.normal ?_
 have r9:Row wf (w.heap.size+1) 23 V:=by rw[HVr.out] at rf;exact rf
 have hb9:=(hb1.trans (hBz.mono hb1.size)).grown hgf (Nat.le_trans hb1.size hBz.size) (fun k h=>by cases h;omega)
 have R9:=f1D (show wf.heap[(w.heap.size+1:Nat)]?=some (.cells V.toArray 23 (0,0)) from r9)
 clear r9 hgf rf hBz hHeld hb1
 go_wp2_with (with_reducible refine bodyPost_ret (results_cell_row rfl _ _ (w.heap.size+1) 23 V.toArray (0,0) (.array 32 5) rfl R9.out underlying23 rfl hsz2.out) rfl ?_)
 exact⟨by rw[HV.out],hb9⟩
theorem w0y (key:List UInt8) (hk:key.length=32) (c:Cav) (hp:c.party < 18446744073709551616) (hc:capC c≤100000) (w:World) (hT:Tabs w) :
  Calls prog 31 #[.agg (byts key).toArray,.agg (cavV c).toArray] w fun e w'=>e=.returned (.agg (byts (d0U key c)).toArray)∧Below w.heap.size w w':=by
 have hKl:=a0U key hk
 have hkz:=f1D (show (prog.info? 23).map (·.size)=some (byts key).length by rw[a0t,hKl])
 obtain⟨V,hV⟩:∃V,V=byts (d0U key c):=⟨_,rfl⟩
 have hVl:V.length=32:=by rw[hV];exact a0U _ (b0H _ _ _)
 have hone:=f1D (show ∀v∈V,v.oneCell'=true by rw[hV];exact a0o _)
 have hszl:=f1D (show (prog.info? 23).map (·.size)=some V.length by rw[a0t,hVl])
 have hsz2:=f1D (show (prog.info? 23).map (·.size)=some V.toArray.size by rw[a0t,List.size_toArray,hVl])
 have hfit:=f1D (show 0+V.length≤(List.replicate 32 (Value.int .u8 0)).length by rw[hVl,List.length_replicate];decide)
 have HVr:=f1D (show splice (List.replicate 32 (Value.int .u8 0)) 0 V=V by
  unfold splice
  rw[List.take_zero,List.nil_append,Nat.zero_add,hVl,List.drop_eq_nil_of_le (by simp),List.append_nil])
 have HV:=f1D hV
 clear hV hVl hKl
 go_enter func31,ntmps31
 go_upto_region 1 with fail
 generalize hw1:World.alloc (World.alloc (World.alloc _ _) _) _=w1
 obtain⟨r1,r2,r3,hb1,-⟩:=i0i (C:=List.replicate 32 (Value.int .u8 0)) hw1
 clear hw1
 refine wp_region_noPanic ?_
 refine wp_region_held_drew (S:=fun w'=>Row w' w.heap.size 23 (byts key)∧Row w' (w.heap.size+1) 43 (cavV c)) (by kernel_rfl) (⟨r1.later ((Below.refl _ _).drew) r1.lt,r2.later ((Below.refl _ _).drew) r2.lt⟩) (fun hHeld=>?_)
 have hB:Below w1.heap.size w1 w1.drew:=(Below.refl _ _).drew
 refine rt 0 5 hHeld ?_ (hy:=by intro w hS;exact a0s 23 (.tmp 2) rfl _ 0 rfl (byts key) _ (a0i hS.1) underlying23 rfl hkz.out)
 refine rt 1 6 hHeld ?_ (hy:=by intro w hS;exact a0s 43 (.tmp 3) rfl _ 0 rfl (cavV c) _ (a0i hS.2) underlying43 rfl c0C)
 refine rc1 2 fun K hK=>?_
 go_simp
 refine (a1l c hp hc _).mono ?_;rintro e ww12 ⟨v2,rfl,ho2,hqw12⟩;obtain⟨A2,c2,rfl,-,s2⟩:=Sl.of_own ho2
 try go_wp2_with fail
 refine hK.out _ _ ⟨hHeld.1.later hqw12 hHeld.1.lt,hHeld.2.later hqw12 hHeld.2.lt⟩ (fun hHeld=>?_)
 clear hK K
 have hB:=a0a hB hqw12
 have hB2:Below ww12.heap.size ww12 ww12:=Below.refl _ _
 refine rc1 3 fun K hK=>?_
 refine j0H (some 8) rfl (by rfl) (.string (bstr (capB c))) (by have hcv:=b0o s2 _ rfl;unfold capB;go_simp) ?_
 refine rk hK hHeld fun hHeld=>?_
 clear hK K
 refine rc1 4 fun K hK=>?_
 refine i0m (some 9) rfl (by rfl) _ [capB c] (by have hss:=k0U (capB c) ww12;go_simp;rfl) rfl ?_;intro ww14 s4 hqw14
 refine rk hK ⟨hHeld.1.later hqw14 hHeld.1.lt,hHeld.2.later hqw14 hHeld.2.lt⟩ fun hHeld=>?_
 clear hK K
 have hB:=a0a hB hqw14
 have hB2:=a0a hB2 hqw14
 have hB4:Below ww14.heap.size ww14 ww14:=Below.refl _ _
 refine rc1 5 fun K hK=>?_
 go_simp
 refine (g0U key hk [99,97,118,101,97,116] _ 1 1 [capB c] _ (hT.later (hb1.trans (hB.mono hb1.size)) (f1F _)) s4 rfl (by have hz:=o0u hc;show (6+1)+(((c0F (cavF c)).length+1)+0)≤_;omega)).mono ?_;rintro e ww15 ⟨rfl,hqw15⟩;rw[show keyD key [99,97,118,101,97,116] [capB c]=d0U key c from rfl,←HV.out]
 try go_wp2_with fail
 refine hK.out _ _ ⟨hHeld.1.later hqw15 hHeld.1.lt,hHeld.2.later hqw15 hHeld.2.lt⟩ (fun hHeld=>?_)
 clear hK K
 have hB:=a0a hB hqw15
 have hB2:=a0a hB2 hqw15
 have hB4:=a0a hB4 hqw15
 have hB5:Below ww15.heap.size ww15 ww15:=Below.refl _ _
 refine rc1 6 fun K hK=>?_
 refine a0R none rfl (by rfl) 23 (.tmp 4) (.tmp 10) rfl _ 0 23 _ V rfl rfl (r3.later hB r3.lt) hfit.out hszl.out hone.out ?_;intro wf rf hgf;have hBz:=hB
 refine hK.out _ _ ⟨hHeld.1.grown hgf (by omega),hHeld.2.grown hgf (by omega)⟩ (fun hHeld=>?_)
 clear hK K
 rw[a0u]
 refine wpAnyH_done (by kernel_rfl) ?_ _
 refine NoPanic.normal ?_
 have r9:Row wf (w.heap.size+1+1) 23 V:=by rw[HVr.out] at rf;exact rf
 have hb9:=(hb1.trans (hBz.mono hb1.size)).grown hgf (Nat.le_trans hb1.size hBz.size) (fun k h=>by cases h;omega)
 have R9:=f1D (show wf.heap[(w.heap.size+1+1:Nat)]?=some (.cells V.toArray 23 (0,0)) from r9)
 clear r9 hgf rf hBz hHeld hb1
 go_wp2_with (with_reducible refine bodyPost_ret (results_cell_row rfl _ _ (w.heap.size+1+1) 23 V.toArray (0,0) (.array 32 5) rfl R9.out underlying23 rfl hsz2.out) rfl ?_)
 exact⟨by rw[HV.out],hb9⟩
theorem c1l (key:List UInt8) (hk:key.length=32) (t:Tok) (ht:t.Ok) (hi:t.id.length≤100000000) (hm:t.cavs.length≤1000000) (hcb:∀c∈t.cavs,capC c≤100000) (A:Option Addr) (c:Nat) (w:World) (hT:Tabs w) (hs:Sl w A (c*5) (t.cavs.flatMap cavV)) :
  Calls prog 24 #[.agg (byts key).toArray,.agg (tokV t A c).toArray] w fun e w'=>∃B d,e=.returned (.slice B (t.cavs.length+1) d)∧Sl w' B (d*32) (l0d (p0B key t))∧Below w.heap.size w w':=by
 obtain⟨i0,hi0,hz0,hsz0,hby0⟩:=t0m
 replace hT:=f1D hT
 have HTB:=hT
 clear hT
 obtain⟨X,hX⟩:∃X,X=tokV t A c:=⟨_,rfl⟩
 obtain⟨w1,hw1⟩:∃w1,w1=(w.alloc (.cells (byts key).toArray 23)).alloc (.cells X.toArray 29):=⟨_,rfl⟩
 obtain⟨r1,r2,hb1⟩:=c0V hw1.symm
 have HW:=f1D hw1
 have hc0:w1.cell? ⟨w.heap.size+1,0,none⟩=some (.int .u64 t.key):=by rw[r2.cell,hX];rfl
 have hc1:w1.cell? ⟨w.heap.size+1,1,none⟩=some (.string (bstr t.id)):=by rw[r2.cell,hX];rfl
 have hX2:=f1D (show X[2]?=some (.slice A t.cavs.length c) by rw[hX];rfl)
 have hkz:=f1D (show (prog.info? 23).map (·.size)=some (byts key).toArray.size by rw[List.size_toArray,a0U key hk];exact a0t)
 have R1:=f1D (show w1.heap[w.heap.size]?=some (.cells (byts key).toArray 23 (0,0)) from r1)
 have hst:=f1D (r0D key hk t.key ht.key t.id hi)
 have hTl:(p0B key t).length=t.cavs.length+1:=i0X _ _
 obtain⟨S0,hS0⟩:∃S0,S0=c0D key t.key t.id:=⟨_,rfl⟩
 have hS0l:S0.length=32:=by rw[hS0];exact c0u _ _ _
 have HT:=f1D (show p0B key t=h0l S0 t.cavs by rw[hS0];rfl)
 rw[←hS0] at hst
 have hnx:=f1D (fun (x:List UInt8) (hx:x.length=32) (cv:Cav) (hcv:cv∈t.cavs)=>w0y x hx cv (ht.party cv hcv) (hcb cv hcv))
 rw[←hX]
 generalize t.cavs=cs at *
 generalize p0B key t=TT at *
 generalize t.key=tk at *
 generalize t.id=ti at *
 clear hw1 hX r1 hcb ht hTl hS0
 have hSz:=f1D (show (prog.info? 23).map (·.size)=some (byts S0).toArray.size by rw[List.size_toArray,a0U S0 hS0l];exact a0t)
 have hS32:=f1D (show (32:Nat)=(byts S0).toArray.size by rw[List.size_toArray,a0U S0 hS0l])
 have hS1:=f1D (p0T S0)
 have tok1:True:=trivial
 go_enter func24,ntmps24
 go_wp2_with (first
  | (have _t:=tok1;rw[←HW.out];clear tok1)
  | (with_reducible refine wpList_load_row rfl 23 (.tmp 2) rfl w.heap.size rfl 23 (byts key).toArray (0,0) _ R1.out underlying23 rfl hkz.out ?_)
  | (go_at_call 39;refine (hst.out _ (HTB.out.later hb1 (f1F _))).mono ?_;rintro e w2 ⟨rfl,hb2⟩;have r2:=r2.later hb2 r2.lt;have hb2w:=hb1.trans (hb2.mono hb1.size))
  | (have _t:=hb2;with_reducible refine wpList_store_row rfl 23 (.tmp 5) (.tmp 14) rfl w2.heap.size (byts S0).toArray rfl rfl 23 _ (heap_alloc_new w2 _) hSz.out (Eq.trans (by kernel_rfl) hS32.out) hS1.out ?_;refine Hid.out ?_))
 refine f1D ?_
 generalize hw3:World.setRow _ _ _=w3
 obtain⟨r5,hb3⟩:=a0v (xs:=byts S0) hw3
 have l2:=r2.lt
 have r2:=r2.later hb3 r2.lt
 have hb3w:=hb2w.trans (hb3.mono hb2w.size)
 have R5:=f1D (show w3.heap[w2.heap.size]?=some (.cells (byts S0).toArray 23 (0,0)) from r5)
 have l5:=r5.lt
 generalize hG5:w2.heap.size=g5 at *
 clear hw3 hb3 hc0 hc1 hb2 hb2w hb1 HW R1 hst hkz
 go_wp2_with (first
  | (with_reducible refine wpList_load_row rfl 23 (.tmp 5) rfl g5 rfl 23 (byts S0).toArray (0,0) _ R5.out underlying23 rfl hSz.out ?_)
  | (refine f0y rfl 62 1 [_] rfl [(0,.agg (byts S0).toArray)] rfl _ (m0d (byts S0) (a0U S0 hS0l) w3) ?_;refine Hid.out ?_))
 refine f1D ?_
 have own4:=World.ownsRow_lit (base:=w3.heap.size) (e:=23) (size:=32) w3 (byts S0).toArray 1 (f1F _) (by decide) (by rw[List.size_toArray,a0U S0 hS0l])
 rw[List.toList_toArray] at own4
 have hb4:=(Below.refl w3.heap.size w3).alloc (f1F _) (.cells (byts S0).toArray 23)
 generalize w3.alloc (.cells (byts S0).toArray 23)=w4 at *
 have hc2:w4.cell? ⟨w.heap.size+1,2,none⟩=some (.slice A cs.length c):=by rw[(r2.later hb4 r2.lt).cell,hX2.out]
 have r5:=r5.later hb4 l5
 have hb4w:=hb3w.trans (hb4.mono hb3w.size)
 have hb43:=hb4.size
 generalize hbs:w3.heap.size=bs at *
 clear r2 R5 hb3w hb4 hSz hS32 hS1 hG5 hX2
 go_wp2_with fail
 clear hc2
 go_loopw [6,20] (fun o i wr=>∃k:Nat,k≤cs.length∧i=.int .i64 k∧wr.ownsRow bs 23 32 o (k+1) (l0d (h0l S0 (cs.take k)))∧Row wr g5 23 (byts (endF S0 (cs.take k)))∧bs≤wr.heap.size∧Below w.heap.size w wr) (fun _ i _=>cs.length - (intOf i).toNat)
 case atStart=>exact⟨0,by omega,rfl,by rw[List.take_zero];show World.ownsRow _ _ _ _ _ _ (l0d [S0]);rw[p0C];exact own4,by rw[List.take_zero];exact r5,hb43,hb4w⟩
 case round =>
  clear own4 r5 hb43 hb4w
  obtain⟨k,hkl,rfl,own,r5,hB,hb⟩:=hrel
  by_cases hlt:k < cs.length
  ·obtain⟨cv,hcv⟩:∃cv,cs[k]?=some cv:=⟨_,List.getElem?_eq_getElem hlt⟩
   obtain⟨b,o,rfl,hb0,hr0⟩:=hs.rd.get (i:=0) (by rw[b0P];omega)
   clear hb0 hr0
   have hix:=f0C (some ⟨b,o,none⟩) b o cs.length c k rfl hlt
   have hrg:=(hs.later (f1F _) hb).thing (k:=5) (fun _ _=>rfl) k cv hcv
   obtain⟨x,hx⟩:∃x,x=endF S0 (cs.take k):=⟨_,rfl⟩
   have hxl:x.length=32:=by rw[hx];exact k0p _ _ hS0l
   have hT:=y0o S0 cs k cv hcv
   rw[←hx] at hT
   have hcall:=f1D (hnx.out x hxl cv (List.mem_of_getElem? hcv))
   obtain⟨y,hy⟩:∃y,y=d0U x cv:=⟨_,rfl⟩
   have hyl:y.length=32:=by rw[hy];exact c0r _ _
   rw[←hy] at hcall hT
   rw[←hx] at r5
   have HT1:=f1D hT.1
   have HT2:=f1D hT.2
   have hzf:=f1D (show (prog.info? 43).map (·.size)=some (cavV cv).length from c0C)
   have hzf2:=f1D (show (prog.info? 43).map (·.size)=some (cavV cv).toArray.size from c0C)
   have hof:=f1D (show (cavV cv).toArray.all (·.oneCell')=true from b0d (fun v hv=>f0Q [cv] v (by simpa using hv)))
   obtain⟨V2,hV2q⟩:∃V,V=cavV cv:=⟨_,rfl⟩
   rw[←hV2q] at hrg hcall hzf hzf2 hof
   have hV2:=f1D (show (5:Nat)=V2.toArray.size by rw[hV2q];rfl)
   clear hV2q hcv hT hx hy
   go_wp2_with (first
    | (with_reducible refine wpList_load_mid rfl 43 (.tmp 22) rfl b (o+k*5) rfl V2 _ hrg underlying43 rfl hzf.out ?_)
    | (with_reducible refine wpList_store_row rfl 43 (.tmp 8) (.tmp 23) rfl wr.heap.size V2.toArray rfl rfl 43 _ (heap_alloc_new wr _) hzf2.out (Eq.trans (by kernel_rfl) hV2.out) hof.out ?_;refine Hid.out ?_))
   refine f1D ?_
   generalize hw5:World.setRow _ _ _=w5
   obtain⟨r8,hb5⟩:=a0v (xs:=V2) hw5
   have own:=c0p own hb5 (f1F _)
   have r5:=r5.later hb5 r5.lt
   have hB:=Nat.le_trans hB hb5.size
   have hb:=hb.trans (hb5.mono hb.size)
   have R8:=f1D (show w5.heap[wr.heap.size]?=some (.cells V2.toArray 43 (0,0)) from r8)
   have R5:=f1D (show w5.heap[g5]?=some (.cells (byts x).toArray 23 (0,0)) from r5)
   have hSx:=f1D (show (prog.info? 23).map (·.size)=some (byts x).toArray.size by rw[List.size_toArray,a0U x hxl];exact a0t)
   have hSy:=f1D (show (prog.info? 23).map (·.size)=some (byts y).toArray.size by rw[List.size_toArray,a0U y hyl];exact a0t)
   have hxy:=f1D (show (byts x).toArray.size=(byts y).toArray.size by rw[List.size_toArray,List.size_toArray,a0U x hxl,a0U y hyl])
   have hy1:=f1D (p0T y)
   clear hw5 hrg hix hb5 r8 hs hzf hof hV2 hnx
   go_wp2_with (first
    | (with_reducible refine wpList_load_row rfl 23 (.tmp 5) rfl g5 rfl 23 (byts x).toArray (0,0) _ R5.out underlying23 rfl hSx.out ?_)
    | (with_reducible refine wpList_load_row rfl 43 (.tmp 8) rfl wr.heap.size rfl 43 V2.toArray (0,0) _ R8.out underlying43 rfl hzf2.out ?_)
    | (go_at_call 31;refine (hcall.out _ (HTB.out.later hb (f1F _))).mono ?_;rintro e w6 ⟨rfl,hb6⟩;have own:=c0p own hb6 (f1F _);have r5:=r5.later hb6 r5.lt;have hB:=Nat.le_trans hB hb6.size;have hb:=hb.trans (hb6.mono hb.size);have R6:=f1D (show w6.heap[g5]?=some (.cells (byts x).toArray 23 (0,0)) from r5))
    | (have _t:=R6;with_reducible refine wpList_store_row rfl 23 (.tmp 5) (.tmp 26) rfl g5 (byts y).toArray rfl rfl 23 (byts x).toArray R6.out hSy.out hxy.out hy1.out ?_;refine Hid.out ?_))
   refine f1D ?_
   generalize hw7:World.setRow _ _ _=w7
   obtain⟨r5,hg7⟩:=a0y r5 hw7
   have own:=i0I own hg7 l5
   have hB:=Nat.le_trans hB hg7.size
   have hb:=hb.grown hg7 hb.size (fun j h=>by cases h;omega)
   have R7:=f1D (show w7.heap[g5]?=some (.cells (byts y).toArray 23 (0,0)) from r5)
   clear hw7 R5 R6 R8 hg7 hcall hxy
   go_wp2_with (first
    | (with_reducible refine wpList_load_row rfl 23 (.tmp 5) rfl g5 rfl 23 (byts y).toArray (0,0) _ R7.out underlying23 rfl hSy.out ?_)
    | (refine f0y rfl 62 1 [_] rfl [(0,.agg (byts y).toArray)] rfl _ (m0d (byts y) (a0U y hyl) w7) ?_;refine Hid.out ?_))
   refine f1D ?_
   have hb8:=(Below.refl w7.heap.size w7).alloc (f1F _) (.cells (byts y).toArray 23)
   have s8:Sl (w7.alloc (.cells (byts y).toArray 23)) (some ⟨w7.heap.size,0,none⟩) (1*32) (byts y):=d0c (byts y) rfl 32 (a0U y hyl)
   generalize w7.alloc (.cells (byts y).toArray 23)=w8 at *
   have own:=c0p own hb8 (f1F _)
   have r5:=r5.later hb8 r5.lt
   have hB:=Nat.le_trans hB hb8.size
   have hb:=hb.trans (hb8.mono hb.size)
   have n1:k+1+1≤maxLen:=by unfold maxLen;omega
   have n2:(k+1+1)*32≤140737488355328:=by omega
   have hfy:=a0U y hyl
   clear R7 hb8
   go_wp2_with (at_builtin;refine g0O rfl (.tmp 27) (.tmp 29) 62 rfl bs 23 i0 _ 32 32 underlying62 hi0 hz0 hsz0 (by omega) hby0 rfl _ (k+1) (l0d (h0l S0 (cs.take k))) rfl own (some ⟨w7.heap.size,0,none⟩) 1 1 (byts y) rfl hfy s8 (a0o y) n1 n2 hB ?_;intro v9 w9 own9 hg9;have own9:=f1D own9;have r9:=f1D (Row.kept r5 hg9 (fun j hj e=>by have:=(own.lt j hj).1;omega));have hb9:=f1D (hb.grown hg9 hb.size (fun j hj=>by have:=(own.lt j hj).1;omega));have hB9:=f1D (Nat.le_trans hB hg9.size);clear hg9)
   go_roundw
   case rel=>exact⟨k+1,by omega,by go_num,by rw[HT1.out,y0n,p0C];exact own9.out,by rw[HT2.out];exact r9.out,hB9.out,hb9.out⟩
   case measure=>simp[intOf];omega
  ·obtain rfl:k=cs.length:=by omega
   rw[List.take_length,←HT.out] at own
   obtain⟨B,d,rfl,-,s⟩:=Sl.of_ownk own
   clear hlt own r5 hs hm hnx HT
   generalize hn:cs.length=n at *
   go_wp2
   go_ret
   exact⟨B,d,by rw[hn];rfl,s,hb⟩
theorem o0C (l:List (List UInt8)) (h:∀u∈l,(byts u).length=32):(l0d l).length=l.length*32:=by
 induction l with
 | nil=>rfl
 | cons a l ih =>
  show (byts a++l0d l).length=(l.length+1)*32
  rw[List.length_append,ih (fun u hu=>h u (List.mem_cons_of_mem _ hu)),h a List.mem_cons_self];omega
theorem t0l (A:Option Addr) (b o n c k:Nat) (hA:A=some ⟨b,o,none⟩) (hk:k < n) (w:World) :
  (Instr.indexAt 62 (.slice A n c) (.int .i64 k)).run prog w=.ok (.pointer (some ⟨b,o+k*32,none⟩)) w:=by
 subst hA
 have h:(k:Int) < (n:Int):=by omega
 go_simp
theorem d1G (key:List UInt8) (hk:key.length=32) (t:Tok) (ht:t.Ok) (hi:t.id.length≤100000000) (hm:t.cavs.length≤1000000) (hcb:∀c∈t.cavs,capC c≤100000) (A:Option Addr) (c:Nat) (w:World) (hT:Tabs w) (hs:Sl w A (c*5) (t.cavs.flatMap cavV)) :
  Calls prog 13 #[.agg (byts key).toArray,.agg (tokV t A c).toArray] w fun e w'=>e=.returned (.agg (byts (endT key t)).toArray)∧Below w.heap.size w w':=by
 obtain⟨X,hX⟩:∃X,X=tokV t A c:=⟨_,rfl⟩
 have hXl:X.length=36:=by rw[hX];exact a0n ht A c
 have hzX:=f1D (show (prog.info? 29).map (·.size)=some X.toArray.size by rw[List.size_toArray,hXl];exact a0I)
 have hel:(endT key t).length=32:=k0p _ _ (c0u _ _ _)
 have hkz:=f1D (show (prog.info? 23).map (·.size)=some (byts key).toArray.size by rw[List.size_toArray,a0U key hk];exact a0t)
 have hez:=f1D (show (prog.info? 23).map (·.size)=some (byts (endT key t)).length by rw[a0U _ hel];exact a0t)
 have hez2:=f1D (show (prog.info? 23).map (·.size)=some (byts (endT key t)).toArray.size by rw[List.size_toArray,a0U _ hel];exact a0t)
 have hes:=f1D (show (List.replicate 32 (Value.int .u8 0)).toArray.size=(byts (endT key t)).toArray.size by rw[List.size_toArray,List.size_toArray,a0U _ hel];rfl)
 have he1:=f1D (p0T (endT key t))
 have htg:=f1D (fun w1 (hb1:Below w.heap.size w w1)=>c1l key hk t ht hi hm hcb A c w1 (hT.later hb1 (f1F _)) (hs.later (f1F _) hb1))
 have hla:=f1D (show (p0B key t)[t.cavs.length]?=some (endT key t) from y0l _ _)
 have hfl:=f1D (show ∀u∈p0B key t,(byts u).length=32 from fun u hu=>a0U u (y0m _ _ (c0u _ _ _) u hu))
 have hln:=f1D (show (p0B key t).length=t.cavs.length+1 from i0X _ _)
 rw[←hX] at htg ⊢
 clear hX hXl hT hs hcb hel
 have hsub:IntKind.i64.wrap (((t.cavs.length+1:Nat):Int) - 1)=(t.cavs.length:Int):=by rw[IntKind.wrap_i64];omega
 generalize t.cavs.length=n at *
 generalize p0B key t=TT at *
 generalize endT key t=EE at *
 go_enter func13,ntmps13
 go_upto_region 1 with fail
 generalize hw1:World.alloc (World.alloc (World.alloc _ _) _) _=w1
 obtain⟨r1,r2,r3,hb1,-⟩:=i0i (C:=List.replicate 32 (Value.int .u8 0)) hw1
 have R1:=f1D (show w1.heap[w.heap.size]?=some (.cells (byts key).toArray 23 (0,0)) from r1)
 have R2:=f1D (show w1.heap[w.heap.size+1]?=some (.cells X.toArray 29 (0,0)) from r2)
 clear hw1 r1 r2
 go_wp2_with (first
  | (with_reducible refine wpList_load_row rfl 23 (.tmp 2) rfl w.heap.size rfl 23 (byts key).toArray (0,0) _ R1.out underlying23 rfl hkz.out ?_)
  | (with_reducible refine wpList_load_row rfl 29 (.tmp 3) rfl (w.heap.size+1) rfl 29 X.toArray (0,0) _ R2.out underlying29 rfl hzX.out ?_)
  | (go_at_call 24;refine (htg.out _ hb1).mono ?_;rintro e w2 ⟨B,d,rfl,s2,hq⟩;have r3:=r3.later hq r3.lt;have hb2:=hb1.trans (hq.mono hb1.size);refine Hid.out ?_))
 refine f1D ?_
 obtain⟨b,o,rfl,hb0,hr0⟩:=s2.rd.get (i:=0) (by rw[o0C TT hfl.out,hln.out];omega)
 clear hb0 hr0
 have hix:=t0l (some ⟨b,o,none⟩) b o (n+1) d n rfl (by omega)
 have hrg:=f1D (s2.thing (k:=32) hfl.out n EE hla.out)
 have R3:=f1D (show w2.heap[w.heap.size+1+1]?=some (.cells (List.replicate 32 (Value.int .u8 0)).toArray 23 (0,0)) from r3)
 have HB:=f1D hb2
 clear r3 hb1 s2 htg hla hfl hln hb2 hq R1 R2
 go_wp2_with (first
  | (with_reducible refine wpList_load_mid rfl 23 (.tmp 13) rfl b (o+n*32) rfl (byts EE) _ hrg.out underlying23 rfl hez.out ?_)
  | (with_reducible refine wpList_store_row rfl 23 (.tmp 4) (.tmp 14) rfl (w.heap.size+1+1) (byts EE).toArray rfl rfl 23 (List.replicate 32 (Value.int .u8 0)).toArray R3.out hez2.out hes.out he1.out ?_;refine Hid.out ?_))
 refine f1D ?_
 generalize hw8:World.setRow _ _ _=w8
 obtain⟨r8,hg8⟩:=a0y (xs:=byts EE) (show Row w2 (w.heap.size+1+1) 23 (List.replicate 32 (Value.int .u8 0)) from R3.out) hw8
 have hb8:=HB.out.grown hg8 HB.out.size (fun k h=>by cases h;omega)
 have R8:=f1D (show w8.heap[w.heap.size+1+1]?=some (.cells (byts EE).toArray 23 (0,0)) from r8)
 clear hw8 r8 R3
 go_wp2_with (with_reducible refine bodyPost_ret (results_cell_row rfl _ _ (w.heap.size+1+1) 23 (byts EE).toArray (0,0) (.array 32 5) rfl R8.out underlying23 rfl hez2.out) rfl ?_)
def tok0 (n:Nat) (id:List UInt8):Tok:=⟨n,id,[],false,List.replicate 32 0⟩
theorem d1c (n:Nat) (hn:n < 18446744073709551616) (id:List UInt8):(tok0 n id).Ok:=⟨hn,(fun c h=>by cases h),rfl⟩
theorem a1S (n:Nat) (id:List UInt8):errT (tok0 n id)=b0C id:=by
 unfold errT b0C
 have h:d0O (tok0 n id)=decide (id.length≤1024):=by
  show (decide (id.length≤1024)&&true&&true)=_
  rw[Bool.and_true,Bool.and_true]
 rw[h]
 by_cases hb:id.length≤1024
 ·rw[decide_eq_true hb,if_pos rfl,if_neg (by omega)]
 ·rw[decide_eq_false hb,if_neg (by decide),if_pos (by omega)]
theorem s0I (n:Nat) (id:List UInt8) (w:World):(Instr.build 29 #[(0,.int .u64 (n:Int)),(1,.string (bstr id))]).run prog w=.ok (.agg (tokV (tok0 n id) none 0).toArray) w:=by go_simp;rfl
theorem c1j (key:List UInt8) (hk:key.length=32) (n:Nat) (hn:n < 18446744073709551616) (id:List UInt8) (hi:id.length≤100000000) (w:World) (hT:Tabs w) :
  Calls prog 14 #[.agg (byts key).toArray,.int .u64 (n:Int),.string (bstr id)] w (b0L (c0R key n id) (b0C id) w):=by
 obtain⟨Z,hZ⟩:∃Z,Z=tokV b0l none 0:=⟨_,rfl⟩
 have hZl:Z.length=36:=by rw[hZ];exact a0n b0Z none 0
 have hZe:=f1D (hZ.trans ztok)
 have hzZ:=f1D (show (prog.info? 29).map (·.size)=some Z.toArray.size by rw[List.size_toArray,hZl];exact a0I)
 have hZ1:=f1D (show Z.toArray.all (·.oneCell')=true by rw[hZ,List.all_toArray,List.all_eq_true];exact a0X _ _ _)
 have HZ:=f1D hZ
 have ho0:=d1c n hn id
 obtain⟨U,hU⟩:∃U,U=tokV (tok0 n id) none 0:=⟨_,rfl⟩
 have hUl:U.length=36:=by rw[hU];exact a0n ho0 none 0
 have hzU:=f1D (show (prog.info? 29).map (·.size)=some U.toArray.size by rw[List.size_toArray,hUl];exact a0I)
 have hU1:=f1D (show U.toArray.all (·.oneCell')=true by rw[hU,List.all_toArray,List.all_eq_true];exact a0X _ _ _)
 have hU36:=f1D (show (36:Nat)=U.toArray.size by rw[List.size_toArray,hUl])
 have hbl:=f1D (fun w'=>s0I n id w')
 have hck:=f1D (fun w'=>l0V (tok0 n id) ho0 ⟨by show id.length≤_;omega,by show (0:Nat)≤_;omega,fun c h=>by cases h⟩ none 0 w' ⟨.inl rfl,f1F _,fun _=>rfl⟩)
 have hen:=f1D (fun w' h=>d1G key hk (tok0 n id) ho0 (by show id.length≤_;omega) (by show (0:Nat)≤_;omega) (fun c h=>by cases h) none 0 w' h ⟨.inl rfl,f1F _,fun _=>rfl⟩)
 rw[a1S] at hck
 rw[show endT key (tok0 n id)=c0D key n id from rfl] at hen
 rw[←hU] at hbl hck hen
 have hput:=f1D (show ∀g:List UInt8,g.length=32→splice U 4 (byts g)=tokV ⟨n,id,[],false,g⟩ none 0 from fun g hg=>by rw[hU];exact h0J (tok0 n id) none 0 g ho0 hg)
 obtain⟨w1,hw1⟩:∃w1,w1=(w.alloc (.cells (byts key).toArray 23)).alloc (.cells Z.toArray 29):=⟨_,rfl⟩
 obtain⟨r1,r2,hb1⟩:=c0V hw1.symm
 have HW:=f1D (hw1.trans (by rw[hZe.out]))
 have hkz:=f1D (show (prog.info? 23).map (·.size)=some (byts key).toArray.size by rw[List.size_toArray,a0U key hk];exact a0t)
 have tok1:True:=trivial
 have HT:=f1D hT
 clear hw1 hZ hU hT ho0
 go_enter func14,ntmps14
 go_wp2_with (first
  | (have _t:=tok1;rw[←HW.out];clear tok1)
  | (refine b0g rfl 29 0 1 (.tmp 10) (.tmp 11) rfl (.int .u64 (n:Int)) (.string (bstr id)) (.agg U.toArray) rfl rfl (hbl.out _) ?_)
  | (with_reducible refine wpList_store_row rfl 29 (.tmp 8) (.tmp 12) rfl w1.heap.size U.toArray rfl rfl 29 _ (heap_alloc_new w1 _) hzU.out (Eq.trans (by kernel_rfl) hU36.out) hU1.out ?_;refine Hid.out ?_))
 refine f1D ?_
 generalize hw2:World.setRow _ _ _=w2
 obtain⟨r8,hq⟩:=a0v (xs:=U) hw2
 have r1:=r1.later hq r1.lt
 have l2:=r2.lt
 have r2:=r2.later hq r2.lt
 have hb2:=hb1.trans (hq.mono hb1.size)
 have R8:=f1D (show w2.heap[w1.heap.size]?=some (.cells U.toArray 29 (0,0)) from r8)
 generalize hG8:w1.heap.size=g8 at *
 clear hw2 hq hbl hb1 HW hG8
 go_wp2_with (first
  | (with_reducible refine wpList_load_row rfl 29 (.tmp 8) rfl g8 rfl 29 U.toArray (0,0) _ R8.out underlying29 rfl hzU.out ?_)
  | (go_at_call 25;refine (hck.out _).mono ?_;rintro e w3 ⟨rfl,hq⟩;have r1:=r1.later hq r1.lt;have r2:=r2.later hq r2.lt;have r8:=r8.later hq r8.lt;have hb3:=hb2.trans (hq.mono hb2.size);clear hq;refine Hid.out ?_))
 refine f1D ?_
 have R1:=f1D (show w3.heap[w.heap.size]?=some (.cells (byts key).toArray 23 (0,0)) from r1)
 have R2:=f1D (show w3.heap[w.heap.size+1]?=some (.cells Z.toArray 29 (0,0)) from r2)
 have R8:=f1D (show w3.heap[g8]?=some (.cells U.toArray 29 (0,0)) from r8)
 clear hb2 hck
 by_cases hb:1024 < id.length
 ·have HE:=f1D (show b0C id=1 by unfold b0C;rw[if_pos hb])
  have HG:=f1D (show c0R key n id=b0l by unfold c0R;rw[if_pos hb])
  have he:=HE.out
  generalize c0R key n id=UU at *
  generalize b0C id=er at *
  have hne:(er != 0)=true:=by rw[he];rfl
  clear he
  go_wp2_with (have _t:=R2;refine wpList_store_row rfl 29 (.tmp 6) (.tmp 17) rfl (w.heap.size+1) Z.toArray rfl (by rw[hZe.out];rfl) 29 Z.toArray R2.out hzZ.out rfl hZ1.out ?_;refine Hid.out ?_)
  refine f1D ?_
  generalize hw8:World.setRow _ _ _=w8
  obtain⟨r9,hg8⟩:=a0y (show Row w3 (w.heap.size+1) 29 Z from R2.out) hw8
  have hb8:=hb3.grown hg8 hb3.size (fun k h=>by cases h;omega)
  have R9:=f1D (show w8.heap[w.heap.size+1]?=some (.cells Z.toArray 29 (0,0)) from r9)
  clear hw8 r9 R2
  go_wp2_with fail
  exact⟨rfl,_,a0d rfl _ _ (w.heap.size+1) 29 Z.toArray (0,0) _ rfl R9.out underlying29 rfl hzZ.out _ rfl,none,0,by rw[HG.out,HZ.out];rfl,by rw[HG.out];exact c0x _,(fun a h=>by cases h),hb8⟩
 ·have HE:=f1D (show b0C id=0 by unfold b0C;rw[if_neg hb])
  have HG:=f1D (show c0R key n id=⟨n,id,[],false,c0D key n id⟩ by unfold c0R;rw[if_neg hb])
  have hsl:=c0u key n id
  have HP:=f1D (hput.out _ hsl)
  obtain⟨V,hV⟩:∃V,V=tokV ⟨n,id,[],false,c0D key n id⟩ none 0:=⟨_,rfl⟩
  have hVl:V.length=36:=by rw[hV];exact a0n ⟨hn,(fun c h=>by cases h),hsl⟩ none 0
  have hzV:=f1D (show (prog.info? 29).map (·.size)=some V.toArray.size by rw[List.size_toArray,hVl];exact a0I)
  have hV1:=f1D (show V.toArray.all (·.oneCell')=true by rw[hV,List.all_toArray,List.all_eq_true];exact a0X _ _ _)
  have hVZ:=f1D (show Z.toArray.size=V.toArray.size by rw[List.size_toArray,List.size_toArray,hVl,hZl])
  rw[←hV] at HP
  have HV:=f1D hV
  have hSz:=f1D (show (prog.info? 23).map (·.size)=some (byts (c0D key n id)).length by rw[a0U _ hsl];exact a0t)
  have hS1:=f1D (a0o (c0D key n id))
  have hfit:=f1D (show 4+(byts (c0D key n id)).length≤U.length by rw[a0U _ hsl,hUl];exact f1F _)
  have he:=HE.out
  clear hV hVl hsl hUl hZl
  generalize c0R key n id=UU at *
  generalize c0D key n id=st at *
  generalize b0C id=er at *
  have hne:(er != 0)=false:=by rw[he];rfl
  clear he
  go_wp2_with (first
   | (with_reducible refine wpList_load_row rfl 23 (.tmp 3) rfl w.heap.size rfl 23 (byts key).toArray (0,0) _ R1.out underlying23 rfl hkz.out ?_)
   | (with_reducible refine wpList_load_row rfl 29 (.tmp 8) rfl g8 rfl 29 U.toArray (0,0) _ R8.out underlying29 rfl hzU.out ?_)
   | (go_at_call 13;refine (hen.out _ (HT.out.later hb3 (f1F _))).mono ?_;rintro e w4 ⟨rfl,hq⟩;have r2:=r2.later hq r2.lt;have r8:=r8.later hq r8.lt;have hb4:=hb3.trans (hq.mono hb3.size);clear hq)
   | (have _t:=hb4;refine d0N rfl 23 (.tmp 22) (.tmp 21) rfl g8 4 29 U (byts st) rfl rfl r8 hfit.out hSz.out hS1.out ?_;intro w5 r5 hg5;refine Hid.out ?_))
  refine f1D ?_
  have r5:Row w5 g8 29 V:=by rw[HP.out] at r5;exact r5
  have r2:=r2.grown hg5 (by omega)
  have hb5:=hb4.grown hg5 hb4.size (fun k h=>by cases h;omega)
  have K5:=f1D (show w5.heap[g8]?=some (.cells V.toArray 29 (0,0)) from r5)
  have Q2:=f1D (show w5.heap[w.heap.size+1]?=some (.cells Z.toArray 29 (0,0)) from r2)
  clear hg5 r5 hen R1 R2 R8 HP hfit hSz hS1 r1 r8
  go_wp2_with (first
   | (with_reducible refine wpList_load_row rfl 29 (.tmp 8) rfl g8 rfl 29 V.toArray (0,0) _ K5.out underlying29 rfl hzV.out ?_)
   | (have _t:=Q2;refine wpList_store_row rfl 29 (.tmp 6) (.tmp 23) rfl (w.heap.size+1) V.toArray rfl rfl 29 Z.toArray Q2.out hzV.out hVZ.out hV1.out ?_;refine Hid.out ?_))
  refine f1D ?_
  generalize hw8:World.setRow _ _ _=w8
  obtain⟨r9,hg8⟩:=a0y (show Row w5 (w.heap.size+1) 29 Z from Q2.out) hw8
  have hb8:=hb5.grown hg8 hb5.size (fun k h=>by cases h;omega)
  have R9:=f1D (show w8.heap[w.heap.size+1]?=some (.cells V.toArray 29 (0,0)) from r9)
  clear hw8 r9 Q2
  go_wp2_with fail
  exact⟨rfl,_,a0d rfl _ _ (w.heap.size+1) 29 V.toArray (0,0) _ rfl R9.out underlying29 rfl hzV.out _ rfl,none,0,by rw[HE.out,HG.out,HV.out];rfl,by rw[HG.out];exact⟨.inl rfl,f1F _,fun _=>rfl⟩,(fun a h=>by cases h),hb8⟩
theorem l0q {P:Program} (w:World) (base:Nat) (t ty e:TypeId) (i:TypeInfo) (z:Value) (k bytes:Nat) (ht:P.underlying t=some (.slice e)) (hi:P.info? e=some i) (hz:i.zero=some z)
  (hsize:i.size=k) (hk:0 < k) (hby:i.bytes=bytes) (hzs:z.cells.size=k) (v:Value) (n:Nat) (xs:List Value) (hown:w.ownsRow base e k v n xs)
  (ad:Addr) (c:Nat) (news:List Value) (hm:news.length=k) (hsl:Sl w (some ad) (c*k) news) (h1:∀u∈news,u.oneCell'=true)
  (h63:n+1≤maxLen) (hbytes:(n+1)*bytes≤140737488355328) (hbase:base≤w.heap.size) :
  ∃v' w',(Builtin.append_ #[t,t] ty #[v,.slice (some ad) 1 c]).run P w=.ok v' w'∧w'.ownsRow base e k v' (n+1) (xs++news)∧w.grownBy w' v.ownBlock∧(∀g',v'.ownBlock=some g'→v.ownBlock=some g'∨w.heap.size≤g'):=by
 obtain⟨v',w',hrun,h2,h3,_⟩:=run_append_own (P:=P) w base t ty e i z k bytes ht hi hz hsize hby hzs hk v n xs hown ad 1 c news (by omega) hsl.rd.at_add h1 h63 hbytes hbase
 refine⟨v',w',hrun,h2,h3,?_⟩
 subst hsize hby
 rcases hown.2 with ⟨rfl,rfl⟩ | ⟨g,cap,cur,rfl,hbg,hg,hnc,hcm,hcs,htake⟩
 ·have hr:=run_append_nil (P:=P) w t ty e i z ht hi hz ad 1 c news (by omega) hsl.rd.at_add (by omega) (by omega) (by omega)
  rw[hr] at hrun
  injection hrun with hv _
  subst hv
  intro g' hg'
  cases hg'
  exact .inr (f1F _)
 ·by_cases hroom:n+1≤cap
  ·have hfit:n*i.size+news.length≤cur.size:=by
    have h4:(n+1)*i.size≤cap*i.size:=Nat.mul_le_mul_right _ hroom
    rw[hcs,hm]
    rw[Nat.succ_mul] at h4;omega
   have hr:=run_append_room (P:=P) w t ty e i ht hi g n cap cur hg ad 1 c news (by omega) hsl.rd.at_add h1 hroom hfit
   rw[hr] at hrun
   injection hrun with hv _
   subst hv
   exact fun g' hg'=>.inl hg'
  ·have holds:∀j u,xs[j]?=some u→w.cell? ((⟨g,0,none⟩:Addr).add j)=some u:=hown.cells (g:=g) rfl
   have hsmall:n+1≤9223372036854775807:=by simp only[maxLen] at h63;omega
   have hr:=run_append_grow (P:=P) w t ty e i z ht hi hz ⟨g,0,none⟩ n cap xs hown.1 holds ad 1 c news (by omega) hsl.rd.at_add (by omega) (by omega) (growslice_fits (by omega) hbytes)
   rw[hr] at hrun
   injection hrun with hv _
   subst hv
   intro g' hg'
   cases hg'
   exact .inr (f1F _)
theorem i0N {P:Program} {w:World} {ops:Array Oper} {rest:List Oper} {o:Oper} {a:Act} {Q:Exit→Act→World→Prop} (hgd:o.guard=none) (s x:Operand) (t:TypeId)
  (ho:o.op=.call { callee:=.builtin .append,args:=#[s,x],argTypes:=#[t,t] })
  (base:Nat) (e:TypeId) (i:TypeInfo) (z:Value) (k bytes:Nat) (ht:P.underlying t=some (.slice e)) (hi:P.info? e=some i) (hz:i.zero=some z)
  (hsize:i.size=k) (hk:0 < k) (hby:i.bytes=bytes) (hzs:z.cells.size=k) (v:Value) (n:Nat) (xs:List Value) (hs:a.eval s=v) (hown:w.ownsRow base e k v n xs)
  (ad:Addr) (c:Nat) (news:List Value) (hx:a.eval x=.slice (some ad) 1 c) (hm:news.length=k) (hsl:Sl w (some ad) (c*k) news) (h1:∀u∈news,u.oneCell'=true)
  (h63:n+1≤maxLen) (hbytes:(n+1)*bytes≤140737488355328) (hbase:base≤w.heap.size)
  (h:∀v' w',w'.ownsRow base e k v' (n+1) (xs++news)→w.grownBy w' v.ownBlock→(∀g',v'.ownBlock=some g'→v.ownBlock=some g'∨w.heap.size≤g')→wpList P ops Q rest (a.put o.dst v') w'):wpList P ops Q (o :: rest) a w:=by
 refine wpList_plain hgd fun _ hK=>?_
 obtain⟨v',w',hrun,h2,h3,h4⟩:=l0q (P:=P) w base t o.type e i z k bytes ht hi hz hsize hk hby hzs v n xs hown ad c news hm hsl h1 h63 hbytes hbase
 unfold Oper.wp execOp
 simp only[ho,resolve,invoke,builtin,Sem.run_bind,Sem.run_pure,Result.andThen_ok,List.map_toArray,List.map_cons,List.map_nil,hs,hx,hrun]
 exact hK _ _ (h v' w' h2 h3 h4)
theorem b1h (t:Tok) (ht:t.Ok) (cv:Cav) (hp:cv.party < 18446744073709551616) (hcv:capC cv≤100000) (hm:t.cavs.length≤1000000) (hft:({ t with cavs:=t.cavs++[cv] } : Tok).Fit) (A:Option Addr) (c:Nat) (w:World) (hT:Tabs w) (hs:Sl w A (c*5) (t.cavs.flatMap cavV)) :
  Calls prog 19 #[.agg (tokV t A c).toArray,.agg (cavV cv).toArray] w (b0L (addT t cv) (b0B t cv) w):=by
 obtain⟨i0,hi,hz0,hsz0,hby0⟩:=m0K
 obtain⟨Z,hZ⟩:∃Z,Z=tokV b0l none 0:=⟨_,rfl⟩
 have hZl:Z.length=36:=by rw[hZ];exact a0n b0Z none 0
 have hZe:=f1D (hZ.trans ztok)
 have hzZ:=f1D (show (prog.info? 29).map (·.size)=some Z.toArray.size by rw[List.size_toArray,hZl];exact a0I)
 have hZ1:=f1D (show Z.toArray.all (·.oneCell')=true by rw[hZ,List.all_toArray,List.all_eq_true];exact a0X _ _ _)
 obtain⟨X,hX⟩:∃X,X=tokV t A c:=⟨_,rfl⟩
 have hXl:X.length=36:=by rw[hX];exact a0n ht A c
 have hzX2:=f1D (show (prog.info? 29).map (·.size)=some X.toArray.size by rw[List.size_toArray,hXl];exact a0I)
 obtain⟨w1,hw1⟩:∃w1,w1=((w.alloc (.cells X.toArray 29)).alloc (.cells (cavV cv).toArray 43)).alloc (.cells Z.toArray 29):=⟨_,rfl⟩
 obtain⟨r1,r2,r3,hb1,hs1⟩:=i0i hw1.symm
 have HW:=f1D (hw1.trans (by rw[hZe.out]))
 have ts:=hs.later (f1F _) hb1
 have hc3:w1.cell? ⟨w.heap.size,3,none⟩=some (.bool t.bound):=by rw[r1.cell,hX];rfl
 have Hcl:=f1D (show ∀w',Sl w' A (c*5) (t.cavs.flatMap cavV)→Calls prog 30 #[.agg X.toArray] w' fun e w''=>∃B d,e=.returned (.agg (tokV t B d).toArray)∧w''.ownsRow w'.heap.size 43 5 (.slice B t.cavs.length d) t.cavs.length (t.cavs.flatMap cavV)∧Below w'.heap.size w' w'' by
  rw[hX];exact fun w' h=>t0T t ht hm A c w' h)
 have HZ:=f1D hZ
 have HX:=f1D hX
 have HTB:=f1D hT
 rw[←hX]
 clear hw1 hZ hX hs hT
 have Q3:=f1D (show w1.heap[w.heap.size+1+1]?=some (.cells Z.toArray 29 (0,0)) from r3)
 have tok1:True:=trivial
 cases hbd:t.bound with
 | true =>
  have HE:=f1D (show b0B t cv=6 by unfold b0B;rw[if_pos hbd])
  have HG:=f1D (show addT t cv=b0l by unfold addT;rw[HE.out];rfl)
  rw[hbd] at hc3
  clear r1 r2 r3 ts hXl hZl Hcl
  generalize addT t cv=U at *
  generalize b0B t cv=er at *
  go_enter func19,ntmps19
  go_wp2_with (first
   | (have _t:=tok1;rw[←HW.out];clear tok1)
   | (have _t:=Q3;refine wpList_store_row rfl 29 (.tmp 4) (.tmp 10) rfl (w.heap.size+1+1) Z.toArray rfl (by rw[hZe.out];rfl) 29 Z.toArray Q3.out hzZ.out rfl hZ1.out ?_;refine Hid.out ?_))
  refine f1D ?_
  generalize hw8:World.setRow _ _ _=w8
  obtain⟨r8,hg8⟩:=a0y (show Row w1 (w.heap.size+1+1) 29 Z from Q3.out) hw8
  have hb8:=hb1.grown hg8 hb1.size (fun k h=>by cases h;omega)
  have R8:=f1D (show w8.heap[w.heap.size+1+1]?=some (.cells Z.toArray 29 (0,0)) from r8)
  clear hw8 r8 Q3
  go_wp2_with fail
  exact⟨rfl,_,a0d rfl _ _ (w.heap.size+1+1) 29 Z.toArray (0,0) _ rfl R8.out underlying29 rfl hzZ.out _ rfl,none,0,by rw[HE.out,HG.out,HZ.out];rfl,by rw[HG.out];exact c0x _,(fun a h=>by cases h),hb8⟩
 | false =>
  rw[hbd] at hc3
  have R1:=f1D (show w1.heap[w.heap.size]?=some (.cells X.toArray 29 (0,0)) from r1)
  have Hnx:=f1D (w0y t.tag ht.tag cv hp hcv)
  have n1:t.cavs.length+1≤maxLen:=by unfold maxLen;omega
  have n2:(t.cavs.length+1)*64≤140737488355328:=by omega
  have hmo:(c0G t cv).Ok:=f0U ht hp
  have hto:({ t with cavs:=t.cavs++[cv] } : Tok).Ok:=⟨hmo.key,hmo.party,ht.tag⟩
  have hsc:=f1D (show (prog.info? 43).map (·.size)=some (cavV cv).length from c0C)
  have HER:=f1D (show b0B t cv=errT ({ t with cavs:=t.cavs++[cv] } : Tok) by unfold b0B;rw[if_neg (by rw[hbd];decide)];rfl)
  have HEC:=f1D (show b0B t cv=if d0O (c0G t cv)=true then 0 else 1 by unfold b0B;rw[if_neg (by rw[hbd];decide)])
  have HG:=f1D (show addT t cv=if b0B t cv=0 then c0G t cv else b0l from rfl)
  go_enter func19,ntmps19
  go_wp2_with (first
   | (have _t:=tok1;rw[←HW.out];clear tok1)
   | (with_reducible refine wpList_load_row rfl 29 (.tmp 2) rfl w.heap.size rfl 29 X.toArray (0,0) _ R1.out underlying29 rfl hzX2.out ?_)
   | (go_at_call 30;refine (Hcl.out _ ts).mono ?_;rintro e w2 ⟨B,d,rfl,own2,hq⟩;have hYl:=a0n ht B d;have hzY:=f1D (show (prog.info? 29).map (·.size)=some (tokV t B d).toArray.size by rw[List.size_toArray,hYl];exact a0I);have h36:=f1D (show 36=(tokV t B d).toArray.size by rw[List.size_toArray,hYl]);have hY1:=f1D (show (tokV t B d).toArray.all (·.oneCell')=true by rw[List.all_toArray,List.all_eq_true];exact a0X _ _ _);clear hYl)
   | (have _t:=hzY;with_reducible refine wpList_store_row rfl 29 (.tmp 6) (.tmp 12) rfl w2.heap.size (tokV t B d).toArray rfl rfl 29 _ (heap_alloc_new w2 _) hzY.out (Eq.trans (by kernel_rfl) h36.out) hY1.out ?_;refine Hid.out ?_))
  refine f1D ?_
  generalize hw3:World.setRow _ _ _=w3
  obtain⟨r6,hb3⟩:=a0v (xs:=tokV t B d) hw3
  have hOB:=f1D (fun j hj=>own2.lt j hj)
  have own:=c0p own2 hb3 (f1F _)
  have hq13:=hq.trans (hb3.mono hq.size)
  have r1:=r1.later hq13 r1.lt
  have r2:=r2.later hq13 r2.lt
  have r3:=r3.later hq13 r3.lt
  have hbw:=hb1.trans (hq13.mono hb1.size)
  have h16:=hq.size
  have h63:=r6.lt
  have h13:=hq13.size
  clear hw3 hb3 hq hq13 hb1 own2 R1 HW hc3 Q3 ts Hcl hzY h36 hY1
  generalize hG1:w1.heap.size=g1 at *
  generalize hG6:w2.heap.size=g6 at *
  have hc2:w3.cell? ⟨g6,2,none⟩=some (.slice B t.cavs.length d):=by rw[r6.cell];rfl
  have K2:=f1D (a0i r2)
  have hs1:=f1D hs1
  have h16:=f1D h16
  have h63:=f1D h63
  have h13:=f1D h13
  clear hG1 hG6
  go_wp2_with (first
   | (with_reducible refine wpList_load_mid rfl 43 (.tmp 3) rfl (w.heap.size+1) 0 rfl (cavV cv) _ K2.out underlying43 rfl hsc.out ?_)
   | (refine f0y rfl 27 1 [_] rfl [(0,.agg (cavV cv).toArray)] rfl _ (u0x cv w3) ?_;refine Hid.out ?_))
  refine f1D ?_
  have hb4:=(Below.refl w3.heap.size w3).alloc (f1F _) (.cells (cavV cv).toArray 43)
  have s4:Sl (w3.alloc (.cells (cavV cv).toArray 43)) (some ⟨w3.heap.size,0,none⟩) (1*5) (cavV cv):=d0c (cavV cv) rfl 5 rfl
  generalize w3.alloc (.cells (cavV cv).toArray 43)=w4 at *
  have own:=c0p own hb4 (f1F _)
  have r1:=r1.later hb4 r1.lt
  have r2:=r2.later hb4 r2.lt
  have r3:=r3.later hb4 r3.lt
  have r6:=r6.later hb4 r6.lt
  have hbw:=hbw.trans (hb4.mono hbw.size)
  have h14:g1≤w4.heap.size:=Nat.le_trans h13.out hb4.size
  have h64:=f1D (Nat.lt_of_lt_of_le h63.out hb4.size)
  clear hb4 K2 hc2
  go_wp2_with (at_builtin;refine i0N rfl (.tmp 14) (.tmp 16) 27 rfl g1 43 i0 _ 5 64 underlying27 hi hz0 hsz0 (by omega) hby0 rfl _ t.cavs.length (t.cavs.flatMap cavV) rfl own ⟨w3.heap.size,0,none⟩ 1 (cavV cv) rfl rfl s4 (g0t cv) n1 n2 h14 ?_;intro v5 w5 own5 hg5 hnew5;obtain⟨B5,d5,rfl,-,s5⟩:=Sl.of_ownk own5;refine Hid.out ?_)
  refine f1D ?_
  have hfr5:=t0L own5
  have e1:=hs1.out
  have e2:=h16.out
  have e3:=h64.out
  have hne6:∀a,B5=some a→a.block≠g6:=fun a ha=>by
   rcases hnew5 a.block (by rw[ha];rfl) with h | h
   ·have:=(hOB.out a.block h).2;omega
   ·omega
  have r6:=Row.kept r6 hg5 (fun k hk e=>by have:=(hOB.out k hk).2;omega)
  have r1:=Row.kept r1 hg5 (fun k hk e=>by have:=(hOB.out k hk).1;omega)
  have r2:=Row.kept r2 hg5 (fun k hk e=>by have:=(hOB.out k hk).1;omega)
  have r3:=Row.kept r3 hg5 (fun k hk e=>by have:=(hOB.out k hk).1;omega)
  have hbw:=hbw.grown hg5 hbw.size (fun k hk=>by have:=(hOB.out k hk).1;omega)
  have hcc:w5.cell? ⟨g6,2,none⟩=some (.slice B t.cavs.length d):=by rw[r6.cell];rfl
  have hff:=r6.free 2
  have hgs:=a0q w5 g6 2 (Value.slice B5 (t.cavs.length+1) d5)
  have r6:Row (w5.setCell ⟨g6,2,none⟩ (Value.slice B5 (t.cavs.length+1) d5)) g6 29 (tokV ({ t with cavs:=t.cavs++[cv] } : Tok) B5 d5):=(j0L t cv B B5 d d5) ▸ r6.set 2 (Value.slice B5 (t.cavs.length+1) d5)
  have r1:=r1.grown hgs (by omega)
  have r2:=r2.grown hgs (by omega)
  have r3:=r3.grown hgs (by omega)
  have s6:=s0k (s5.apart hgs (fun _ a ha=>hne6 a ha))
  have hbs:=hbw.grown hgs hbw.size (fun k h=>by cases h;omega)
  have hck:=f1D (fun w' h=>l0V ({ t with cavs:=t.cavs++[cv] } : Tok) hto hft B5 d5 w' h)
  rw[←HER.out] at hck
  have hput:=f1D (show splice (tokV ({ t with cavs:=t.cavs++[cv] } : Tok) B5 d5) 4 (byts (d0U t.tag cv))=tokV (c0G t cv) B5 d5 from h0J _ B5 d5 _ hto (c0r _ _))
  have hYl:(tokV ({ t with cavs:=t.cavs++[cv] } : Tok) B5 d5).length=36:=a0n hto B5 d5
  have hzY:=f1D (show (prog.info? 29).map (·.size)=some (tokV ({ t with cavs:=t.cavs++[cv] } : Tok) B5 d5).toArray.size by rw[List.size_toArray,hYl];exact a0I)
  have hnl:=a0U _ (c0r t.tag cv)
  have hfit:=f1D (show 4+(byts (d0U t.tag cv)).length≤(tokV ({ t with cavs:=t.cavs++[cv] } : Tok) B5 d5).length by rw[hnl,hYl];exact f1F _)
  obtain⟨V,hV⟩:∃V,V=tokV (c0G t cv) B5 d5:=⟨_,rfl⟩
  have hVl:V.length=36:=by rw[hV];exact a0n hmo B5 d5
  have hzV:=f1D (show (prog.info? 29).map (·.size)=some V.toArray.size by rw[List.size_toArray,hVl];exact a0I)
  have hV1:=f1D (show V.toArray.all (·.oneCell')=true by rw[hV,List.all_toArray,List.all_eq_true];exact a0X _ _ _)
  have hVZ:=f1D (show Z.toArray.size=V.toArray.size by rw[List.size_toArray,List.size_toArray,hVl,hZl])
  have HV:=f1D hV
  rw[←hV] at hput
  have hfr:=f1D (show ∀a,B5=some a→w.heap.size+2 < a.block∧a.block≠g6 from fun a ha=>⟨by have:=hfr5 a ha;omega,hne6 a ha⟩)
  have h6g:=f1D (show w.heap.size+2 < g6 by omega)
  clear hV hVl hYl hgs hg5 hnew5 own5 s5 own hfr5 hne6 hOB s4 e1 e2 e3 hs1 h16 h63 h13 h14 h64 hXl hZl hbw
  generalize tokV ({ t with cavs:=t.cavs++[cv] } : Tok) B5 d5=Y at *
  have R6:=f1D (show (w5.setCell ⟨g6,2,none⟩ (Value.slice B5 (t.cavs.length+1) d5)).heap[g6]?=some (.cells Y.toArray 29 (0,0)) from r6)
  go_wp2_with (first
   | (with_reducible refine wpList_load_row rfl 29 (.tmp 6) rfl g6 rfl 29 Y.toArray (0,0) _ R6.out underlying29 rfl hzY.out ?_)
   | (go_at_call 25;refine (hck.out _ s6).mono ?_;rintro e w6 ⟨rfl,hq⟩;have r1:=r1.later hq r1.lt;have r2:=r2.later hq r2.lt;have r3:=r3.later hq r3.lt;have r6:=r6.later hq r6.lt;have s6:=s6.later (f1F _) hq;have hB:=hbs.trans (hq.mono hbs.size);clear hq;refine Hid.out ?_))
  refine f1D ?_
  clear R6 hck hcc hff hbs
  have Q3:=f1D (show w6.heap[w.heap.size+1+1]?=some (.cells Z.toArray 29 (0,0)) from r3)
  have hnz:=f1D (show (prog.info? 23).map (·.size)=some (byts (d0U t.tag cv)).length by rw[a0t,hnl])
  have hone:=f1D (a0o (d0U t.tag cv))
  clear hnl
  generalize addT t cv=U at *
  generalize b0B t cv=er at *
  generalize hM:c0G t cv=M at *
  have HMS:=f1D (show ∀w',Sl w' B5 (d5*5) (({ t with cavs:=t.cavs++[cv] } : Tok).cavs.flatMap cavV)→Sl w' B5 (d5*5) (M.cavs.flatMap cavV) from fun w' h=>by rw[←hM];exact h)
  have K1:=f1D (g0d (HX.out ▸ r1))
  have K2:=f1D (a0i r2)
  have hkz:=f1D (show (prog.info? 23).map (·.size)=some (byts t.tag).length by rw[a0t,a0U _ ht.tag])
  clear hM
  generalize d0U t.tag cv=nx at *
  cases hok:d0O M with
  | false =>
   rw[hok] at HEC
   have e1:er=1:=HEC.out.trans (if_neg (by decide))
   have e2:U=b0l:=by rw[HG.out,e1];rfl
   have hne:(er != 0)=true:=by rw[e1];rfl
   have E2:=f1D e2
   clear e1 e2 HEC HG HER r1 r2 r6 s6 r3
   go_wp2_with (first
    | (have _t:=Q3;refine wpList_store_row rfl 29 (.tmp 4) (.tmp 23) rfl (w.heap.size+1+1) Z.toArray rfl (by rw[hZe.out];rfl) 29 Z.toArray Q3.out hzZ.out rfl hZ1.out ?_;refine Hid.out ?_))
   refine f1D ?_
   generalize hw8:World.setRow _ _ _=w8
   obtain⟨r8,hg8⟩:=a0y (show Row w6 (w.heap.size+1+1) 29 Z from Q3.out) hw8
   have hb8:=hB.grown hg8 hB.size (fun k h=>by cases h;omega)
   have R8:=f1D (show w8.heap[w.heap.size+1+1]?=some (.cells Z.toArray 29 (0,0)) from r8)
   clear hw8 r8 Q3
   go_wp2_with fail
   exact⟨rfl,_,a0d rfl _ _ (w.heap.size+1+1) 29 Z.toArray (0,0) _ rfl R8.out underlying29 rfl hzZ.out _ rfl,none,0,by rw[E2.out,HZ.out];rfl,by rw[E2.out];exact c0x _,(fun a h=>by cases h),hb8⟩
  | true =>
   rw[hok] at HEC
   have e1:er=0:=HEC.out.trans (if_pos rfl)
   have e2:U=M:=by rw[HG.out,e1];rfl
   have hne:(er != 0)=false:=by rw[e1];rfl
   have E1:=f1D e1
   have E2:=f1D e2
   clear e1 e2 HEC HG HER r1 r2 Q3
   have h6:=h6g.out
   go_wp2_with (first
    | (with_reducible refine wpList_load_mid rfl 23 (.tmp 25) rfl w.heap.size 4 rfl (byts t.tag) _ K1.out underlying23 rfl hkz.out ?_)
    | (with_reducible refine wpList_load_mid rfl 43 (.tmp 3) rfl (w.heap.size+1) 0 rfl (cavV cv) _ K2.out underlying43 rfl hsc.out ?_)
    | (go_at_call 31;refine (Hnx.out _ (HTB.out.later hB (f1F _))).mono ?_;rintro e w7 ⟨rfl,hq⟩;have r6:=r6.later hq r6.lt;have s6:=s6.later (f1F _) hq;have r3:=r3.later hq r3.lt;have hB:=hB.trans (hq.mono hB.size);clear hq)
    | (have _t:=w7;refine d0N rfl 23 (.tmp 29) (.tmp 28) rfl g6 4 29 Y (byts nx) rfl rfl r6 hfit.out hnz.out hone.out ?_;intro w9 r6x hg9;refine Hid.out ?_))
   refine f1D ?_
   have r6:Row w9 g6 29 V:=by rw[hput.out] at r6x;exact r6x
   have s6:=s6.apart hg9 (fun _ a ha=>(hfr.out a ha).2)
   have r3:=r3.grown hg9 (by omega)
   have hB:=hB.grown hg9 hB.size (fun k h=>by cases h;omega)
   have K6:=f1D (show w9.heap[g6]?=some (.cells V.toArray 29 (0,0)) from r6)
   have Q3:=f1D (show w9.heap[w.heap.size+1+1]?=some (.cells Z.toArray 29 (0,0)) from r3)
   clear r6x hg9 K1 K2 hput hfit hone hnz Hnx hkz hsc hmo hto r3
   go_wp2_with (first
    | (with_reducible refine wpList_load_row rfl 29 (.tmp 6) rfl g6 rfl 29 V.toArray (0,0) _ K6.out underlying29 rfl hzV.out ?_)
    | (have _t:=Q3;refine wpList_store_row rfl 29 (.tmp 4) (.tmp 30) rfl (w.heap.size+1+1) V.toArray rfl rfl 29 Z.toArray Q3.out hzV.out hVZ.out hV1.out ?_;refine Hid.out ?_))
   refine f1D ?_
   generalize hw8:World.setRow _ _ _=w8
   obtain⟨r8,hg8⟩:=a0y (show Row w9 (w.heap.size+1+1) 29 Z from Q3.out) hw8
   have hb8:=hB.grown hg8 hB.size (fun k h=>by cases h;omega)
   have R8:=f1D (show w8.heap[w.heap.size+1+1]?=some (.cells V.toArray 29 (0,0)) from r8)
   clear hw8 r8 Q3
   go_wp2_with fail
   exact⟨rfl,_,a0d rfl _ _ (w.heap.size+1+1) 29 V.toArray (0,0) _ rfl R8.out underlying29 rfl hzV.out _ rfl,B5,d5,by rw[E2.out,E1.out,HV.out];rfl,by rw[E2.out];exact HMS.out _ (s6.apart hg8 (fun _ a ha=>by have:=(hfr.out a ha).1;omega)),(fun a ha=>by have:=(hfr.out a ha).1;omega),hb8⟩
end Go.Proofs.YtcbilopdeiapjaaGreatDoor
