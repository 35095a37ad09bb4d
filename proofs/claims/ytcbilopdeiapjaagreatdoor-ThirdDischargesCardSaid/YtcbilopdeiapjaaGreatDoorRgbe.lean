import Derived.Test.YtcbilopdeiapjaaGreatDoorRgbd
set_option maxHeartbeats 16000000
set_option maxRecDepth 100000
open Go.Proofs.Tryz
namespace Go.Proofs.YtcbilopdeiapjaaGreatDoor
open Go Go.RowKit
def g0i (t:Tok) (s:List UInt8):Int:=if t.bound=true then 6 else if (c0L s).isSome=true then b0B t (b0F s) else 2
def attT (t:Tok) (s:List UInt8):Tok:=if g0i t s=0 then c0G t (b0F s) else b0l
theorem s0L (s:List UInt8):(capB (b0F s)).length≤12+s.length*12:=by
 have h:(capB (b0F s)).length=(c0X (3,s)++([]:List UInt8)).length:=rfl
 have h2:=c0j s.length
 rw[h,List.append_nil,d0o]
 show 1+(varL s.length).length+s.length≤_
 omega
theorem a1A (t:Tok) (ht:t.Ok) (s:List UInt8) (hl:s.length≤4000) (hm:t.cavs.length≤1000000) (A:Option Addr) (c:Nat) (w:World) (hs:Sl w A (c*5) (t.cavs.flatMap cavV)) :
  Calls prog 17 #[.agg (tokV t A c).toArray,.string (bstr s)] w (b0L (attT t s) (g0i t s) w):=by
 obtain⟨Z,hZ⟩:∃Z,Z=tokV b0l none 0:=⟨_,rfl⟩
 have hZl:Z.length=36:=by rw[hZ];exact a0n b0Z none 0
 have hZe:=f1D (hZ.trans ztok)
 have hzZ:=f1D (show (prog.info? 29).map (·.size)=some Z.toArray.size by rw[List.size_toArray,hZl];exact a0I)
 have hZ1:=f1D (show Z.toArray.all (·.oneCell')=true by rw[hZ,List.all_toArray,List.all_eq_true];exact a0X _ _ _)
 obtain⟨X,hX⟩:∃X,X=tokV t A c:=⟨_,rfl⟩
 have hXl:X.length=36:=by rw[hX];exact a0n ht A c
 have hzX2:=f1D (show (prog.info? 29).map (·.size)=some X.toArray.size by rw[List.size_toArray,hXl];exact a0I)
 obtain⟨w1,hw1⟩:∃w1,w1=(w.alloc (.cells X.toArray 29)).alloc (.cells Z.toArray 29):=⟨_,rfl⟩
 obtain⟨r1,r2,hb1⟩:=c0V hw1.symm
 have HW:=f1D (hw1.trans (by rw[hZe.out]))
 have hc3:w1.cell? ⟨w.heap.size,3,none⟩=some (.bool t.bound):=by rw[r1.cell,hX];rfl
 have hadd:=f1D (show ∀w',Sl w' A (c*5) (t.cavs.flatMap cavV)→Calls prog 29 #[.agg X.toArray,.agg #[.bool false,.string (bstr s),.int .u64 0,.string { data:=#[] },.string { data:=#[] }]] w' (b0L (addT t (b0F s)) (b0B t (b0F s)) w') by
  rw[hX];exact fun w' h=>a1y t ht (b0F s) (by show (0:Nat) < _;decide) (by have:=s0L s;omega) hm A c w' h)
 have ts:=hs.later (f1F _) hb1
 have HZ:=f1D hZ
 have Q2:=f1D (show w1.heap[w.heap.size+1]?=some (.cells Z.toArray 29 (0,0)) from r2)
 have HE:=f1D (show g0i t s=if t.bound=true then 6 else if (c0L s).isSome=true then b0B t (b0F s) else 2 from rfl)
 have HG:=f1D (show attT t s=if g0i t s=0 then c0G t (b0F s) else b0l from rfl)
 have HA:=f1D (show addT t (b0F s)=if b0B t (b0F s)=0 then c0G t (b0F s) else b0l from rfl)
 rw[←hX]
 have tok1:True:=trivial
 clear hw1 hZ hX hs
 generalize g0i t s=er at *
 generalize attT t s=U at *
 cases hbd:t.bound with
 | true =>
  rw[hbd] at hc3 HE
  have e1:er=6:=HE.out.trans (if_pos rfl)
  have e2:U=b0l:=by rw[HG.out,e1];rfl
  have E1:=f1D e1
  have E2:=f1D e2
  clear e1 e2 HE HG r1 r2 ts hadd HA hZl hXl
  go_enter func17,ntmps17
  go_wp2_with (first
   | (have _t:=tok1;rw[←HW.out];clear tok1)
   | (have _t:=Q2;refine wpList_store_row rfl 29 (.tmp 4) (.tmp 10) rfl (w.heap.size+1) Z.toArray rfl (by rw[hZe.out];rfl) 29 Z.toArray Q2.out hzZ.out rfl hZ1.out ?_;refine Hid.out ?_))
  refine f1D ?_
  generalize hw8:World.setRow _ _ _=w8
  obtain⟨r8,hg8⟩:=a0y (show Row w1 (w.heap.size+1) 29 Z from Q2.out) hw8
  have hb8:=hb1.grown hg8 hb1.size (fun k h=>by cases h;omega)
  have R8:=f1D (show w8.heap[w.heap.size+1]?=some (.cells Z.toArray 29 (0,0)) from r8)
  clear hw8 r8 Q2
  go_wp2_with fail
  exact⟨rfl,_,a0d rfl _ _ (w.heap.size+1) 29 Z.toArray (0,0) _ rfl R8.out underlying29 rfl hzZ.out _ rfl,none,0,by rw[E2.out,E1.out,HZ.out];rfl,by rw[E2.out];exact c0x _,(fun a h=>by cases h),hb8⟩
 | false =>
  rw[hbd] at hc3 HE
  have hpa:=f1D (show ∀w',Calls prog 28 #[.string (bstr s)] w' (g0n (c0L s) w') from fun w'=>p0j s hl w')
  unfold g0n at hpa
  generalize hx:(c0L s).getD g0g=x at *
  generalize hok:(c0L s).isSome=ok at *
  have R1:=f1D (show w1.heap[w.heap.size]?=some (.cells X.toArray 29 (0,0)) from r1)
  clear hZl hXl
  go_enter func17,ntmps17
  go_wp2_with (first
   | (have _t:=tok1;rw[←HW.out];clear tok1)
   | (go_at_call 28;refine (hpa.out _).mono ?_;rintro e w2 ⟨A2,c2,rfl,ax,hq⟩;have hlx:=b0f x ax.ok.net.a A2 c2;have hzP:=f1D (show (prog.info? 72).map (·.size)=some (prdV x A2 c2).toArray.size by rw[List.size_toArray,hlx];exact c0T);have h23:=f1D (show 23=(prdV x A2 c2).toArray.size by rw[List.size_toArray,hlx]);have hP1:=f1D (d0W x A2 c2);clear hlx)
   | (have _t:=hzP;refine wpList_store_row rfl 72 (.tmp 6) (.tmp 14) rfl w2.heap.size (prdV x A2 c2).toArray rfl rfl 72 _ (heap_alloc_new w2 _) hzP.out h23.out hP1.out ?_;refine Hid.out ?_))
  refine f1D ?_
  generalize hww:World.setRow _ _ _=w3
  obtain⟨x1,hq3⟩:=a0v (xs:=prdV x A2 c2) hww
  have hq:=hq.trans (hq3.mono hq.size)
  have r1:=r1.later hq r1.lt
  have r2:=r2.later hq r2.lt
  have ts:=ts.later (f1F _) hq
  have hb1:=hb1.trans (hq.mono hb1.size)
  have R1:=f1D (show w3.heap[w.heap.size]?=some (.cells X.toArray 29 (0,0)) from r1)
  have Q2:=f1D (show w3.heap[w.heap.size+1]?=some (.cells Z.toArray 29 (0,0)) from r2)
  generalize w2.heap.size=g2 at *
  clear hww hq hq3 x1 hpa hzP h23 hP1 ax hc3 HW hx
  generalize prdV x A2 c2=PV at *
  have HE:=f1D (HE.out.trans (if_neg (by decide)))
  cases ok with
  | false =>
   have e1:er=2:=HE.out.trans (if_neg (by decide))
   have e2:U=b0l:=by rw[HG.out,e1];rfl
   have E1:=f1D e1
   have E2:=f1D e2
   clear e1 e2 HE HG r1 r2 ts hadd HA R1
   go_wp2_with (have _t:=Q2;refine wpList_store_row rfl 29 (.tmp 4) (.tmp 18) rfl (w.heap.size+1) Z.toArray rfl (by rw[hZe.out];rfl) 29 Z.toArray Q2.out hzZ.out rfl hZ1.out ?_;refine Hid.out ?_)
   refine f1D ?_
   generalize hw8:World.setRow _ _ _=w8
   obtain⟨r8,hg8⟩:=a0y (show Row w3 (w.heap.size+1) 29 Z from Q2.out) hw8
   have hb8:=hb1.grown hg8 hb1.size (fun k h=>by cases h;omega)
   have R8:=f1D (show w8.heap[w.heap.size+1]?=some (.cells Z.toArray 29 (0,0)) from r8)
   clear hw8 r8 Q2
   go_wp2_with fail
   exact⟨rfl,_,a0d rfl _ _ (w.heap.size+1) 29 Z.toArray (0,0) _ rfl R8.out underlying29 rfl hzZ.out _ rfl,none,0,by rw[E2.out,E1.out,HZ.out];rfl,by rw[E2.out];exact c0x _,(fun a h=>by cases h),hb8⟩
  | true =>
   have e1:er=b0B t (b0F s):=HE.out.trans (if_pos rfl)
   have e2:U=addT t (b0F s):=by rw[HG.out,e1,HA.out]
   have hUo:(addT t (b0F s)).Ok:=by
    rw[HA.out];split
    ·exact f0U ht (by show (0:Nat) < _;decide)
    ·exact b0Z
   rw[←e1,←e2] at hadd
   rw[←e2] at hUo
   clear e1 e2 HE HG HA
   unfold b0L at hadd
   have r2L:=f1D r2.lt
   go_wp2_with (first
    | (with_reducible refine wpList_load_row rfl 29 (.tmp 2) rfl w.heap.size rfl 29 X.toArray (0,0) _ R1.out underlying29 rfl hzX2.out ?_)
    | (go_at_call 29;refine (hadd.out _ ts).mono ?_;rintro e w4 ⟨B,d,rfl,s4,hap,hb4⟩;have r2:=r2.later hb4 r2.lt;have Q2:=f1D (show w4.heap[w.heap.size+1]?=some (.cells Z.toArray 29 (0,0)) from r2);have hb4:=hb1.trans (hb4.mono hb1.size);have hVl:=a0n hUo B d;have hzV:=f1D (show (prog.info? 29).map (·.size)=some (tokV U B d).toArray.size by rw[List.size_toArray,hVl];exact a0I);have hV1:=f1D (show (tokV U B d).toArray.all (·.oneCell')=true by rw[List.all_toArray,List.all_eq_true];exact a0X _ _ _);have hVZ:=f1D (show Z.toArray.size=(tokV U B d).toArray.size by rw[List.size_toArray,List.size_toArray,hVl,HZ.out];exact a0n b0Z none 0);clear hVl)
    | (have _t:=hb4;refine wpList_store_row rfl 29 (.tmp 4) (.tmp 23) rfl (w.heap.size+1) (tokV U B d).toArray rfl rfl 29 Z.toArray Q2.out hzV.out hVZ.out hV1.out ?_;refine Hid.out ?_))
   refine f1D ?_
   generalize hw8:World.setRow _ _ _=w8
   obtain⟨r8,hg8⟩:=a0y (show Row w4 (w.heap.size+1) 29 Z from Q2.out) hw8
   have hb8:=hb4.grown hg8 hb4.size (fun k h=>by cases h;omega)
   have R8:=f1D (show w8.heap[w.heap.size+1]?=some (.cells (tokV U B d).toArray 29 (0,0)) from r8)
   have hl3:=r2L.out
   have s8:=s4.apart hg8 (fun _ a ha=>by have:=hap a ha;omega)
   clear hw8 r8 Q2 hg8 s4
   go_wp2_with fail
   exact⟨rfl,_,a0d rfl _ _ (w.heap.size+1) 29 (tokV U B d).toArray (0,0) _ rfl R8.out underlying29 rfl hzV.out _ rfl,B,d,rfl,s8,(fun a ha=>by have:=hap a ha;omega),hb8⟩
def disF (x:Tok×Int) (s:List UInt8):Tok×Int:=if x.2=0 then (attT x.1 s,g0i x.1 s) else x
def disL (root id:List UInt8) (ts:List (List UInt8)):Tok×Int:=ts.foldl disF (c0R root 0 id,b0C id)
theorem g0x (root id:List UInt8) (ts:List (List UInt8)) (k:Nat) (hk:k < ts.length):disL root id (ts.take (k+1))=disF (disL root id (ts.take k)) (ts.getD k []):=by
 have e:ts.take (k+1)=ts.take k++[ts.getD k []]:=by
  rw[List.take_add_one,List.getElem?_eq_getElem hk,List.getD_eq_getElem?_getD,List.getElem?_eq_getElem hk];rfl
 unfold disL
 rw[e,List.foldl_append];rfl
theorem m0r {t:Tok} (ht:t.Ok) (s:List UInt8):(attT t s).Ok:=by
 unfold attT;split
 ·exact f0U ht (by show (0:Nat) < _;decide)
 ·exact b0Z
theorem v0k (t:Tok) (s:List UInt8):(attT t s).cavs.length≤t.cavs.length+1:=by
 unfold attT;split
 ·show (t.cavs++[b0F s]).length≤_;rw[List.length_append];exact f1F _
 ·exact Nat.zero_le _
theorem k0v (key:List UInt8) (id:List UInt8):(c0R key 0 id).Ok:=by
 unfold c0R;split
 ·exact b0Z
 ·exact⟨by show (0:Nat) < _;decide,(fun c h=>by cases h),c0u _ _ _⟩
theorem t0x (key:List UInt8) (id:List UInt8):(c0R key 0 id).cavs.length=0:=by
 unfold c0R;split<;>rfl
theorem m0A (root id:List UInt8) (ts:List (List UInt8)):∀k,k≤ts.length→(disL root id (ts.take k)).1.Ok∧(disL root id (ts.take k)).1.cavs.length≤k
 | 0,_=>by
  rw[List.take_zero]
  exact⟨k0v root id,by show (c0R root 0 id).cavs.length≤0;rw[t0x];exact f1F _⟩
 | k+1,h=>by
  obtain⟨h1,h2⟩:=m0A root id ts k (by omega)
  rw[g0x root id ts k (by omega)]
  unfold disF
  split
  ·exact⟨m0r h1 _,by have:=v0k (disL root id (ts.take k)).1 (ts.getD k []);show (attT _ _).cavs.length≤_;omega⟩
  ·exact⟨h1,by omega⟩
theorem s0o {w:World} {A:Option Addr} {c:Nat} {xs:List Value} (h:Sl w A c xs) (h0:0 < xs.length):∀a,A=some a→a.block < w.heap.size:=by
 intro a ha
 obtain⟨b,o,e,hlt,_⟩:=h.rd.get h0
 rw[ha] at e
 cases e;exact hlt
theorem a1D (root:List UInt8) (hk:root.length=32) (id:List UInt8) (hi:id.length≤100000) (ts:List (List UInt8)) (hn:ts.length≤1000) (hts:∀k,k < ts.length→(ts.getD k []).length≤4000) (A:Option Addr) (c:Nat) (w:World) (hs:Sl w A c (a0F ts)) :
  Calls prog 7 #[.agg (byts root).toArray,.string (bstr id),.slice A ts.length c] w (b0L (disL root id ts).1 (disL root id ts).2 w):=by
 obtain⟨Z,hZ⟩:∃Z,Z=tokV b0l none 0:=⟨_,rfl⟩
 have hZl:Z.length=36:=by rw[hZ];exact a0n b0Z none 0
 have hZe:=f1D (hZ.trans ztok)
 obtain⟨w1,hw1⟩:∃w1,w1=(w.alloc (.cells (byts root).toArray 23)).alloc (.cells Z.toArray 29):=⟨_,rfl⟩
 obtain⟨r1,r2,hb1⟩:=c0V hw1.symm
 have HW:=f1D (hw1.trans (by rw[hZe.out]))
 have hkz:=f1D (show (prog.info? 23).map (·.size)=some (byts root).toArray.size by rw[List.size_toArray,a0U root hk];exact a0t)
 have R1:=f1D (show w1.heap[w.heap.size]?=some (.cells (byts root).toArray 23 (0,0)) from r1)
 have hmi:=f1D (show ∀w',Calls prog 16 #[.agg (byts root).toArray,.int .u64 0,.string (bstr id)] w' fun e w''=>∃(A:Option Addr) (c:Nat),e=.returned (.tuple #[.agg (tokV (c0R root 0 id) A c).toArray,.int .i64 (b0C id)])∧Sl w'' A (c*5) ((c0R root 0 id).cavs.flatMap cavV)∧(∀a,A=some a→w'.heap.size≤a.block)∧Below w'.heap.size w' w'' from fun w'=>x0C root hk 0 (by decide) id (by omega) w')
 have HAb:=f1D (s0o hs)
 have hsz:=hs.later (f1F _) hb1
 have hok:=f1D (m0A root id ts)
 have hst:=f1D (g0x root id ts)
 have H0:=f1D (show disL root id (ts.take 0)=(c0R root 0 id,b0C id) by rw[List.take_zero];rfl)
 have HE:=f1D (show disL root id (ts.take ts.length)=disL root id ts by rw[List.take_length])
 have hts:=f1D hts
 have hUo:=k0v root id
 generalize c0R root 0 id=U at *
 generalize b0C id=e0 at *
 generalize disL root id=DL at *
 have hle2:w.heap.size+1 < w1.heap.size:=r2.lt
 clear hw1 hZ hs hk hi r1
 have tok1:True:=trivial
 go_enter func7,ntmps7
 go_wp2_with (first
  | (have _t:=tok1;rw[←HW.out];clear tok1)
  | (with_reducible refine wpList_load_row rfl 23 (.tmp 3) rfl w.heap.size rfl 23 (byts root).toArray (0,0) _ R1.out underlying23 rfl hkz.out ?_)
  | (go_at_call 16;refine (hmi.out _).mono ?_;rintro e w2 ⟨B0,d0,rfl,s2,hap,hq⟩;have hap:=f1D hap;have r2:=r2.later hq r2.lt;have hsz:=hsz.later (f1F _) hq;have hb2:=hb1.trans (hq.mono hb1.size);have hle3:=f1D hq.size;clear hq;have hVl:=a0n hUo B0 d0;have hzV:=f1D (show (prog.info? 29).map (·.size)=some (tokV U B0 d0).toArray.size by rw[List.size_toArray,hVl];exact a0I);have h36:=f1D (show 36=(tokV U B0 d0).toArray.size by rw[List.size_toArray,hVl]);have hV1:=f1D (show (tokV U B0 d0).toArray.all (·.oneCell')=true by rw[List.all_toArray,List.all_eq_true];exact a0X _ _ _);clear hVl)
  | (have _t:=h36;with_reducible refine wpList_store_row rfl 29 (.tmp 8) (.tmp 16) rfl w2.heap.size (tokV U B0 d0).toArray rfl rfl 29 _ (heap_alloc_new w2 _) hzV.out (Eq.trans (by kernel_rfl) h36.out) hV1.out ?_;refine Hid.out ?_))
 refine f1D ?_
 generalize hw3:World.setRow _ _ _=w3
 obtain⟨r8,hq⟩:=a0v (xs:=tokV U B0 d0) hw3
 have r2:=r2.later hq r2.lt
 have s3:=s2.later (f1F _) hq
 have hsz:=hsz.later (f1F _) hq
 have hb3:=hb2.trans (hq.mono hb2.size)
 have hne0:0 < (U.cavs.flatMap cavV).length→∀a,B0=some a→a.block≠w2.heap.size:=fun h a ha=>by have:=s0o s2 h a ha;omega
 have hfr0:∀a,B0=some a→w.heap.size+1 < a.block:=fun a ha=>by have:=hap.out a ha;omega
 have hg8:w.heap.size+1 < w2.heap.size:=by have:=hle3.out;omega
 have l8:=r8.lt
 generalize w2.heap.size=g8 at *
 clear hw3 hq hzV h36 hV1 hb1 hb2 s2 hap hle3 R1 hkz hmi HW hle2
 generalize hn0:ts.length=n at *
 have HN:=f1D hn0
 go_wp2_with fail
 go_loopw [9,20] (fun er i wr=>∃(k:Nat) (B:Option Addr) (d:Nat),k≤n∧i=.int .i64 k∧er=.int .i64 (DL (ts.take k)).2∧Row wr g8 29 (tokV (DL (ts.take k)).1 B d)∧Sl wr B (d*5) ((DL (ts.take k)).1.cavs.flatMap cavV) ∧
  (0 < ((DL (ts.take k)).1.cavs.flatMap cavV).length→∀a,B=some a→a.block≠g8)∧(∀a,B=some a→w.heap.size+1 < a.block)∧Row wr (w.heap.size+1) 29 Z∧Sl wr A c (a0F ts)∧Below w.heap.size w wr) (fun _ i _=>n - (intOf i).toNat)
 case atStart=>exact⟨0,B0,d0,by omega,rfl,by rw[H0.out],by rw[H0.out];exact r8,by rw[H0.out];exact s3,by rw[H0.out];exact hne0,hfr0,r2,hsz,hb3⟩
 case round =>
  clear r8 s3 hne0 hfr0 r2 hsz hb3 l8
  obtain⟨k,B,d,hkn,rfl,rfl,r8,sB,hne,hfr,r2,hsz,hb⟩:=hrel
  obtain⟨hxo,hxl⟩:=hok.out k hkn
  by_cases hlt:k < n
  ·have hst1:=hst.out k hlt
   have hsl:=hts.out k hlt
   obtain⟨bb,oo,rfl,-,-⟩:=hsz.rd.get (i:=0) (by rw[a0w,HN.out];omega)
   have hix:=b0w (some ⟨bb,oo,none⟩) bb oo n c k rfl hlt
   have hsc:=c0g hsz k (by rw[HN.out];exact hlt)
   generalize ts.getD k []=s at *
   obtain⟨X,hX⟩:∃X,X=DL (ts.take k):=⟨_,rfl⟩
   rw[←hX] at r8 sB hne hxo hxl hst1 ⊢
   obtain⟨T,er⟩:=X
   have HS:=f1D hst1
   have hxl:T.cavs.length≤k:=hxl
   clear hst1 hX
   by_cases he:er=0
   ·have he2:(er==0)=true:=by rw[he];rfl
    have HD:DL (ts.take (k+1))=(attT T s,g0i T s):=by rw[HS.out];unfold disF;rw[if_pos he]
    have hat:=f1D (fun w' h=>a1A T hxo s hsl (by omega) B d w' h)
    have hYo:=m0r hxo s
    unfold b0L at hat
    generalize attT T s=Y at *
    generalize g0i T s=ye at *
    have HD:=f1D HD
    have hTl:=a0n hxo B d
    have R8:=f1D (show wr.heap[g8]?=some (.cells (tokV T B d).toArray 29 (0,0)) from r8)
    have hzT:=f1D (show (prog.info? 29).map (·.size)=some (tokV T B d).toArray.size by rw[List.size_toArray,hTl];exact a0I)
    have l8:=r8.lt
    clear he HS hsl
    go_wp2_with (first
     | (with_reducible refine wpList_load_row rfl 29 (.tmp 8) rfl g8 rfl 29 (tokV T B d).toArray (0,0) _ R8.out underlying29 rfl hzT.out ?_)
     | (go_at_call 17;refine (hat.out _ sB).mono ?_;rintro e w5 ⟨B5,d5,rfl,s5,hap5,hq⟩;have hap5:=f1D hap5;have r8:=r8.later hq r8.lt;have r2:=r2.later hq r2.lt;have hsz:=hsz.later (f1F _) hq;have hb:=hb.trans (hq.mono hb.size);clear hq;have hYl:=a0n hYo B5 d5;have R9:=f1D (show w5.heap[g8]?=some (.cells (tokV T B d).toArray 29 (0,0)) from r8);have hzY:=f1D (show (prog.info? 29).map (·.size)=some (tokV Y B5 d5).toArray.size by rw[List.size_toArray,hYl];exact a0I);have hY1:=f1D (show (tokV Y B5 d5).toArray.all (·.oneCell')=true by rw[List.all_toArray,List.all_eq_true];exact a0X _ _ _);have hTY:=f1D (show (tokV T B d).toArray.size=(tokV Y B5 d5).toArray.size by rw[List.size_toArray,List.size_toArray,hTl,hYl]);clear hYl)
     | (have _t:=hTY;refine wpList_store_row rfl 29 (.tmp 8) (.tmp 30) rfl g8 (tokV Y B5 d5).toArray rfl rfl 29 (tokV T B d).toArray R9.out hzY.out hTY.out hY1.out ?_;refine Hid.out ?_))
    refine f1D ?_
    generalize hw8:World.setRow _ _ _=w8
    obtain⟨r9,hgg⟩:=a0y (show Row w5 g8 29 (tokV T B d) from R9.out) hw8
    have s8:=s5.apart hgg (fun _ a ha=>by have:=hap5.out a ha;omega)
    have r2:=r2.grown hgg (by omega)
    have hsz:=hsz.apart hgg (fun h a ha=>by have:=HAb.out h a ha;omega)
    have hb:=hb.grown hgg hb.size (fun k h=>by cases h;omega)
    have hne5:0 < (Y.cavs.flatMap cavV).length→∀a,B5=some a→a.block≠g8:=fun _ a ha=>by have:=hap5.out a ha;omega
    have hfr5:∀a,B5=some a→w.heap.size+1 < a.block:=fun a ha=>by have:=hap5.out a ha;omega
    clear hw8 hgg R8 R9 hzT hzY hY1 hTY hat r8
    go_wp2_with fail
    go_roundw
    case rel=>exact⟨k+1,B5,d5,by omega,by go_num,by rw[HD.out],by rw[HD.out];exact r9,by rw[HD.out];exact s8,by rw[HD.out];exact hne5,hfr5,r2,hsz,hb⟩
    case measure=>simp[intOf];omega
   ·have he2:(er==0)=false:=beq_eq_false_iff_ne.2 he
    have HD:=f1D (show DL (ts.take (k+1))=(T,er) by rw[HS.out];unfold disF;rw[if_neg he])
    clear HS hsl
    go_wp2_with fail
    go_roundw
    case rel=>exact⟨k+1,B,d,by omega,by go_num,by rw[HD.out],by rw[HD.out];exact r8,by rw[HD.out];exact sB,by rw[HD.out];exact hne,hfr,r2,hsz,hb⟩
    case measure=>simp[intOf];omega
  ·obtain rfl:k=n:=by omega
   rw[HE.out] at r8 sB hne hxo ⊢
   generalize DL ts=X at *
   obtain⟨T,er⟩:=X
   have hTl:=a0n hxo B d
   have R8:=f1D (show wr.heap[g8]?=some (.cells (tokV T B d).toArray 29 (0,0)) from r8)
   have Q2:=f1D (show wr.heap[w.heap.size+1]?=some (.cells Z.toArray 29 (0,0)) from r2)
   have hzT:=f1D (show (prog.info? 29).map (·.size)=some (tokV T B d).toArray.size by rw[List.size_toArray,hTl];exact a0I)
   have hT1:=f1D (show (tokV T B d).toArray.all (·.oneCell')=true by rw[List.all_toArray,List.all_eq_true];exact a0X _ _ _)
   have hTZ:=f1D (show Z.toArray.size=(tokV T B d).toArray.size by rw[List.size_toArray,List.size_toArray,hTl,hZl])
   clear hlt r8 r2 hst hok HE H0 hxl hTl
   go_wp2_with (first
    | (with_reducible refine wpList_load_row rfl 29 (.tmp 8) rfl g8 rfl 29 (tokV T B d).toArray (0,0) _ R8.out underlying29 rfl hzT.out ?_)
    | (have _t:=Q2;refine wpList_store_row rfl 29 (.tmp 6) (.tmp 33) rfl (w.heap.size+1) (tokV T B d).toArray rfl rfl 29 Z.toArray Q2.out hzT.out hTZ.out hT1.out ?_;refine Hid.out ?_))
   refine f1D ?_
   generalize hw8:World.setRow _ _ _=w8
   obtain⟨r9,hgg⟩:=a0y (show Row wr (w.heap.size+1) 29 Z from Q2.out) hw8
   have hb8:=hb.grown hgg hb.size (fun k h=>by cases h;omega)
   have s8:=sB.apart hgg (fun h a ha=>by have:=hfr a ha;omega)
   have R9:=f1D (show w8.heap[w.heap.size+1]?=some (.cells (tokV T B d).toArray 29 (0,0)) from r9)
   clear hw8 r9 Q2
   go_wp2_with fail
   exact⟨rfl,_,a0d rfl _ _ (w.heap.size+1) 29 (tokV T B d).toArray (0,0) _ rfl R9.out underlying29 rfl hzT.out _ rfl,B,d,rfl,s8,(fun a ha=>by have:=hfr a ha;omega),hb8⟩
theorem z0t (x:Tok×Int) (h:x.2≠0) (ts:List (List UInt8)):ts.foldl disF x=x:=by
 induction ts with
 | nil=>rfl
 | cons s ts ih =>
  have e:disF x s=x:=by unfold disF;rw[if_neg h]
  rw[List.foldl_cons,e,ih]
theorem z0u (root id:List UInt8) (ts:List (List UInt8)) (k:Nat) (h:(disL root id (ts.take k)).2≠0):disL root id ts=disL root id (ts.take k):=by
 have e:disL root id ts=(ts.drop k).foldl disF (disL root id (ts.take k)):=by
  unfold disL
  rw[←List.foldl_append,List.take_append_drop]
 rw[e,z0t _ h]
theorem n0S (root id:List UInt8) (ts:List (List UInt8)):∀k,k≤ts.length→(disL root id (ts.take k)).2≠0→(disL root id (ts.take k)).1=b0l
 | 0,_=>by
  rw[List.take_zero]
  intro h
  have h:b0C id≠0:=h
  show c0R root 0 id=b0l
  unfold b0C at h
  unfold c0R
  split
  ·rfl
  ·rename_i hb;rw[if_neg hb] at h;exact absurd rfl h
 | k+1,hk=>by
  rw[g0x root id ts k (by omega)]
  intro h
  have ih:=n0S root id ts k (by omega)
  unfold disF at h ⊢
  split at h
  ·rename_i he
   rw[if_pos he]
   have h:g0i (disL root id (ts.take k)).1 (ts.getD k [])≠0:=h
   show attT (disL root id (ts.take k)).1 (ts.getD k [])=b0l
   unfold attT;rw[if_neg h]
  ·rename_i he
   rw[if_neg he];exact ih h
theorem l0H (root id:List UInt8) (hi:id.length≤2000) (ts:List (List UInt8)) (hts:∀k,k < ts.length→(ts.getD k []).length≤600):∀k,k≤ts.length→(disL root id (ts.take k)).1.id.length≤2000∧∀c∈(disL root id (ts.take k)).1.cavs,c.text.length≤600∧c.id=[]∧c.vault=[]
 | 0,_=>by
  rw[List.take_zero]
  show (c0R root 0 id).id.length≤2000∧∀c∈(c0R root 0 id).cavs,_
  unfold c0R
  split
  ·exact⟨Nat.zero_le _,fun c h=>by cases h⟩
  ·exact⟨hi,fun c h=>by cases h⟩
 | k+1,hk=>by
  rw[g0x root id ts k (by omega)]
  obtain⟨h1,h2⟩:=l0H root id hi ts hts k (by omega)
  unfold disF
  split
  ·show (attT (disL root id (ts.take k)).1 (ts.getD k [])).id.length≤2000∧∀c∈(attT (disL root id (ts.take k)).1 (ts.getD k [])).cavs,_
   unfold attT
   split
   ·refine⟨h1,fun c hc=>?_⟩
    rcases List.mem_append.1 (show c∈(disL root id (ts.take k)).1.cavs++[b0F (ts.getD k [])] from hc) with hc | hc
    ·exact h2 c hc
    ·rw[List.mem_singleton.1 hc];exact⟨hts k (by omega),rfl,rfl⟩
   ·exact⟨Nat.zero_le _,fun c h=>by cases h⟩
  ·exact⟨h1,h2⟩
theorem a1m (root:List UInt8) (hk:root.length=32) (id:List UInt8) (hi:id.length≤2000) (ts:List (List UInt8)) (hn:ts.length≤70) (hts:∀k,k < ts.length→(ts.getD k []).length≤600) (A:Option Addr) (c:Nat) (w:World) (hE:EnvJ w) (hs:Sl w A c (a0F ts)) :
  Calls prog 6 #[.agg (byts root).toArray,.string (bstr id),.slice A ts.length c] w (b0L (disL root id ts).1 (disL root id ts).2 w):=by
 obtain⟨Z,hZ⟩:∃Z,Z=tokV b0l none 0:=⟨_,rfl⟩
 have hZl:Z.length=36:=by rw[hZ];exact a0n b0Z none 0
 have hZe:=f1D (hZ.trans ztok)
 have hzZ:=f1D (show (prog.info? 29).map (·.size)=some Z.toArray.size by rw[List.size_toArray,hZl];exact a0I)
 have hZ1:=f1D (show Z.toArray.all (·.oneCell')=true by rw[hZ,List.all_toArray,List.all_eq_true];exact a0X _ _ _)
 have HZ:=f1D hZ
 obtain⟨w1,hw1⟩:∃w1,w1=(w.alloc (.cells (byts root).toArray 23)).alloc (.cells Z.toArray 29):=⟨_,rfl⟩
 obtain⟨r1,r2,hb1⟩:=c0V hw1.symm
 have HW:=f1D (hw1.trans (by rw[hZe.out]))
 have hkz:=f1D (show (prog.info? 23).map (·.size)=some (byts root).toArray.size by rw[List.size_toArray,a0U root hk];exact a0t)
 have R1:=f1D (show w1.heap[w.heap.size]?=some (.cells (byts root).toArray 23 (0,0)) from r1)
 have hmi:=f1D (show ∀w',EnvJ w'→Calls prog 14 #[.agg (byts root).toArray,.int .u64 0,.string (bstr id)] w' fun e w''=>∃(A:Option Addr) (c:Nat),e=.returned (.tuple #[.agg (tokV (c0R root 0 id) A c).toArray,.int .i64 (b0C id)])∧Sl w'' A (c*5) ((c0R root 0 id).cavs.flatMap cavV)∧(∀a,A=some a→w'.heap.size≤a.block)∧Below w'.heap.size w' w'' from fun w' h=>w0x root hk 0 (by decide) id (by omega) w' h)
 have HAb:=f1D (s0o hs)
 have hsz:=hs.later (f1F _) hb1
 have HEJ:=f1D hE
 have hok:=f1D (m0A root id ts)
 have hst:=f1D (g0x root id ts)
 have hbad:=f1D (z0u root id ts)
 have hzero:=f1D (n0S root id ts)
 have hpl:=f1D (l0H root id hi ts hts)
 have H0:=f1D (show disL root id (ts.take 0)=(c0R root 0 id,b0C id) by rw[List.take_zero];rfl)
 have HE:=f1D (show disL root id (ts.take ts.length)=disL root id ts by rw[List.take_length])
 have hts:=f1D hts
 have hUo:=k0v root id
 generalize c0R root 0 id=U at *
 generalize b0C id=e0 at *
 generalize disL root id=DL at *
 have hle2:w.heap.size+1 < w1.heap.size:=r2.lt
 clear hw1 hZ hs hk hi r1 hE
 have tok1:True:=trivial
 go_enter func6,ntmps6
 go_wp2_with (first
  | (have _t:=tok1;rw[←HW.out];clear tok1)
  | (with_reducible refine wpList_load_row rfl 23 (.tmp 3) rfl w.heap.size rfl 23 (byts root).toArray (0,0) _ R1.out underlying23 rfl hkz.out ?_)
  | (go_at_call 14;refine (hmi.out _ (HEJ.out.next hb1)).mono ?_;rintro e w2 ⟨B0,d0,rfl,s2,hap,hq⟩;have hap:=f1D hap;have r2:=r2.later hq r2.lt;have hsz:=hsz.later (f1F _) hq;have hb2:=hb1.trans (hq.mono hb1.size);have hle3:=f1D hq.size;clear hq;have hVl:=a0n hUo B0 d0;have hzV:=f1D (show (prog.info? 29).map (·.size)=some (tokV U B0 d0).toArray.size by rw[List.size_toArray,hVl];exact a0I);have h36:=f1D (show 36=(tokV U B0 d0).toArray.size by rw[List.size_toArray,hVl]);have hV1:=f1D (show (tokV U B0 d0).toArray.all (·.oneCell')=true by rw[List.all_toArray,List.all_eq_true];exact a0X _ _ _);clear hVl)
  | (have _t:=h36;with_reducible refine wpList_store_row rfl 29 (.tmp 8) (.tmp 16) rfl w2.heap.size (tokV U B0 d0).toArray rfl rfl 29 _ (heap_alloc_new w2 _) hzV.out (Eq.trans (by kernel_rfl) h36.out) hV1.out ?_;refine Hid.out ?_))
 refine f1D ?_
 generalize hw3:World.setRow _ _ _=w3
 obtain⟨r8,hq⟩:=a0v (xs:=tokV U B0 d0) hw3
 have r2:=r2.later hq r2.lt
 have s3:=s2.later (f1F _) hq
 have hsz:=hsz.later (f1F _) hq
 have hb3:=hb2.trans (hq.mono hb2.size)
 have hne0:0 < (U.cavs.flatMap cavV).length→∀a,B0=some a→a.block≠w2.heap.size:=fun h a ha=>by have:=s0o s2 h a ha;omega
 have hfr0:∀a,B0=some a→w.heap.size+1 < a.block:=fun a ha=>by have:=hap.out a ha;omega
 have hg8:w.heap.size+1 < w2.heap.size:=by have:=hle3.out;omega
 generalize w2.heap.size=g8 at *
 clear hw3 hq hzV h36 hV1 hb1 hb2 s2 hap hle3 R1 hkz hmi HW hle2
 generalize hn0:ts.length=n at *
 have HN:=f1D hn0
 by_cases hz0:e0=0
 ·subst hz0
  go_wp2_with fail
  go_loopw [9,24] (fun er i wr=>∃(k:Nat) (B:Option Addr) (d:Nat),k≤n∧i=.int .i64 k∧er=.int .i64 0∧(DL (ts.take k)).2=0∧Row wr g8 29 (tokV (DL (ts.take k)).1 B d)∧Sl wr B (d*5) ((DL (ts.take k)).1.cavs.flatMap cavV) ∧
   (0 < ((DL (ts.take k)).1.cavs.flatMap cavV).length→∀a,B=some a→a.block≠g8)∧(∀a,B=some a→w.heap.size+1 < a.block)∧Row wr (w.heap.size+1) 29 Z∧Sl wr A c (a0F ts)∧Below w.heap.size w wr) (fun _ i _=>n - (intOf i).toNat)
  case atStart=>exact⟨0,B0,d0,by omega,rfl,rfl,by rw[H0.out],by rw[H0.out];exact r8,by rw[H0.out];exact s3,by rw[H0.out];exact hne0,hfr0,r2,hsz,hb3⟩
  case round =>
   clear r8 s3 hne0 hfr0 r2 hsz hb3
   obtain⟨k,B,d,hkn,rfl,rfl,hz,r8,sB,hne,hfr,r2,hsz,hb⟩:=hrel
   obtain⟨hxo,hxl⟩:=hok.out k hkn
   obtain⟨hp1,hp2⟩:=hpl.out k hkn
   by_cases hlt:k < n
   ·have hst1:=hst.out k hlt
    have hsl:=hts.out k hlt
    have hzk:=hzero.out (k+1) (by omega)
    have hbk:=hbad.out (k+1)
    obtain⟨bb,oo,rfl,-,-⟩:=hsz.rd.get (i:=0) (by rw[a0w,HN.out];omega)
    have hix:=b0w (some ⟨bb,oo,none⟩) bb oo n c k rfl hlt
    have hsc:=c0g hsz k (by rw[HN.out];exact hlt)
    generalize ts.getD k []=s at *
    obtain⟨X,hX⟩:∃X,X=DL (ts.take k):=⟨_,rfl⟩
    rw[←hX] at r8 sB hne hxo hxl hst1 hz hp1 hp2
    obtain⟨T,er⟩:=X
    have hz:er=0:=hz
    subst hz
    have hxl:T.cavs.length≤k:=hxl
    have HD:DL (ts.take (k+1))=(attT T s,g0i T s):=by rw[hst1];unfold disF;rw[if_pos rfl]
    have hcs:capC (b0F s)≤10000:=by show s.length+0+0+1≤_;omega
    have hft:({ T with cavs:=T.cavs++[b0F s] } : Tok).Fit:=by
     have hp1:T.id.length≤2000:=hp1
     refine⟨by show T.id.length≤_;omega,by show (T.cavs++[b0F s]).length≤_;rw[List.length_append];show T.cavs.length+1≤_;omega,fun e he=>?_⟩
     rcases List.mem_append.1 he with he | he
     ·obtain⟨q1,q2,q3⟩:=hp2 e he;rw[q2,q3];exact⟨by omega,by decide,by decide⟩
     ·rw[List.mem_singleton.1 he];exact⟨by show s.length≤_;omega,by show (0:Nat)≤_;omega,by show (0:Nat)≤_;omega⟩
    have hat:=f1D (show ∀w',EnvJ w'→Sl w' B (d*5) (T.cavs.flatMap cavV)→Calls prog 15 #[.agg (tokV T B d).toArray,.string (bstr s)] w' (b0L (attT T s) (g0i T s) w') from fun w' h hs=>d1F T hxo s (c0L s) (fun w' h=>o0Y s (by omega) w' h) (by omega) hft (by omega) B d w' h.tabs h.cav hs)
    have hYo:=m0r hxo s
    rw[HD] at hzk hbk
    unfold b0L at hat
    generalize attT T s=Y at *
    generalize g0i T s=ye at *
    have HD:=f1D HD
    have hTl:=a0n hxo B d
    have R8:=f1D (show wr.heap[g8]?=some (.cells (tokV T B d).toArray 29 (0,0)) from r8)
    have hzT:=f1D (show (prog.info? 29).map (·.size)=some (tokV T B d).toArray.size by rw[List.size_toArray,hTl];exact a0I)
    clear hst1 hX hsl hp1 hp2 hcs hft
    have HZK:=f1D hzk
    have HBK:=f1D hbk
    clear hzk hbk
    go_wp2_with (first
     | (with_reducible refine wpList_load_row rfl 29 (.tmp 8) rfl g8 rfl 29 (tokV T B d).toArray (0,0) _ R8.out underlying29 rfl hzT.out ?_)
     | (go_at_call 15;refine (hat.out _ (HEJ.out.next hb) sB).mono ?_;rintro e w5 ⟨B5,d5,rfl,s5,hap5,hq⟩;have hap5:=f1D hap5;have r8:=r8.later hq r8.lt;have r2:=r2.later hq r2.lt;have hsz:=hsz.later (f1F _) hq;have hb:=hb.trans (hq.mono hb.size);have hle5:=f1D (Nat.lt_of_lt_of_le (Row.lt (show Row wr g8 29 (tokV T B d) from R8.out)) (f1F _));clear hq;have hYl:=a0n hYo B5 d5;have R9:=f1D (show w5.heap[g8]?=some (.cells (tokV T B d).toArray 29 (0,0)) from r8);have hzY:=f1D (show (prog.info? 29).map (·.size)=some (tokV Y B5 d5).toArray.size by rw[List.size_toArray,hYl];exact a0I);have hY1:=f1D (show (tokV Y B5 d5).toArray.all (·.oneCell')=true by rw[List.all_toArray,List.all_eq_true];exact a0X _ _ _);have hTY:=f1D (show (tokV T B d).toArray.size=(tokV Y B5 d5).toArray.size by rw[List.size_toArray,List.size_toArray,hTl,hYl]);clear hYl)
     | (have _t:=hTY;refine wpList_store_row rfl 29 (.tmp 8) (.tmp 32) rfl g8 (tokV Y B5 d5).toArray rfl rfl 29 (tokV T B d).toArray R9.out hzY.out hTY.out hY1.out ?_;refine Hid.out ?_))
    refine f1D ?_
    generalize hw8:World.setRow _ _ _=w8
    obtain⟨r9,hgg⟩:=a0y (show Row w5 g8 29 (tokV T B d) from R9.out) hw8
    have s8:=s5.apart hgg (fun _ a ha=>by have:=hap5.out a ha;have:=hle5.out;omega)
    have r2:=r2.grown hgg (by omega)
    have hsz:=hsz.apart hgg (fun h a ha=>by have:=HAb.out h a ha;omega)
    have hb:=hb.grown hgg hb.size (fun k h=>by cases h;omega)
    have hne5:0 < (Y.cavs.flatMap cavV).length→∀a,B5=some a→a.block≠g8:=fun _ a ha=>by have:=hap5.out a ha;have:=hle5.out;omega
    have hfr5:∀a,B5=some a→w.heap.size+1 < a.block:=fun a ha=>by have:=hap5.out a ha;have:=hle5.out;omega
    clear hw8 hgg R8 R9 hzT hzY hY1 hTY hat r8
    by_cases hye:ye=0
    ·have hy2:(ye != 0)=false:=by rw[hye];rfl
     have HY:=f1D hye
     clear hye HZK HBK
     go_wp2_with fail
     go_roundw
     case rel=>exact⟨k+1,B5,d5,by omega,by go_num,by rw[HY.out],by rw[HD.out];exact HY.out,by rw[HD.out];exact r9,by rw[HD.out];exact s8,by rw[HD.out];exact hne5,hfr5,r2,hsz,hb⟩
     case measure=>simp[intOf];omega
    ·have hy2:(ye != 0)=true:=bne_iff_ne.2 hye
     have hYz:Y=b0l:=HZK.out hye
     have HR:=f1D (show DL ts=(b0l,ye) by rw[HBK.out hye,hYz])
     have Q2:=f1D (show w8.heap[w.heap.size+1]?=some (.cells Z.toArray 29 (0,0)) from r2)
     generalize hw88:w8=wv at *
     clear hw88 HZK HBK HD hYz hye r9 s8 hne5 hfr5
     go_wp2_with (have _t:=Q2;refine wpList_store_row rfl 29 (.tmp 6) (.tmp 36) rfl (w.heap.size+1) Z.toArray rfl (by rw[hZe.out];rfl) 29 Z.toArray Q2.out hzZ.out rfl hZ1.out ?_;refine Hid.out ?_)
     refine f1D ?_
     generalize hw8:World.setRow _ _ _=w8
     obtain⟨r9,hg8⟩:=a0y (show Row wv (w.heap.size+1) 29 Z from Q2.out) hw8
     have hb8:=hb.grown hg8 hb.size (fun k h=>by cases h;omega)
     have R9:=f1D (show w8.heap[w.heap.size+1]?=some (.cells Z.toArray 29 (0,0)) from r9)
     clear hw8 r9 Q2
     go_wp2_with fail
     exact⟨rfl,_,a0d rfl _ _ (w.heap.size+1) 29 Z.toArray (0,0) _ rfl R9.out underlying29 rfl hzZ.out _ rfl,none,0,by rw[HR.out,HZ.out];rfl,by rw[HR.out];exact c0x _,(fun a h=>by cases h),hb8⟩
   ·obtain rfl:k=n:=by omega
    rw[HE.out] at r8 sB hne hxo hz
    generalize DL ts=X at *
    obtain⟨T,er⟩:=X
    have hz:er=0:=hz
    subst hz
    have hTl:=a0n hxo B d
    have R8:=f1D (show wr.heap[g8]?=some (.cells (tokV T B d).toArray 29 (0,0)) from r8)
    have Q2:=f1D (show wr.heap[w.heap.size+1]?=some (.cells Z.toArray 29 (0,0)) from r2)
    have hzT:=f1D (show (prog.info? 29).map (·.size)=some (tokV T B d).toArray.size by rw[List.size_toArray,hTl];exact a0I)
    have hT1:=f1D (show (tokV T B d).toArray.all (·.oneCell')=true by rw[List.all_toArray,List.all_eq_true];exact a0X _ _ _)
    have hTZ:=f1D (show Z.toArray.size=(tokV T B d).toArray.size by rw[List.size_toArray,List.size_toArray,hTl,hZl])
    clear hlt r8 r2 hst hok HE H0 hxl hTl hpl hp1 hp2 hbad hzero
    go_wp2_with (first
     | (with_reducible refine wpList_load_row rfl 29 (.tmp 8) rfl g8 rfl 29 (tokV T B d).toArray (0,0) _ R8.out underlying29 rfl hzT.out ?_)
     | (have _t:=Q2;refine wpList_store_row rfl 29 (.tmp 6) (.tmp 39) rfl (w.heap.size+1) (tokV T B d).toArray rfl rfl 29 Z.toArray Q2.out hzT.out hTZ.out hT1.out ?_;refine Hid.out ?_))
    refine f1D ?_
    generalize hw8:World.setRow _ _ _=w8
    obtain⟨r9,hgg⟩:=a0y (show Row wr (w.heap.size+1) 29 Z from Q2.out) hw8
    have hb8:=hb.grown hgg hb.size (fun k h=>by cases h;omega)
    have s8:=sB.apart hgg (fun h a ha=>by have:=hfr a ha;omega)
    have R9:=f1D (show w8.heap[w.heap.size+1]?=some (.cells (tokV T B d).toArray 29 (0,0)) from r9)
    clear hw8 r9 Q2
    go_wp2_with fail
    exact⟨rfl,_,a0d rfl _ _ (w.heap.size+1) 29 (tokV T B d).toArray (0,0) _ rfl R9.out underlying29 rfl hzT.out _ rfl,B,d,rfl,s8,(fun a ha=>by have:=hfr a ha;omega),hb8⟩
 ·have hy2:(e0 != 0)=true:=bne_iff_ne.2 hz0
  have hU:U=b0l:=by have:=hzero.out 0 (by omega);rw[H0.out] at this;exact this hz0
  have HR:=f1D (show DL ts=(b0l,e0) by have:=hbad.out 0;rw[H0.out,hU] at this;exact this hz0)
  have Q2:=f1D (show w3.heap[w.heap.size+1]?=some (.cells Z.toArray 29 (0,0)) from r2)
  clear hU hz0 H0 HE hbad hzero hpl hok hst hts r8 s3 hne0 hfr0
  go_wp2_with (have _t:=Q2;refine wpList_store_row rfl 29 (.tmp 6) (.tmp 20) rfl (w.heap.size+1) Z.toArray rfl (by rw[hZe.out];rfl) 29 Z.toArray Q2.out hzZ.out rfl hZ1.out ?_;refine Hid.out ?_)
  refine f1D ?_
  generalize hw8:World.setRow _ _ _=w8
  obtain⟨r9,hg8⟩:=a0y (show Row w3 (w.heap.size+1) 29 Z from Q2.out) hw8
  have hb8:=hb3.grown hg8 hb3.size (fun k h=>by cases h;omega)
  have R9:=f1D (show w8.heap[w.heap.size+1]?=some (.cells Z.toArray 29 (0,0)) from r9)
  clear hw8 r9 Q2
  go_wp2_with fail
  exact⟨rfl,_,a0d rfl _ _ (w.heap.size+1) 29 Z.toArray (0,0) _ rfl R9.out underlying29 rfl hzZ.out _ rfl,none,0,by rw[HR.out,HZ.out];rfl,by rw[HR.out];exact c0x _,(fun a h=>by cases h),hb8⟩
def n0o:List UInt8:=[115,116,114,101,97,109]
def c1U:List UInt8:=[115,101,97,108]
def h0K (key nonce:List UInt8) (i:Nat):List UInt8:=keyD key n0o [nonce,b0j i]
theorem m0M (key nonce:List UInt8) (i:Nat):(h0K key nonce i).length=32:=b0H _ _ _
def i0L (key nonce:List UInt8) (n:Nat):List UInt8:=(List.range n).map fun i=>(h0K key nonce (i/32)).getD (i%32) 0
theorem h0o (key nonce:List UInt8) (n:Nat):(i0L key nonce n).length=n:=by unfold i0L;simp
theorem i0S (key nonce:List UInt8) (n i:Nat) (h:i < n):(i0L key nonce n).getD i 0=(h0K key nonce (i/32)).getD (i%32) 0:=by
 unfold i0L
 simp[h]
def c0N (a b:List UInt8):List UInt8:=List.zipWith (· ^^^ ·) a b
theorem p0L (a b:List UInt8) (k:Nat) (ha:k < a.length) (hb:k < b.length):c0N (a.take (k+1)) (b.take (k+1))=c0N (a.take k) (b.take k)++[a.getD k 0 ^^^ b.getD k 0]:=by
 unfold c0N
 rw[←List.take_zipWith,←List.take_zipWith,List.take_add_one]
 simp[ha,hb]
 rw[List.getElem?_zipWith,List.getElem?_eq_getElem ha,List.getElem?_eq_getElem hb]
theorem d0z (a b:List UInt8) (h:a.length=b.length):(c0N a b).length=a.length:=by
 unfold c0N
 rw[List.length_zipWith];omega
def p0F (key nonce s:List UInt8):List UInt8:=c0N s (i0L key nonce s.length)
theorem g0A (key nonce s:List UInt8):(p0F key nonce s).length=s.length:=d0z _ _ (h0o _ _ _).symm
def l0c (key nonce t:List UInt8):List UInt8:=keyD key c1U [nonce,t]
theorem f0u (key nonce t:List UInt8):(l0c key nonce t).length=32:=b0H _ _ _
def p0r (key nonce p:List UInt8):List UInt8:=nonce++p0F key nonce p++l0c key nonce (p0F key nonce p)
theorem i0W (key nonce p:List UInt8) (h:nonce.length=32):(p0r key nonce p).length=64+p.length:=by
 unfold p0r
 rw[List.length_append,List.length_append,g0A,f0u,h];omega
def o0V:List UInt8:=[112,97,114,116,121]
def p0J:List UInt8:=[118,97,117,108,116]
def b0G:List UInt8:=List.replicate 32 0
def h0S (key nonce root cond:List UInt8):List UInt8:=p0r (keyD key o0V []) nonce (root++cond)
def h0Q (t nonce root:List UInt8):List UInt8:=p0r (keyD t p0J []) nonce root
theorem i0V (key nonce root cond:List UInt8) (hn:nonce.length=32) (hr:root.length=32):(h0S key nonce root cond).length=96+cond.length:=by
 unfold h0S;rw[i0W _ _ _ hn,List.length_append,hr];omega
theorem i0U (t nonce root:List UInt8) (hn:nonce.length=32) (hr:root.length=32):(h0Q t nonce root).length=96:=by
 unfold h0Q;rw[i0W _ _ _ hn,hr]
structure Deal where
 party:Nat
 key:List UInt8
 root:List UInt8
 cond:List UInt8
 ask:List UInt8
 vault:List UInt8
structure Deal.Ok (d:Deal):Prop where
 party:d.party < 18446744073709551616
 key:d.key.length=32
 root:d.root.length=32
 ask:d.ask.length=32
 vault:d.vault.length=32
def g0v (d:Deal):List Value:=[Value.int .u64 (d.party:Int)]++(byts d.key++(byts d.root++([Value.string (bstr d.cond)]++(byts d.ask++byts d.vault))))
theorem o0A {d:Deal} (h:d.Ok):(g0v d).length=130:=by
 unfold g0v
 simp only[List.length_append,List.length_cons,List.length_nil,a0b,h.key,h.root,h.ask,h.vault]
def cavD (t:List UInt8) (d:Deal):Cav:=⟨true,[],d.party,h0S d.key d.ask d.root d.cond,h0Q t d.vault d.root⟩
def d0R (t:Tok) (d:Deal):Int:=if t.bound=true then 6 else if 512 < d.cond.length then 1 else b0B t (cavD t.tag d)
def m0k (t:Tok) (d:Deal):Tok:=if d0R t d=0 then c0G t (cavD t.tag d) else b0l
theorem n0K (t:List UInt8) (d:Deal) (hd:d.Ok):capC (cavD t d)=d.cond.length+193:=by
 show 0+(h0S d.key d.ask d.root d.cond).length+(h0Q t d.vault d.root).length+1=_
 rw[i0V _ _ _ _ hd.ask hd.root,i0U _ _ _ hd.vault hd.root];omega
theorem h0u (a b:List UInt8):bstr a++bstr b=bstr (a++b):=by
 unfold bstr
 apply ByteArray.ext
 rw[ByteArray.data_append]
 simp
end Go.Proofs.YtcbilopdeiapjaaGreatDoor
