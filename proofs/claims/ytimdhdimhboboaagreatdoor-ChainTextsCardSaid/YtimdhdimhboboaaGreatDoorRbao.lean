import Derived.Test.YtimdhdimhboboaaGreatDoorRban
import Derived.Test.YtimdhdimhboboaaGreatDoorRbak
import Derived.Test.YtimdhdimhboboaaGreatDoorRbab
import Derived.Test.YtimdhdimhboboaaGreatDoorRbai
namespace Go.Proofs.YtimdhdimhboboaaGreatDoor
set_option maxRecDepth 100000
open Go Go.RowKit
set_option maxHeartbeats 8000000 in
theorem c1A (t:Tok) (ht:t.Ok) (cv:Cav) (hp:cv.party < 18446744073709551616) (hcv:capC cv≤100000) (hm:t.cavs.length≤1000000) (hft:({ t with cavs:=t.cavs++[cv] } : Tok).Fit) (A:Option Addr) (c:Nat) (w:World) (hT:Tabs w) (hs:Sl w A (c*5) (t.cavs.flatMap cavV)) :
  Calls Tryz.prog 14 #[.agg (tokV t A c).toArray,.agg (cavV cv).toArray] w (d0z (addT t cv) (b0K t cv) w):=by
 obtain⟨i0,hi,hz0,hsz0,hby0⟩:=m0g
 obtain⟨Z,hZ⟩:∃Z,Z=tokV d0j none 0:=⟨_,rfl⟩
 have hZl:Z.length=36:=by rw[hZ];exact a0u d0p none 0
 have hZe:=Lib.hid (hZ.trans ztok)
 have hzZ:=Lib.hid (show (Tryz.prog.info? 27).map (·.size)=some Z.toArray.size by rw[List.size_toArray,hZl];exact a0T)
 have hZ1:=Lib.hid (show Z.toArray.all (·.oneCell')=true by rw[hZ,List.all_toArray,List.all_eq_true];exact b0W _ _ _)
 obtain⟨X,hX⟩:∃X,X=tokV t A c:=⟨_,rfl⟩
 have hXl:X.length=36:=by rw[hX];exact a0u ht A c
 have hzX2:=Lib.hid (show (Tryz.prog.info? 27).map (·.size)=some X.toArray.size by rw[List.size_toArray,hXl];exact a0T)
 obtain⟨w1,hw1⟩:∃w1,w1=((w.alloc (.cells X.toArray 27)).alloc (.cells (cavV cv).toArray 29)).alloc (.cells Z.toArray 27):=⟨_,rfl⟩
 obtain⟨r1,r2,r3,hb1,hs1⟩:=o0y hw1.symm
 have HW:=Lib.hid (hw1.trans (by rw[hZe.out]))
 have ts:=hs.later (Nat.le_refl _) hb1
 have hc3:w1.cell? ⟨w.heap.size,3,none⟩=some (.bool t.bound):=by rw[r1.cell,hX];rfl
 have Hcl:=Lib.hid (show ∀w',Sl w' A (c*5) (t.cavs.flatMap cavV)→Calls Tryz.prog 29 #[.agg X.toArray] w' fun e w''=>∃B d,e=.returned (.agg (tokV t B d).toArray)∧w''.ownsRow w'.heap.size 29 5 (.slice B t.cavs.length d) t.cavs.length (t.cavs.flatMap cavV)∧Below w'.heap.size w' w'' by
  rw[hX];exact fun w' h=>s0Y t ht hm A c w' h)
 have HZ:=Lib.hid hZ
 have HX:=Lib.hid hX
 have HTB:=Lib.hid hT
 rw[←hX]
 clear hw1 hZ hX hs hT
 have Q3:=Lib.hid (show w1.heap[w.heap.size+1+1]?=some (.cells Z.toArray 27 (0,0)) from r3)
 have tok1:True:=trivial
 cases hbd:t.bound with
 | true =>
  have HE:=Lib.hid (show b0K t cv=6 by unfold b0K;rw[if_pos hbd])
  have HG:=Lib.hid (show addT t cv=d0j by unfold addT;rw[HE.out];rfl)
  rw[hbd] at hc3
  clear r1 r2 r3 ts hXl hZl Hcl
  generalize addT t cv=U at *
  generalize b0K t cv=er at *
  go_enter Tryz.func14,Tryz.ntmps14
  go_wp2_with (first
   | (have _t:=tok1;rw[←HW.out];clear tok1)
   | (have _t:=Q3;refine wpList_store_row rfl 27 (.tmp 4) (.tmp 10) rfl (w.heap.size+1+1) Z.toArray rfl (by rw[hZe.out];rfl) 27 Z.toArray Q3.out hzZ.out rfl hZ1.out ?_;refine Hid.out ?_))
  refine Lib.hid ?_
  generalize hw8:World.setRow _ _ _=w8
  obtain⟨r8,hg8⟩:=a0z (show Row w1 (w.heap.size+1+1) 27 Z from Q3.out) hw8
  have hb8:=hb1.grown hg8 hb1.size (fun k h=>by cases h;omega)
  have R8:=Lib.hid (show w8.heap[w.heap.size+1+1]?=some (.cells Z.toArray 27 (0,0)) from r8)
  clear hw8 r8 Q3
  go_wp2_with fail
  exact⟨rfl,_,a0g rfl _ _ (w.heap.size+1+1) 27 Z.toArray (0,0) _ rfl R8.out Tryz.underlying27 rfl hzZ.out _ rfl,none,0,by rw[HE.out,HG.out,HZ.out];rfl,by rw[HG.out];exact d0O _,(fun a h=>by cases h),hb8⟩
 | false =>
  rw[hbd] at hc3
  have R1:=Lib.hid (show w1.heap[w.heap.size]?=some (.cells X.toArray 27 (0,0)) from r1)
  have Hnx:=Lib.hid (v0x t.tag ht.tag cv hp hcv)
  have n1:t.cavs.length+1≤maxLen:=by unfold maxLen;omega
  have n2:(t.cavs.length+1)*64≤140737488355328:=by omega
  have hmo:(d0L t cv).Ok:=h0D ht hp
  have hto:({ t with cavs:=t.cavs++[cv] } : Tok).Ok:=⟨hmo.key,hmo.party,ht.tag⟩
  have hsc:=Lib.hid (show (Tryz.prog.info? 29).map (·.size)=some (cavV cv).length from c0r)
  have HER:=Lib.hid (show b0K t cv=errT ({ t with cavs:=t.cavs++[cv] } : Tok) by unfold b0K;rw[if_neg (by rw[hbd];decide)];rfl)
  have HEC:=Lib.hid (show b0K t cv=if d0F (d0L t cv)=true then 0 else 1 by unfold b0K;rw[if_neg (by rw[hbd];decide)])
  have HG:=Lib.hid (show addT t cv=if b0K t cv=0 then d0L t cv else d0j from rfl)
  go_enter Tryz.func14,Tryz.ntmps14
  go_wp2_with (first
   | (have _t:=tok1;rw[←HW.out];clear tok1)
   | (with_reducible refine wpList_load_row rfl 27 (.tmp 2) rfl w.heap.size rfl 27 X.toArray (0,0) _ R1.out Tryz.underlying27 rfl hzX2.out ?_)
   | (go_at_call 29;refine (Hcl.out _ ts).mono ?_;rintro e w2 ⟨B,d,rfl,own2,hq⟩;have hYl:=a0u ht B d;have hzY:=Lib.hid (show (Tryz.prog.info? 27).map (·.size)=some (tokV t B d).toArray.size by rw[List.size_toArray,hYl];exact a0T);have h36:=Lib.hid (show 36=(tokV t B d).toArray.size by rw[List.size_toArray,hYl]);have hY1:=Lib.hid (show (tokV t B d).toArray.all (·.oneCell')=true by rw[List.all_toArray,List.all_eq_true];exact b0W _ _ _);clear hYl)
   | (have _t:=hzY;with_reducible refine wpList_store_row rfl 27 (.tmp 6) (.tmp 12) rfl w2.heap.size (tokV t B d).toArray rfl rfl 27 _ (heap_alloc_new w2 _) hzY.out (Eq.trans (by kernel_rfl) h36.out) hY1.out ?_;refine Hid.out ?_))
  refine Lib.hid ?_
  generalize hw3:World.setRow _ _ _=w3
  obtain⟨r6,hb3⟩:=a0p (xs:=tokV t B d) hw3
  have hOB:=Lib.hid (fun j hj=>own2.lt j hj)
  have own:=c0h own2 hb3 (Nat.le_refl _)
  have hq13:=hq.trans (hb3.mono hq.size)
  have r1:=r1.later hq13 r1.lt
  have r2:=r2.later hq13 r2.lt
  have r3:=r3.later hq13 r3.lt
  have hbw:=hb1.trans (hq13.mono hb1.size)
  have h16:=hq.size
  have h63:=r6.lt
  have h13:=hq13.size
  clear hw3 hb3 hq hq13 hb1 own2 R1 HW hc3 Q3 ts Hcl hzY h36 hY1
  generalize hG1:w1.heap.size=g1 at *
  generalize hG6:w2.heap.size=g6 at *
  have hc2:w3.cell? ⟨g6,2,none⟩=some (.slice B t.cavs.length d):=by rw[r6.cell];rfl
  have K2:=Lib.hid (a0m r2)
  have hs1:=Lib.hid hs1
  have h16:=Lib.hid h16
  have h63:=Lib.hid h63
  have h13:=Lib.hid h13
  clear hG1 hG6
  go_wp2_with (first
   | (with_reducible refine wpList_load_mid rfl 29 (.tmp 3) rfl (w.heap.size+1) 0 rfl (cavV cv) _ K2.out Tryz.underlying29 rfl hsc.out ?_)
   | (refine f0s rfl 25 1 [_] rfl [(0,.agg (cavV cv).toArray)] rfl _ (t0A cv w3) ?_;refine Hid.out ?_))
  refine Lib.hid ?_
  have hb4:=(Below.refl w3.heap.size w3).alloc (Nat.le_refl _) (.cells (cavV cv).toArray 29)
  have s4:Sl (w3.alloc (.cells (cavV cv).toArray 29)) (some ⟨w3.heap.size,0,none⟩) (1*5) (cavV cv):=c0O (cavV cv) rfl 5 rfl
  generalize w3.alloc (.cells (cavV cv).toArray 29)=w4 at *
  have own:=c0h own hb4 (Nat.le_refl _)
  have r1:=r1.later hb4 r1.lt
  have r2:=r2.later hb4 r2.lt
  have r3:=r3.later hb4 r3.lt
  have r6:=r6.later hb4 r6.lt
  have hbw:=hbw.trans (hb4.mono hbw.size)
  have h14:g1≤w4.heap.size:=Nat.le_trans h13.out hb4.size
  have h64:=Lib.hid (Nat.lt_of_lt_of_le h63.out hb4.size)
  clear hb4 K2 hc2
  go_wp2_with (at_builtin;refine i0s rfl (.tmp 14) (.tmp 16) 25 rfl g1 29 i0 _ 5 64 Tryz.underlying25 hi hz0 hsz0 (by omega) hby0 rfl _ t.cavs.length (t.cavs.flatMap cavV) rfl own ⟨w3.heap.size,0,none⟩ 1 (cavV cv) rfl rfl s4 (h0w cv) n1 n2 h14 ?_;intro v5 w5 own5 hg5 hnew5;obtain⟨B5,d5,rfl,-,s5⟩:=Sl.of_ownk own5;refine Hid.out ?_)
  refine Lib.hid ?_
  have hfr5:=s0Q own5
  have e1:=hs1.out
  have e2:=h16.out
  have e3:=h64.out
  have hne6:∀a,B5=some a→a.block≠g6:=fun a ha=>by
   rcases hnew5 a.block (by rw[ha];rfl) with h | h
   ·have:=(hOB.out a.block h).2;omega
   ·omega
  have r6:=Row.kept r6 hg5 (fun k hk e=>by have:=(hOB.out k hk).2;omega)
  have r1:=Row.kept r1 hg5 (fun k hk e=>by have:=(hOB.out k hk).1;omega)
  have r2:=Row.kept r2 hg5 (fun k hk e=>by have:=(hOB.out k hk).1;omega)
  have r3:=Row.kept r3 hg5 (fun k hk e=>by have:=(hOB.out k hk).1;omega)
  have hbw:=hbw.grown hg5 hbw.size (fun k hk=>by have:=(hOB.out k hk).1;omega)
  have hcc:w5.cell? ⟨g6,2,none⟩=some (.slice B t.cavs.length d):=by rw[r6.cell];rfl
  have hff:=r6.free 2
  have hgs:=a0q w5 g6 2 (Value.slice B5 (t.cavs.length+1) d5)
  have r6:Row (w5.setCell ⟨g6,2,none⟩ (Value.slice B5 (t.cavs.length+1) d5)) g6 27 (tokV ({ t with cavs:=t.cavs++[cv] } : Tok) B5 d5):=(j0p t cv B B5 d d5) ▸ r6.set 2 (Value.slice B5 (t.cavs.length+1) d5)
  have r1:=r1.grown hgs (by omega)
  have r2:=r2.grown hgs (by omega)
  have r3:=r3.grown hgs (by omega)
  have s6:=r0t (s5.apart hgs (fun _ a ha=>hne6 a ha))
  have hbs:=hbw.grown hgs hbw.size (fun k h=>by cases h;omega)
  have hck:=Lib.hid (fun w' h=>l0v ({ t with cavs:=t.cavs++[cv] } : Tok) hto hft B5 d5 w' h)
  rw[←HER.out] at hck
  have hput:=Lib.hid (show splice (tokV ({ t with cavs:=t.cavs++[cv] } : Tok) B5 d5) 4 (byts (d0l t.tag cv))=tokV (d0L t cv) B5 d5 from h0r _ B5 d5 _ hto (b0G _ _))
  have hYl:(tokV ({ t with cavs:=t.cavs++[cv] } : Tok) B5 d5).length=36:=a0u hto B5 d5
  have hzY:=Lib.hid (show (Tryz.prog.info? 27).map (·.size)=some (tokV ({ t with cavs:=t.cavs++[cv] } : Tok) B5 d5).toArray.size by rw[List.size_toArray,hYl];exact a0T)
  have hnl:=a0R _ (b0G t.tag cv)
  have hfit:=Lib.hid (show 4+(byts (d0l t.tag cv)).length≤(tokV ({ t with cavs:=t.cavs++[cv] } : Tok) B5 d5).length by rw[hnl,hYl];exact Nat.le_refl _)
  obtain⟨V,hV⟩:∃V,V=tokV (d0L t cv) B5 d5:=⟨_,rfl⟩
  have hVl:V.length=36:=by rw[hV];exact a0u hmo B5 d5
  have hzV:=Lib.hid (show (Tryz.prog.info? 27).map (·.size)=some V.toArray.size by rw[List.size_toArray,hVl];exact a0T)
  have hV1:=Lib.hid (show V.toArray.all (·.oneCell')=true by rw[hV,List.all_toArray,List.all_eq_true];exact b0W _ _ _)
  have hVZ:=Lib.hid (show Z.toArray.size=V.toArray.size by rw[List.size_toArray,List.size_toArray,hVl,hZl])
  have HV:=Lib.hid hV
  rw[←hV] at hput
  have hfr:=Lib.hid (show ∀a,B5=some a→w.heap.size+2 < a.block∧a.block≠g6 from fun a ha=>⟨by have:=hfr5 a ha;omega,hne6 a ha⟩)
  have h6g:=Lib.hid (show w.heap.size+2 < g6 by omega)
  clear hV hVl hYl hgs hg5 hnew5 own5 s5 own hfr5 hne6 hOB s4 e1 e2 e3 hs1 h16 h63 h13 h14 h64 hXl hZl hbw
  generalize tokV ({ t with cavs:=t.cavs++[cv] } : Tok) B5 d5=Y at *
  have R6:=Lib.hid (show (w5.setCell ⟨g6,2,none⟩ (Value.slice B5 (t.cavs.length+1) d5)).heap[g6]?=some (.cells Y.toArray 27 (0,0)) from r6)
  go_wp2_with (first
   | (with_reducible refine wpList_load_row rfl 27 (.tmp 6) rfl g6 rfl 27 Y.toArray (0,0) _ R6.out Tryz.underlying27 rfl hzY.out ?_)
   | (go_at_call 30;refine (hck.out _ s6).mono ?_;rintro e w6 ⟨rfl,hq⟩;have r1:=r1.later hq r1.lt;have r2:=r2.later hq r2.lt;have r3:=r3.later hq r3.lt;have r6:=r6.later hq r6.lt;have s6:=s6.later (Nat.le_refl _) hq;have hB:=hbs.trans (hq.mono hbs.size);clear hq;refine Hid.out ?_))
  refine Lib.hid ?_
  clear R6 hck hcc hff hbs
  have Q3:=Lib.hid (show w6.heap[w.heap.size+1+1]?=some (.cells Z.toArray 27 (0,0)) from r3)
  have hnz:=Lib.hid (show (Tryz.prog.info? 23).map (·.size)=some (byts (d0l t.tag cv)).length by rw[a0C,hnl])
  have hone:=Lib.hid (a0o (d0l t.tag cv))
  clear hnl
  generalize addT t cv=U at *
  generalize b0K t cv=er at *
  generalize hM:d0L t cv=M at *
  have HMS:=Lib.hid (show ∀w',Sl w' B5 (d5*5) (({ t with cavs:=t.cavs++[cv] } : Tok).cavs.flatMap cavV)→Sl w' B5 (d5*5) (M.cavs.flatMap cavV) from fun w' h=>by rw[←hM];exact h)
  have K1:=Lib.hid (d0Q (HX.out ▸ r1))
  have K2:=Lib.hid (a0m r2)
  have hkz:=Lib.hid (show (Tryz.prog.info? 23).map (·.size)=some (byts t.tag).length by rw[a0C,a0R _ ht.tag])
  clear hM
  generalize d0l t.tag cv=nx at *
  cases hok:d0F M with
  | false =>
   rw[hok] at HEC
   have e1:er=1:=HEC.out.trans (if_neg (by decide))
   have e2:U=d0j:=by rw[HG.out,e1];rfl
   have hne:(er != 0)=true:=by rw[e1];rfl
   have E2:=Lib.hid e2
   clear e1 e2 HEC HG HER r1 r2 r6 s6 r3
   go_wp2_with (first
    | (have _t:=Q3;refine wpList_store_row rfl 27 (.tmp 4) (.tmp 23) rfl (w.heap.size+1+1) Z.toArray rfl (by rw[hZe.out];rfl) 27 Z.toArray Q3.out hzZ.out rfl hZ1.out ?_;refine Hid.out ?_))
   refine Lib.hid ?_
   generalize hw8:World.setRow _ _ _=w8
   obtain⟨r8,hg8⟩:=a0z (show Row w6 (w.heap.size+1+1) 27 Z from Q3.out) hw8
   have hb8:=hB.grown hg8 hB.size (fun k h=>by cases h;omega)
   have R8:=Lib.hid (show w8.heap[w.heap.size+1+1]?=some (.cells Z.toArray 27 (0,0)) from r8)
   clear hw8 r8 Q3
   go_wp2_with fail
   exact⟨rfl,_,a0g rfl _ _ (w.heap.size+1+1) 27 Z.toArray (0,0) _ rfl R8.out Tryz.underlying27 rfl hzZ.out _ rfl,none,0,by rw[E2.out,HZ.out];rfl,by rw[E2.out];exact d0O _,(fun a h=>by cases h),hb8⟩
  | true =>
   rw[hok] at HEC
   have e1:er=0:=HEC.out.trans (if_pos rfl)
   have e2:U=M:=by rw[HG.out,e1];rfl
   have hne:(er != 0)=false:=by rw[e1];rfl
   have E1:=Lib.hid e1
   have E2:=Lib.hid e2
   clear e1 e2 HEC HG HER r1 r2 Q3
   have h6:=h6g.out
   go_wp2_with (first
    | (with_reducible refine wpList_load_mid rfl 23 (.tmp 25) rfl w.heap.size 4 rfl (byts t.tag) _ K1.out Tryz.underlying23 rfl hkz.out ?_)
    | (with_reducible refine wpList_load_mid rfl 29 (.tmp 3) rfl (w.heap.size+1) 0 rfl (cavV cv) _ K2.out Tryz.underlying29 rfl hsc.out ?_)
    | (go_at_call 12;refine (Hnx.out _ (HTB.out.later hB (Nat.le_refl _))).mono ?_;rintro e w7 ⟨rfl,hq⟩;have r6:=r6.later hq r6.lt;have s6:=s6.later (Nat.le_refl _) hq;have r3:=r3.later hq r3.lt;have hB:=hB.trans (hq.mono hB.size);clear hq)
    | (have _t:=w7;refine d0D rfl 23 (.tmp 29) (.tmp 28) rfl g6 4 27 Y (byts nx) rfl rfl r6 hfit.out hnz.out hone.out ?_;intro w9 r6x hg9;refine Hid.out ?_))
   refine Lib.hid ?_
   have r6:Row w9 g6 27 V:=by rw[hput.out] at r6x;exact r6x
   have s6:=s6.apart hg9 (fun _ a ha=>(hfr.out a ha).2)
   have r3:=r3.grown hg9 (by omega)
   have hB:=hB.grown hg9 hB.size (fun k h=>by cases h;omega)
   have K6:=Lib.hid (show w9.heap[g6]?=some (.cells V.toArray 27 (0,0)) from r6)
   have Q3:=Lib.hid (show w9.heap[w.heap.size+1+1]?=some (.cells Z.toArray 27 (0,0)) from r3)
   clear r6x hg9 K1 K2 hput hfit hone hnz Hnx hkz hsc hmo hto r3
   go_wp2_with (first
    | (with_reducible refine wpList_load_row rfl 27 (.tmp 6) rfl g6 rfl 27 V.toArray (0,0) _ K6.out Tryz.underlying27 rfl hzV.out ?_)
    | (have _t:=Q3;refine wpList_store_row rfl 27 (.tmp 4) (.tmp 30) rfl (w.heap.size+1+1) V.toArray rfl rfl 27 Z.toArray Q3.out hzV.out hVZ.out hV1.out ?_;refine Hid.out ?_))
   refine Lib.hid ?_
   generalize hw8:World.setRow _ _ _=w8
   obtain⟨r8,hg8⟩:=a0z (show Row w9 (w.heap.size+1+1) 27 Z from Q3.out) hw8
   have hb8:=hB.grown hg8 hB.size (fun k h=>by cases h;omega)
   have R8:=Lib.hid (show w8.heap[w.heap.size+1+1]?=some (.cells V.toArray 27 (0,0)) from r8)
   clear hw8 r8 Q3
   go_wp2_with fail
   exact⟨rfl,_,a0g rfl _ _ (w.heap.size+1+1) 27 V.toArray (0,0) _ rfl R8.out Tryz.underlying27 rfl hzV.out _ rfl,B5,d5,by rw[E2.out,E1.out,HV.out];rfl,by rw[E2.out];exact HMS.out _ (s6.apart hg8 (fun _ a ha=>by have:=(hfr.out a ha).1;omega)),(fun a ha=>by have:=(hfr.out a ha).1;omega),hb8⟩
def a0P:Rng:=⟨a0G,0⟩
theorem b0P:a0P.Ok:=⟨b0D,by decide,by decide⟩
def ofR (a:Adr) (n:Int):Rng:=if ofOk a n then ⟨topA a n,n⟩ else a0P
theorem q0p (a:Adr) (n:Int):(topA a n).Ok:=c0l _ _
theorem c1I (a:Adr) (n:Int) (hlo:-9223372036854775808≤n) (hhi:n≤9223372036854775807):(ofR a n).Ok:=by
 unfold ofR
 split
 ·exact⟨q0p a n,hlo,hhi⟩
 ·exact b0P
theorem q0W (a:Adr) (n:Int) (h:ofOk a n=true):ofR a n=⟨topA a n,n⟩:=by unfold ofR;rw[h];rfl
theorem b1w (a:Adr) (n:Int) (h:ofOk a n=false):ofR a n=a0P:=by unfold ofR;rw[h];rfl
theorem s0O (a:Adr) (n:Int) (h:ofOk a n=false):b0b a=false∨b0b a=true∧n < 0∨b0b a=true∧0≤n∧(d0B a.v6:Int) < n:=by
 cases hc:b0b a with
 | false=>exact .inl rfl
 | true =>
  refine .inr ?_
  by_cases h0:n < 0
  ·exact .inl ⟨rfl,h0⟩
  ·refine .inr ⟨rfl,by omega,?_⟩
   by_cases hM:(d0B a.v6:Int) < n
   ·exact hM
   ·have:=(m0s a n).2 ⟨hc,by omega,by omega⟩
    rw[this] at h;cases h
theorem x0S (v6:Bool) (b:List UInt8) (q:Nat) (y:UInt8):(adrV ⟨v6,b⟩).set (1+q) (.int .u8 (y.toNat:Int))=adrV ⟨v6,b.set q y⟩:=by
 unfold adrV
 rw[Nat.add_comm,List.set_cons_succ,i0W]
theorem h0Q:rngV a0P=[Value.bool false,.int .u8 0,.int .u8 0,.int .u8 0,.int .u8 0,.int .u8 0,.int .u8 0,.int .u8 0,.int .u8 0,.int .u8 0,.int .u8 0,.int .u8 0,.int .u8 0,.int .u8 0,.int .u8 0,.int .u8 0,.int .u8 0,.int .i64 0]:=by kernel_rfl
def i0N (o:Option Rng):Value:=match o with
 | none=>.tuple #[.agg (rngV a0P).toArray,.bool false]
 | some r=>.tuple #[.agg (rngV r).toArray,.bool true]
theorem m0R (a:Adr):(adrV a).toArray.all (·.oneCell')=true:=a0Y (c0A a)
theorem d0d (r:Rng):(rngV r).toArray.all (·.oneCell')=true:=a0Y (r0q r)
theorem a0w (r:Rng) (h:r.a.Ok):(rngV r).length=18:=by unfold rngV;rw[List.length_append,a0l h];rfl
def oddC (m:Nat):Nat:=if h:m=0 then 0 else if m%2=0 then oddC (m/2) else m
termination_by m
decreasing_by omega
def a0V (m:Nat):Nat:=if h:m=0 then 0 else if m%2=0 then a0V (m/2)+1 else 0
termination_by m
decreasing_by omega
theorem h0I (m:Nat) (h:m≠0) (h2:m%2=0):oddC m=oddC (m/2):=by rw[oddC,dif_neg h,if_pos h2]
theorem j0g (m:Nat) (h2:m%2=1):oddC m=m:=by rw[oddC,dif_neg (by omega),if_neg (by omega)]
theorem f0G (m:Nat) (h:m≠0) (h2:m%2=0):a0V m=a0V (m/2)+1:=by rw[a0V,dif_neg h,if_pos h2]
theorem g0w (m:Nat) (h2:m%2=1):a0V m=0:=by rw[a0V,dif_neg (by omega),if_neg (by omega)]
theorem d0M (m:Nat) (h:m≠0):oddC m%2=1∧m=oddC m*2^a0V m:=by
 induction m using Nat.strongRecOn with
 | _ m ih =>
  by_cases h2:m%2=0
  ·obtain⟨a,b⟩:=ih (m/2) (by omega) (by omega)
   rw[h0I m h h2,f0G m h h2]
   refine⟨a,?_⟩
   rw[Nat.pow_succ,←Nat.mul_assoc,←b]
   omega
  ·rw[j0g m (by omega),g0w m (by omega)]
   exact⟨by omega,by simp⟩
theorem w0b (m:Nat) (hm:m%2=1):∀k,oddC (m*2^k)=m∧a0V (m*2^k)=k:=by
 intro k
 induction k with
 | zero=>rw[Nat.pow_zero,Nat.mul_one];exact⟨j0g m hm,g0w m hm⟩
 | succ k ih =>
  have e:m*2^(k+1)=2*(m*2^k):=by rw[Nat.pow_succ,←Nat.mul_assoc,Nat.mul_comm]
  have hp:0 < m*2^k:=Nat.mul_pos (by omega) (Nat.pow_pos (by omega))
  rw[e]
  generalize m*2^k=n at *
  rw[h0I _ (by omega) (by omega),f0G _ (by omega) (by omega),show 2*n/2=n by omega]
  exact⟨ih.1,by rw[ih.2]⟩
def sigC (a:Nat):Nat:=if a/2^52 > 0 then a%2^52+2^52 else a%2^52
def powC (a:Nat):Int:=if a/2^52 > 0 then (a/2^52:Nat) - 1075 else -1074
def FinC (a:Nat):Prop:=0 < a∧a < 2047*2^52
theorem h0o (a:Nat) (h:FinC a):0 < sigC a:=by
 obtain⟨h1,h2⟩:=h
 unfold sigC
 split<;>omega
def f0n (M:Nat) (P:Int):Nat:=if M < 2^52 then M else (P+1075).toNat*2^52+M - 2^52
def FitC (M:Nat) (P:Int):Prop:=(0 < M∧M < 2^52∧P=-1074)∨(2^52≤M∧M < 2^53∧-1074≤P∧P≤971)
theorem l0h (a:Nat) (h:FinC a):FitC (sigC a) (powC a)∧f0n (sigC a) (powC a)=a:=by
 obtain⟨h1,h2⟩:=h
 by_cases h0:a/2^52 > 0
 ·have e1:sigC a=a%2^52+2^52:=if_pos h0
  have e2:powC a=(a/2^52:Nat) - 1075:=if_pos h0
  rw[e1,e2]
  refine⟨.inr ⟨by omega,by omega,by omega,by omega⟩,?_⟩
  unfold f0n
  rw[if_neg (by omega),show (((a/2^52:Nat):Int) - 1075+1075).toNat=a/2^52 by omega]
  omega
 ·have e1:sigC a=a%2^52:=if_neg h0
  have e2:powC a=-1074:=if_neg h0
  rw[e1,e2]
  refine⟨.inl ⟨by omega,by omega,rfl⟩,?_⟩
  unfold f0n
  rw[if_pos (by omega)]
  omega
theorem y0t (M:Nat) (P:Int) (h:FitC M P):FinC (f0n M P)∧sigC (f0n M P)=M∧powC (f0n M P)=P:=by
 rcases h with ⟨h1,h2,rfl⟩ | ⟨h1,h2,h3,h4⟩
 ·have e:f0n M (-1074)=M:=if_pos h2
  rw[e]
  refine⟨⟨h1,by omega⟩,?_,?_⟩
  ·unfold sigC;rw[if_neg (by omega)];omega
  ·unfold powC;rw[if_neg (by omega)]
 ·have e:f0n M P=(P+1075).toNat*2^52+M - 2^52:=if_neg (by omega)
  rw[e]
  generalize hE:(P+1075).toNat=E at *
  have hE1:1≤E∧E≤2046:=by omega
  have hd:(E*2^52+M - 2^52)/2^52=E:=by omega
  have hm:(E*2^52+M - 2^52)%2^52=M - 2^52:=by omega
  refine⟨⟨by omega,by omega⟩,?_,?_⟩
  ·unfold sigC;rw[hd,hm,if_pos (by omega)];omega
  ·unfold powC;rw[hd,if_pos (by omega)];omega
theorem u0R (m:Nat) (k1 k2:Nat) (p:Int) (h1:FitC (m*2^k1) (p - k1)) (h2:FitC (m*2^k2) (p - k2)):k1=k2:=by
 have key:∀a b:Nat,a < b→FitC (m*2^a) (p - a)→FitC (m*2^b) (p - b)→False:=by
  intro a b hab ha hb
  have e:m*2^b=2*(m*2^a*2^(b - a - 1)):=by
   rw[Nat.mul_assoc,←Nat.pow_add,show b=(a+(b - a - 1))+1 by omega,Nat.pow_succ]
   rw[show a+(b - a - 1)+1 - a - 1=b - a - 1 by omega]
   rw[←Nat.mul_assoc,Nat.mul_comm]
  have hp:1≤2^(b - a - 1):=Nat.one_le_two_pow
  have hge:m*2^a≤m*2^a*2^(b - a - 1):=Nat.le_mul_of_pos_right _ hp
  generalize m*2^a*2^(b - a - 1)=X at *
  generalize m*2^a=A at *
  rw[e] at hb
  rcases ha with ⟨_,_,a3⟩ | ⟨a1,a2,a3,a4⟩
  ·rcases hb with ⟨_,_,b3⟩ | ⟨_,_,b3,_⟩<;>omega
  ·rcases hb with ⟨_,b2,_⟩ | ⟨_,b2,_,_⟩<;>omega
 rcases Nat.lt_trichotomy k1 k2 with h | h | h
 ·exact (key k1 k2 h h1 h2).elim
 ·exact h
 ·exact (key k2 k1 h h2 h1).elim
def upC:Nat→Nat→Int→Nat×Int
 | 0,m,p=>(m,p)
 | f+1,m,p=>if m < 2^52∧-1074 < p then upC f (2*m) (p - 1) else (m,p)
theorem x0D:∀(f m:Nat) (p:Int),0 < m→-1074≤p→2^52≤m*2^f →
  ∃k:Nat,upC f m p=(m*2^k,p - k)∧(k=0∨m*2^k < 2^53)∧-1074≤p - k∧¬(m*2^k < 2^52∧-1074 < p - k):=by
 intro f
 induction f with
 | zero =>
  intro m p hm hp hf
  rw[Nat.pow_zero,Nat.mul_one] at hf
  exact⟨0,by simp[upC],.inl rfl,by omega,by simp;omega⟩
 | succ f ih =>
  intro m p hm hp hf
  rw[upC]
  by_cases h:m < 2^52∧-1074 < p
  ·rw[if_pos h]
   have hf2:2^52≤2*m*2^f:=by
    have e:m*2^(f+1)=2*m*2^f:=by rw[Nat.pow_succ,←Nat.mul_assoc,Nat.mul_comm,←Nat.mul_assoc]
    rw[←e];exact hf
   obtain⟨k,h1,h2,h3,h4⟩:=ih (2*m) (p - 1) (by omega) (by omega) hf2
   have e:m*2^(k+1)=2*m*2^k:=by rw[Nat.pow_succ,←Nat.mul_assoc,Nat.mul_comm,←Nat.mul_assoc]
   refine⟨k+1,?_,.inr ?_,by omega,?_⟩
   ·rw[h1,e];congr 1;omega
   ·rw[e]
    rcases h2 with h2 | h2
    ·subst h2;simp;omega
    ·exact h2
   ·rw[e];intro h5;exact h4 ⟨h5.1,by omega⟩
  ·rw[if_neg h]
   exact⟨0,by simp,.inl rfl,by omega,by simpa using h⟩
def ofC (m:Nat) (p:Int):Option Nat :=
 if m%2=0∨2^53≤m∨p < -1074∨1023 < p then none
 else if 971 < (upC 52 m p).2 then none else some (f0n (upC 52 m p).1 (upC 52 m p).2)
theorem p0D (m:Nat) (p:Int) (a:Nat):ofC m p=some a↔FinC a∧oddC (sigC a)=m∧powC a+a0V (sigC a)=p:=by
 unfold ofC
 constructor
 ·intro h
  split at h
  ·cases h
  ·rename_i hg
   have hm:m%2=1:=by omega
   obtain⟨k,h1,h2,h3,h4⟩:=x0D 52 m p (by omega) (by omega) (Nat.le_mul_of_pos_left _ (by omega))
   rw[h1] at h
   split at h
   ·cases h
   ·rename_i h5
    have h5:¬971 < p - (k:Int):=h5
    cases h
    have hM:m*2^k < 2^53:=by
     rcases h2 with h2 | h2
     ·subst h2;simp;omega
     ·exact h2
    have hp:0 < m*2^k:=Nat.mul_pos (by omega) (Nat.pow_pos (by omega))
    have hfit:FitC (m*2^k) (p - k):=by
     by_cases hs:m*2^k < 2^52
     ·exact .inl ⟨hp,hs,by omega⟩
     ·exact .inr ⟨by omega,hM,h3,by omega⟩
    obtain⟨f1,f2,f3⟩:=y0t _ _ hfit
    refine⟨f1,?_,?_⟩
    ·show oddC (sigC (f0n (m*2^k) (p - k)))=m
     rw[f2,(w0b m hm k).1]
    ·show powC (f0n (m*2^k) (p - k))+(a0V (sigC (f0n (m*2^k) (p - k))):Nat)=p
     rw[f2,f3,(w0b m hm k).2];omega
 ·rintro ⟨hf,hm,hp⟩
  have hs:=h0o a hf
  obtain⟨o1,o2⟩:=d0M (sigC a) (by omega)
  obtain⟨g1,g2⟩:=l0h a hf
  rw[hm] at o1 o2
  generalize ht:a0V (sigC a)=t at *
  have hsl:sigC a < 2^53:=by
   rcases g1 with ⟨_,h,_⟩ | ⟨_,h,_,_⟩<;>omega
  have hpow:-1074≤powC a∧powC a≤971:=by
   rcases g1 with ⟨_,_,h⟩ | ⟨_,_,h,h'⟩<;>omega
  have ht52:t≤52:=by
   by_cases hlt:t≤52
   ·exact hlt
   ·exfalso
    have:2^53≤2^t:=Nat.pow_le_pow_right (by omega) (by omega)
    have:2^t≤m*2^t:=Nat.le_mul_of_pos_left _ (by omega)
    omega
  have hmle:m≤m*2^t:=Nat.le_mul_of_pos_right _ (Nat.pow_pos (by omega))
  rw[if_neg (by omega)]
  obtain⟨k,h1,h2,h3,h4⟩:=x0D 52 m p (by omega) (by omega) (Nat.le_mul_of_pos_left _ (by omega))
  rw[h1]
  have hM:m*2^k < 2^53:=by
   rcases h2 with h2 | h2
   ·subst h2;simp;omega
   ·exact h2
  have hP:¬971 < p - (k:Int):=by
   intro h5
   have hk:k < t:=by omega
   have e:m*2^t=2*(m*2^k*2^(t - k - 1)):=by
    rw[Nat.mul_assoc,←Nat.pow_add,show t=(k+(t - k - 1))+1 by omega,Nat.pow_succ]
    rw[show k+(t - k - 1)+1 - k - 1=t - k - 1 by omega]
    rw[←Nat.mul_assoc,Nat.mul_comm]
   have hge:m*2^k≤m*2^k*2^(t - k - 1):=Nat.le_mul_of_pos_right _ (Nat.pow_pos (by omega))
   generalize m*2^k*2^(t - k - 1)=X at *
   omega
  rw[if_neg hP]
  have hp0:0 < m*2^k:=Nat.mul_pos (by omega) (Nat.pow_pos (by omega))
  have hfit:FitC (m*2^k) (p - k):=by
   by_cases hs:m*2^k < 2^52
   ·exact .inl ⟨hp0,hs,by omega⟩
   ·exact .inr ⟨by omega,hM,h3,by omega⟩
  have hfit2:FitC (m*2^t) (p - t):=by rw[←o2,show p - (t:Int)=powC a by omega];exact g1
  have hkt:=u0R m k t p hfit hfit2
  subst hkt
  show some (f0n (m*2^k) (p - k))=some a
  rw[←o2,show p - (k:Int)=powC a by omega,g2]
def magC (b:Nat):Nat:=b%2^63
def negC (b:Nat):Bool:=decide (b/2^63=1)
def nanC (b:Nat):Bool:=decide (2047*2^52 < magC b)
def f0k (b:Nat):Bool×Nat×Int :=
 if nanC b then (false,0,0)
 else if magC b=2047*2^52∨magC b=0 then (negC b,0,0)
 else (negC b,oddC (sigC (magC b)),powC (magC b)+a0V (sigC (magC b)))
def intL (p:Int):List UInt8:=if p < 0 then 45 :: numL 10 p.natAbs else numL 10 p.natAbs
def h0c (a:Nat):List UInt8 :=
 if a=0 then [48] else if a=2047*2^52 then [105,110,102]
 else numL 10 (oddC (sigC a))++112 :: intL (powC a+a0V (sigC a))
def b0C (b:Nat):List UInt8:=if nanC b then [] else (if negC b then [45] else [])++h0c (magC b)
def f0C (t:List UInt8):Option Int :=
 match t with
 | 45 :: r=>if r=[]∨r=[48] then (a0M 10 4 (45 :: r)).map fun n:Nat=>(n:Int) else (a0M 10 4 r).map fun n:Nat=>-(n:Int)
 | _=>(a0M 10 4 t).map fun n:Nat=>(n:Int)
def cutP:List UInt8→Option (List UInt8×List UInt8)
 | []=>none
 | c :: s=>if c=112 then some ([],s) else (cutP s).map fun x=>(c :: x.1,x.2)
def magP (s:List UInt8):Option Nat :=
 match cutP s with
 | none=>none
 | some x=>match a0M 10 16 x.1,f0C x.2 with
  | some m,some p=>ofC m p
  | _,_=>none
def g0b (s:List UInt8):Option Nat:=if s=[48] then some 0 else if s=[105,110,102] then some (2047*2^52) else magP s
def b0o (s:List UInt8):Option Nat :=
 match s with
 | 45 :: r=>(g0b r).map (2^63 + ·)
 | _=>g0b s
theorem u0H (t u:List UInt8) (h:(112:UInt8)∉t):cutP (t++112 :: u)=some (t,u):=by
 induction t with
 | nil=>rfl
 | cons c t ih =>
  rw[List.cons_append,cutP,if_neg (fun e=>h (by rw[e];exact List.mem_cons_self ..)),ih (fun hm=>h (List.mem_cons_of_mem _ hm))]
  rfl
theorem n0l (s t u:List UInt8) (h:cutP s=some (t,u)):s=t++112 :: u:=by
 induction s generalizing t u with
 | nil=>cases h
 | cons c s ih =>
  rw[cutP] at h
  split at h
  ·rename_i e
   cases h
   rw[e];rfl
  ·cases hc:cutP s with
   | none=>rw[hc] at h;cases h
   | some x =>
    rw[hc] at h
    cases h
    rw[ih x.1 x.2 hc];rfl
theorem n0H:∀i:Nat,i < 10→hexD i≠45∧hexD i≠112∧hexD i≠105:=by
 intro i hi
 have:i=0∨i=1∨i=2∨i=3∨i=4∨i=5∨i=6∨i=7∨i=8∨i=9:=by omega
 rcases this with rfl | rfl | rfl | rfl | rfl | rfl | rfl | rfl | rfl | rfl<;>decide
theorem h0k (n:Nat):∀c∈numL 10 n,c≠45∧c≠112∧c≠105:=by
 induction n using Nat.strongRecOn with
 | _ n ih =>
  by_cases h:n < 10
  ·rw[a0O 10 n h]
   intro c hc
   rw[List.mem_singleton.1 hc]
   exact n0H n h
  ·rw[b0k 10 n (by omega) (by omega)]
   intro c hc
   rcases List.mem_append.1 hc with h1 | h1
   ·exact ih (n/10) (Nat.div_lt_self (by omega) (by omega)) c h1
   ·rw[List.mem_singleton.1 h1]
    exact n0H _ (Nat.mod_lt _ (by omega))
theorem g0K (n:Nat):∃c r,numL 10 n=c :: r∧c≠45:=by
 cases h:numL 10 n with
 | nil=>exact absurd h (f0P 10 n)
 | cons c r=>exact⟨c,r,rfl,(h0k n c (by rw[h];exact List.mem_cons_self ..)).1⟩
theorem g0q (c:UInt8) (r:List UInt8) (h:c≠45):f0C (c :: r)=(a0M 10 4 (c :: r)).map fun n:Nat=>(n:Int):=by
 unfold f0C
 split
 ·rename_i e;injection e with e _;exact absurd e h
 ·rfl
theorem l0t (t:List UInt8) (p:Int):f0C t=some p↔intL p=t∧(numL 10 p.natAbs).length≤4:=by
 have vi:=fun s n=>c0H 10 4 (by omega) (by omega) s n
 constructor
 ·intro h
  by_cases hc:∃r,t=45 :: r
  ·obtain⟨r,rfl⟩:=hc
   unfold f0C at h
   by_cases hr:r=[]∨r=[48]
   ·simp only[if_pos hr] at h
    cases hv:a0M 10 4 (45 :: r) with
    | none=>rw[hv] at h;cases h
    | some n =>
     obtain⟨e,-⟩:=(vi _ n).1 hv
     obtain⟨c,q,e2,hc⟩:=g0K n
     rw[e2] at e
     injection e with e _
     exact absurd e hc
   ·simp only[if_neg hr] at h
    cases hv:a0M 10 4 r with
    | none=>rw[hv] at h;cases h
    | some n =>
     rw[hv] at h
     have h:-(n:Int)=p:=Option.some.inj h
     obtain⟨e,hl⟩:=(vi _ n).1 hv
     have hn:n≠0:=by
      rintro rfl
      exact hr (.inr e.symm)
     have hp:p.natAbs=n:=by omega
     refine⟨?_,by rw[hp,e];exact hl⟩
     unfold intL
     rw[if_pos (by omega),hp,e]
  ·have hp:f0C t=(a0M 10 4 t).map fun n:Nat=>(n:Int):=by
    cases t with
    | nil=>rfl
    | cons c r=>exact g0q c r fun e=>hc ⟨r,by rw[e]⟩
   rw[hp] at h
   cases hv:a0M 10 4 t with
   | none=>rw[hv] at h;cases h
   | some n =>
    rw[hv] at h
    have h:(n:Int)=p:=Option.some.inj h
    obtain⟨e,hl⟩:=(vi _ n).1 hv
    have hp:p.natAbs=n:=by omega
    refine⟨?_,by rw[hp,e];exact hl⟩
    unfold intL
    rw[if_neg (by omega),hp,e]
 ·rintro ⟨rfl,hl⟩
  have hv:a0M 10 4 (numL 10 p.natAbs)=some p.natAbs:=(vi _ _).2 ⟨rfl,hl⟩
  unfold intL
  by_cases h0:p < 0
  ·rw[if_pos h0]
   unfold f0C
   have hr:¬(numL 10 p.natAbs=[]∨numL 10 p.natAbs=[48]):=by
    rintro (h | h)
    ·exact f0P 10 _ h
    ·have:=j0d 10 p.natAbs 0 (by omega) (by omega) (by rw[h];rfl)
     omega
   simp only[if_neg hr,hv,Option.map_some]
   congr 1
   omega
  ·rw[if_neg h0]
   obtain⟨c,q,e2,hc⟩:=g0K p.natAbs
   rw[e2] at hv ⊢
   rw[g0q c q hc,hv]
   show some ((p.natAbs:Nat):Int)=some p
   congr 1
   omega
theorem m0n (s:List UInt8) (a:Nat):magP s=some a↔FinC a∧s=numL 10 (oddC (sigC a))++112 :: intL (powC a+a0V (sigC a)):=by
 have vi:=fun s n=>c0H 10 16 (by omega) (by omega) s n
 constructor
 ·intro h
  unfold magP at h
  cases hc:cutP s with
  | none=>rw[hc] at h;cases h
  | some x =>
   obtain⟨x1,x2⟩:=x
   rw[hc] at h
   simp only at h
   cases hv:a0M 10 16 x1 with
   | none=>rw[hv] at h;cases h
   | some m =>
    cases hp:f0C x2 with
    | none=>rw[hv,hp] at h;cases h
    | some p =>
     rw[hv,hp] at h
     obtain⟨f1,f2,f3⟩:=(p0D m p a).1 h
     refine⟨f1,?_⟩
     rw[f2,f3,((vi _ _).1 hv).1,((l0t _ _).1 hp).1]
     exact n0l _ _ _ hc
 ·rintro ⟨hf,rfl⟩
  obtain⟨g1,-⟩:=l0h a hf
  obtain⟨o1,o2⟩:=d0M (sigC a) (by have:=h0o a hf;omega)
  have hle:oddC (sigC a)≤oddC (sigC a)*2^a0V (sigC a):=Nat.le_mul_of_pos_right _ (Nat.pow_pos (by omega))
  have hge:2^a0V (sigC a)≤oddC (sigC a)*2^a0V (sigC a):=Nat.le_mul_of_pos_left _ (by omega)
  rw[←o2] at hle hge
  have hsl:sigC a < 2^53:=by
   rcases g1 with ⟨_,h,_⟩ | ⟨_,h,_,_⟩<;>omega
  have hpow:-1074≤powC a∧powC a≤971:=by
   rcases g1 with ⟨_,_,h⟩ | ⟨_,_,h,h'⟩<;>omega
  have ht:a0V (sigC a)≤52:=by
   by_cases hlt:a0V (sigC a)≤52
   ·exact hlt
   ·exfalso
    have:2^53≤2^a0V (sigC a):=Nat.pow_le_pow_right (by omega) (by omega)
    omega
  unfold magP
  rw[u0H _ _ (fun h=>(h0k _ _ h).2.1 rfl)]
  simp only
  have hv:=(vi (numL 10 (oddC (sigC a))) _).2 ⟨rfl,b0f 10 (by omega) 15 _ (by omega)⟩
  have hp:=(l0t (intL (powC a+a0V (sigC a))) _).2 ⟨rfl,b0f 10 (by omega) 3 _ (by omega)⟩
  rw[hv,hp]
  exact (p0D _ _ a).2 ⟨hf,rfl,rfl⟩
theorem h0s (s:List UInt8) (a:Nat):g0b s=some a↔a≤2047*2^52∧h0c a=s:=by
 unfold g0b
 constructor
 ·intro h
  split at h
  ·rename_i e;cases h;exact⟨by omega,e.symm⟩
  ·split at h
   ·rename_i e;cases h;exact⟨by omega,e.symm⟩
   ·obtain⟨⟨f1,f2⟩,f3⟩:=(m0n s a).1 h
    refine⟨by omega,?_⟩
    unfold h0c
    rw[if_neg (by omega),if_neg (by omega),f3]
 ·rintro ⟨hle,rfl⟩
  unfold h0c
  by_cases h0:a=0
  ·rw[if_pos h0,if_pos rfl,h0]
  ·rw[if_neg h0]
   by_cases hi:a=2047*2^52
   ·rw[if_pos hi,if_neg (by decide),if_pos rfl,hi]
   ·rw[if_neg hi]
    have hmem:(112:UInt8)∈numL 10 (oddC (sigC a))++112 :: intL (powC a+a0V (sigC a)):=by simp
    rw[if_neg (by intro e;rw[e] at hmem;exact absurd hmem (by decide)),if_neg (by intro e;rw[e] at hmem;exact absurd hmem (by decide))]
    exact (m0n _ a).2 ⟨⟨by omega,by omega⟩,rfl⟩
theorem u0r (a:Nat):∃c r,h0c a=c :: r∧c≠45:=by
 unfold h0c
 split
 ·exact⟨48,[],rfl,by decide⟩
 ·split
  ·exact⟨105,[110,102],rfl,by decide⟩
  ·obtain⟨c,r,e,hc⟩:=g0K (oddC (sigC a))
   exact⟨c,r++_,by rw[e];rfl,hc⟩
theorem f0j (c:UInt8) (r:List UInt8) (h:c≠45):b0o (c :: r)=g0b (c :: r):=by
 unfold b0o
 split
 ·rename_i e;injection e with e _;exact absurd e h
 ·rfl
theorem f0B (s:List UInt8) (b:Nat):b0o s=some b↔b < 2^64∧nanC b=false∧b0C b=s:=by
 constructor
 ·intro h
  by_cases hc:∃r,s=45 :: r
  ·obtain⟨r,rfl⟩:=hc
   unfold b0o at h
   simp only at h
   cases hb:g0b r with
   | none=>rw[hb] at h;cases h
   | some a =>
    rw[hb] at h
    have h:2^63+a=b:=Option.some.inj h
    obtain⟨h1,h2⟩:=(h0s r a).1 hb
    have hm:magC b=a:=by unfold magC;omega
    have hn:nanC b=false:=by unfold nanC;rw[hm];exact decide_eq_false (by omega)
    have hg:negC b=true:=by unfold negC;exact decide_eq_true (by omega)
    refine⟨by omega,hn,?_⟩
    unfold b0C
    rw[hn,hg,hm,h2];rfl
  ·have hp:g0b s=some b:=by
    cases s with
    | nil=>exact h
    | cons c r=>rw[←f0j c r (fun e=>hc ⟨r,by rw[e]⟩)];exact h
   obtain⟨h1,h2⟩:=(h0s s b).1 hp
   have hm:magC b=b:=by unfold magC;omega
   have hn:nanC b=false:=by unfold nanC;rw[hm];exact decide_eq_false (by omega)
   have hg:negC b=false:=by unfold negC;exact decide_eq_false (by omega)
   refine⟨by omega,hn,?_⟩
   unfold b0C
   rw[hn,hg,hm,h2];rfl
 ·rintro ⟨h1,hn,rfl⟩
  have hle:magC b≤2047*2^52:=by
   unfold nanC at hn
   have:=of_decide_eq_false hn
   omega
  have hb:=(h0s (h0c (magC b)) (magC b)).2 ⟨hle,rfl⟩
  unfold b0C
  rw[hn]
  cases hg:negC b with
  | true =>
   have:b/2^63=1:=of_decide_eq_true hg
   show (g0b (h0c (magC b))).map (2^63 + ·)=some b
   rw[hb]
   show some (2^63+magC b)=some b
   congr 1
   unfold magC
   omega
  | false =>
   have:¬b/2^63=1:=of_decide_eq_false hg
   show b0o (h0c (magC b))=some b
   obtain⟨c,r,e,hc⟩:=u0r (magC b)
   rw[e] at hb ⊢
   rw[f0j c r hc,hb]
   congr 1
   unfold magC
   omega
def d0g (c:UInt8):Bool:=decide (97≤c∧c≤122)||decide (65≤c∧c≤90)||decide (48≤c∧c≤57)||c==46||c==95||c==45
def c0c (s:List UInt8):Bool:=decide (1≤s.length)&&decide (s.length≤64)&&decide (s≠[46])&&decide (s≠[46,46])&&s.all d0g
def b0N:List UInt8→Bool
 | 47 :: r=>decide (r=[])||(decide (r.length+1≤256)&&(a0h 47 r).all c0c)
 | _=>false
def goN:List (List UInt8)→List (List UInt8)→Option (List (List UInt8))
 | l,[]=>some l
 | l,w :: ws =>
  if w=[]∨w=[46] then goN l ws
  else if w=[46,46] then (if l=[] then none else goN l.dropLast ws)
  else if c0c w then goN (l++[w]) ws else none
def f0o (l:List (List UInt8)):List UInt8:=if l=[] then [47] else l.flatMap fun w=>47 :: w
def i0M:List UInt8→Option (List UInt8)
 | 47 :: r=>match goN [] (a0h 47 r) with
  | none=>none
  | some l=>if (f0o l).length≤256 then some (f0o l) else none
 | _=>none
theorem z0L:d0g 47=false:=by decide
theorem v0U (s:List UInt8) (h:c0c s=true):∀c∈s,c≠47:=by
 unfold c0c at h
 rw[Bool.and_eq_true,List.all_eq_true] at h
 intro c hc e
 have:=h.2 c hc
 rw[e,z0L] at this;cases this
theorem b1s (s:List UInt8) (h:c0c s=true):s≠[]∧s≠[46]∧s≠[46,46]:=by
 unfold c0c at h
 simp only[Bool.and_eq_true,decide_eq_true_iff] at h
 obtain⟨⟨⟨⟨h1,h2⟩,h3⟩,h4⟩,h5⟩:=h
 refine⟨?_,h3,h4⟩
 rintro rfl
 simp at h1
theorem l0z (p:List UInt8) (h:b0N p=true):∃r,p=47 :: r:=by
 match p,h with
 | [],h=>cases h
 | c :: r,h =>
  by_cases hc:c=47
  ·exact⟨r,by rw[hc]⟩
  ·unfold b0N at h
   split at h
   ·rename_i e;injection e with e1 e2;exact absurd e1 hc
   ·cases h
theorem n0F:∀(ws l x:List (List UInt8)),(∀w∈l,c0c w=true)→goN l ws=some x→∀w∈x,c0c w=true:=by
 intro ws
 induction ws with
 | nil=>intro l x hl h;cases h;exact hl
 | cons w ws ih =>
  intro l x hl h
  rw[goN] at h
  split at h
  ·exact ih l x hl h
  ·split at h
   ·split at h
    ·cases h
    ·exact ih l.dropLast x (fun v hv=>hl v (List.dropLast_subset l hv)) h
   ·split at h
    ·rename_i hw
     refine ih (l++[w]) x (fun v hv=>?_) h
     rcases List.mem_append.1 hv with hv | hv
     ·exact hl v hv
     ·rw[List.mem_singleton.1 hv];exact hw
    ·cases h
theorem q0O:∀(ws l:List (List UInt8)),(∀w∈ws,c0c w=true)→goN l ws=some (l++ws):=by
 intro ws
 induction ws with
 | nil=>intro l _;rw[goN,List.append_nil]
 | cons w ws ih =>
  intro l hw
  have h1:=hw w (List.mem_cons_self ..)
  obtain⟨n1,n2,n3⟩:=b1s w h1
  rw[goN,if_neg (by rintro (h | h);exact n1 h;exact n2 h),if_neg n3,if_pos h1,ih (l++[w]) (fun v hv=>hw v (List.mem_cons_of_mem _ hv)),List.append_assoc]
  rfl
theorem u0U (l:List (List UInt8)) (h:l≠[]):(l.flatMap fun w=>47 :: w)=47 :: b0c 47 l:=by
 induction l with
 | nil=>exact absurd rfl h
 | cons w ws ih =>
  rw[List.flatMap_cons]
  by_cases he:ws=[]
  ·subst he;simp[b0c]
  ·rw[ih he,b0q 47 w ws he];rfl
theorem j0R (l:List (List UInt8)) (h:l≠[]) (hn:∀w∈l,c0c w=true):f0o l=47 :: b0c 47 l∧a0h 47 (b0c 47 l)=l:=by
 refine⟨by unfold f0o;rw[if_neg h];exact u0U l h,?_⟩
 exact h0p 47 l h fun p hp c hc=>v0U p (hn p hp) c hc
theorem p0z (p x:List UInt8) (h:i0M p=some x):b0N x=true∧i0M x=some x:=by
 unfold i0M at h
 split at h
 ·rename_i r
  split at h
  ·cases h
  ·rename_i l hl
   split at h
   ·rename_i hlen
    cases h
    have hn:=n0F _ [] l (fun w hw=>by cases hw) hl
    by_cases he:l=[]
    ·subst he
     exact⟨rfl,rfl⟩
    ·obtain⟨e1,e2⟩:=j0R l he hn
     rw[e1] at hlen ⊢
     rw[List.length_cons] at hlen
     constructor
     ·show (decide (b0c 47 l=[])||(decide ((b0c 47 l).length+1≤256)&&(a0h 47 (b0c 47 l)).all c0c))=true
      rw[e2,decide_eq_true hlen,Bool.true_and,Bool.or_eq_true]
      exact .inr (List.all_eq_true.2 hn)
     ·show (match goN [] (a0h 47 (b0c 47 l)) with
       | none=>none
       | some l=>if (f0o l).length≤256 then some (f0o l) else none)=_
      rw[e2,q0O l [] hn,List.nil_append]
      show (if (f0o l).length≤256 then some (f0o l) else none)=_
      rw[if_pos (by rw[e1,List.length_cons];exact hlen),e1]
   ·cases h
 ·cases h
def inkB (c:UInt8):Bool:=decide (32≤c.toNat)&&decide (c.toNat≤126)
def b0X (s:List UInt8):Option (List (List UInt8)) :=
 if s=[] then some [] else if s.length≤512∧s.all inkB=true∧(a0h 32 s).all (fun p=>decide (p≠[]))=true then some (a0h 32 s) else none
def lowB (c:UInt8):Bool:=decide (97≤c.toNat)&&decide (c.toNat≤122)
def d0u (s:List UInt8):Bool:=decide (1≤s.length)&&decide (s.length≤16)&&s.all lowB
def okAt (l:List (List UInt8)) (i:Nat):Bool:=d0u (l.getD i [])&&(decide (i=0)||Op.bytesLess (l.getD (i - 1) []) (l.getD i []))
def c0J (l:List (List UInt8)):Bool:=decide (1≤l.length)&&decide (l.length≤32)&&(List.range l.length).all (okAt l)
def c0g (s:List UInt8):Option (List (List UInt8)):=if c0J (a0h 44 s)=true then some (a0h 44 s) else none
def b0L (l:List (List UInt8)):List UInt8:=if c0J l=true then b0c 44 l else []
def a0F (s:List UInt8):Option Nat:=match a0M 10 20 s with
 | none=>none
 | some n=>if n < 2^64 then some n else none
theorem h0P (l:List (List UInt8)):c0J l=true↔1≤l.length∧l.length≤32∧∀i < l.length,okAt l i=true:=by
 unfold c0J
 rw[Bool.and_eq_true,Bool.and_eq_true,decide_eq_true_iff,decide_eq_true_iff,List.all_eq_true]
 constructor
 ·rintro ⟨⟨h1,h2⟩,h3⟩
  exact⟨h1,h2,fun i hi=>h3 i (List.mem_range.2 hi)⟩
 ·rintro ⟨h1,h2,h3⟩
  exact⟨⟨h1,h2⟩,fun i hi=>h3 i (List.mem_range.1 hi)⟩
theorem o0v (l:List (List UInt8)) (i:Nat) (hi:i < l.length) (h:okAt l i=false):c0J l=false:=by
 cases hr:c0J l with
 | false=>rfl
 | true=>have:=((h0P l).1 hr).2.2 i hi;rw[h] at this;cases this
theorem k0o (l:List (List UInt8)) (h:c0J l=true):∀p∈l,d0u p=true:=by
 intro p hp
 obtain⟨i,hi,rfl⟩:=List.mem_iff_getElem.1 hp
 have:=((h0P l).1 h).2.2 i hi
 unfold okAt at this
 rw[Bool.and_eq_true] at this
 rw[←this.1,List.getD_eq_getElem?_getD,List.getElem?_eq_getElem hi];rfl
theorem n0Z (p:List UInt8) (h:d0u p=true):p≠[]∧∀c∈p,c≠44:=by
 unfold d0u at h
 rw[Bool.and_eq_true,Bool.and_eq_true,decide_eq_true_iff,List.all_eq_true] at h
 refine⟨?_,?_⟩
 ·rintro rfl;have:=h.1.1;simp at this
 ·rintro c hc rfl
  have:=h.2 44 hc
  revert this;decide
theorem s0G (l:List (List UInt8)):c0g (b0L l)=if c0J l=true then some l else none:=by
 unfold c0g b0L
 by_cases h:c0J l=true
 ·rw[if_pos h,if_pos h]
  have hne:l≠[]:=by rintro rfl;simp[c0J] at h
  rw[h0p 44 l hne (fun p hp=>(n0Z p (k0o l h p hp)).2),if_pos h]
 ·rw[if_neg h,if_neg h]
  have:c0J (a0h 44 [])=false:=by decide
  rw[this];rfl
theorem y0L (l:List (List UInt8)) (h:c0J l=false):b0L l=[]:=by
 unfold b0L
 rw[h];rfl
theorem t0R (s:List UInt8) (x:List (List UInt8)) (h:b0X s=some x):s=[]∧x=[]∨s≠[]∧s.length≤512∧s.all inkB=true∧(a0h 32 s).all (fun p=>decide (p≠[]))=true∧x=a0h 32 s:=by
 unfold b0X at h
 split at h
 ·rename_i e;cases h;exact .inl ⟨e,rfl⟩
 ·rename_i e
  split at h
  ·rename_i k;cases h;exact .inr ⟨e,k.1,k.2.1,k.2.2,rfl⟩
  ·cases h
theorem g0L (n:Nat) (h:n < 2^64):(numL 10 n).length≤20:=by
 have key:∀k n:Nat,n < 10^(k+1)→(numL 10 n).length≤k+1:=by
  intro k
  induction k with
  | zero=>intro n h;rw[a0O 10 n (by omega)];simp
  | succ k ih =>
   intro n h
   by_cases hs:n < 10
   ·rw[a0O 10 n hs];simp
   ·rw[b0k 10 n (by omega) (by omega),List.length_append]
    have:=ih (n/10) (by rw[Nat.pow_succ] at h;omega)
    simp;omega
 exact key 19 n (Nat.lt_trans h (by decide))
theorem d0R (n:Nat) (h:n < 2^64):a0F (numL 10 n)=some n:=by
 unfold a0F
 rw[(c0H 10 20 (by omega) (by omega) (numL 10 n) n).2 ⟨rfl,g0L n h⟩]
 show (if n < 2^64 then some n else none)=_
 rw[if_pos h]
end Go.Proofs.YtimdhdimhboboaaGreatDoor
