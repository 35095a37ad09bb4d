import Derived.Test.YtjieebmcbpdeiaaGreatDoorRcal
import Derived.Test.YtjieebmcbpdeiaaGreatDoorRcad
import Derived.Test.YtjieebmcbpdeiaaGreatDoorRcac
namespace Go.Proofs.YtjieebmcbpdeiaaGreatDoor
set_option maxRecDepth 100000
open Go Go.RowKit
@[go_sem] theorem run_store_float {P:Program} {w:World} {a:Addr} (k:FloatKind) (b:Nat) (m:Mode):(store a (.float k b) m).run P w=stored P w a (.float k b) m:=run_store P w a _ m rfl
theorem xsplitN_own (s:List UInt8) (hs:s.length≤100000) (w:World) (hE:EnvX w):∃ps:List (List UInt8),namesC s=(if riseL ps=true then some ps else none)∧(∀p∈ps,p.length≤s.length)∧ps.length≤33 ∧
  Calls Tryz.prog 117 #[.string (bstr s),.string ⟨#[44]⟩,.int .i64 33] w fun e w'=>∃A c,e=.returned (.slice A ps.length c)∧Sl w' A c (strsV ps)∧(∀g,g < w.heap.size→∀a,A=some a→a.block≠g)∧Below w.heap.size w w':=by
 obtain⟨m,hm⟩:=hE
 have h:=Tryz.strings_SplitN (bstr s) (bstr [44]) 33 m w (by rw[size_bstr];omega) hm (Nat.le_refl 1) (by omega) (by omega)
 rw[size_bstr] at h
 obtain⟨ps,e1,e2,e3,e4⟩:=splitN_names s
 rw[e1,List.length_map] at h
 refine⟨ps,e2,e3,by omega,h.mono ?_⟩
 rintro e w' ⟨rfl,rfl⟩
 have e5:Lib.cellsOf (ps.map bstr) (min 33 (s.length+1))=(strsV ps++List.replicate (min 33 (s.length+1) - ps.length) (Value.string ByteArray.empty)).toArray:=by
  unfold Lib.cellsOf strsV
  rw[List.map_map,List.length_map];rfl
 rw[e5]
 exact⟨_,_,rfl,(sl_made (t:=9) _ rfl (min 33 (s.length+1)) (by rw[List.length_append,length_strsV,List.length_replicate];omega)).pre,(fun g hg a ha=>by cases ha;exact Nat.ne_of_gt hg),(Below.refl _ w).alloc (Nat.le_refl _) _⟩
set_option maxHeartbeats 2000000 in
theorem xnames_own (s:List UInt8) (hs:s.length≤2100) (w:World) (hE:EnvX w):Calls Tryz.prog 87 #[.string (bstr s)] w (GaveRowF (namesC s) w):=by
 have hz:=size_bstr s
 obtain⟨ps,hv,hp,hlen,hsp⟩:=xsplitN_own s (by omega) w hE
 have hsp:=Lib.hid hsp
 have hri:=Lib.hid (fun A c w'=>xfit_any ps (fun p hq=>by have:=hp p hq;omega) (by omega) A c w')
 have HV:=Lib.hid hv
 generalize namesC s=V at *
 clear hE hs hlen hv hp
 cases hr:riseL ps with
 | true =>
  have HW:=Lib.hid (HV.out.trans (if_pos hr))
  rw[hr] at hri
  clear HV hr
  go_enter Tryz.func87,Tryz.ntmps87
  go_wp2_with (first
   | (go_at_call 117;refine hsp.out.mono ?_;rintro e w1 ⟨A,c,rfl,hsl,hap,hb1⟩;have hap:=Lib.hid hap)
   | (go_at_call 108;refine (hri.out A c w1 hsl).mono ?_;rintro e w' ⟨rfl,hq⟩;have hsl:=hsl.later (Nat.le_refl _) hq;have hb2:=hb1.trans (hq.mono hb1.size)))
  go_ret2
  exact⟨A,c,by rw[HW.out];rfl,by rw[HW.out];exact hsl,hap.out,hb2⟩
 | false =>
  have HW:=Lib.hid (HV.out.trans (if_neg (by rw[hr];decide)))
  rw[hr] at hri
  clear HV hr
  go_enter Tryz.func87,Tryz.ntmps87
  go_wp2_with (first
   | (go_at_call 117;refine hsp.out.mono ?_;rintro e w1 ⟨A,c,rfl,hsl,hap,hb1⟩;have hap:=Lib.hid hap)
   | (go_at_call 108;refine (hri.out A c w1 hsl).mono ?_;rintro e w' ⟨rfl,hq⟩;have hb2:=hb1.trans (hq.mono hb1.size)))
  go_ret2
  exact⟨none,0,by rw[HW.out];rfl,by rw[HW.out];exact sl_none16 _,fun g _ a ha=>(by cases ha),hb2⟩
theorem map_gave {α:Type} (o:Option α) (z:α) (f:α→Prd) (x:Prd) (h:o.map f=some x):f (o.getD z)=x:=by
 cases o with
 | none=>cases h
 | some a=>exact Option.some.inj h
theorem prdAt_plain (q:Prd) (ho:q.Ok) (hn:q.names=[]) (h0:0≤q.kind) (h7:q.kind≤7) (hp:q.path.length≤4000) (w:World):PrdAt w q none 0 :=
 ⟨ho,by rw[hn];exact sl_none16 w,by omega,by omega,hp,by rw[hn];show (0:Nat)≤4000;omega⟩
def GaveRead (o:Option Prd) (w:World) (e:Ending) (w':World):Prop :=
 ∃(q:Prd) (A:Option Addr) (c:Nat),e=.returned (.tuple #[.agg (prdV q A c).toArray,.bool o.isSome])∧PrdAt w' q A c∧(∀g,g < w.heap.size→∀a,A=some a→a.block≠g)∧(∀x,o=some x→q=x)∧Below w.heap.size w w'
set_option maxHeartbeats 1000000 in
theorem pread_0 (a b:List UInt8) (_:b.length≤1000) (w:World) (_:EnvQ w) (e1:a≠[98,101,102,111,114,101]) (e2:a≠[115,105,110,99,101]) (e3:a≠[111,112]) (e4:a≠[112,97,116,104]) (e5:a≠[110,101,116]) (e6:a≠[99,111,115,116]):Calls Tryz.prog 52 #[.string (bstr a),.string (bstr b)] w (GaveRead (readP a b) w):=by
 have HV:readP a b=none:=by unfold readP;rw[if_neg e1,if_neg e2,if_neg e3,if_neg e4,if_neg e5,if_neg e6]
 have b1:=(bstr_is15 a [98,101,102,111,114,101]).trans (decide_eq_false e1)
 have b2:=(bstr_is15 a [115,105,110,99,101]).trans (decide_eq_false e2)
 have b3:=(bstr_is15 a [111,112]).trans (decide_eq_false e3)
 have b4:=(bstr_is15 a [112,97,116,104]).trans (decide_eq_false e4)
 have b5:=(bstr_is15 a [110,101,116]).trans (decide_eq_false e5)
 have b6:=(bstr_is15 a [99,111,115,116]).trans (decide_eq_false e6)
 clear e1 e2 e3 e4 e5 e6
 have HP:=Lib.hid (show false=(readP a b).isSome∧∀x,readP a b=some x→zeroP=x from ⟨by rw[HV];rfl,fun x hx=>by rw[HV] at hx;cases hx⟩)
 clear HV
 generalize readP a b=o at *
 obtain⟨Z,hZ⟩:∃Z,Z=prdV zeroP none 0:=⟨_,rfl⟩
 have hZe:=hZ.trans prd_zero
 obtain⟨w1,hw1⟩:∃w1,w1=w.alloc (.cells Z.toArray 31):=⟨_,rfl⟩
 have r1:Row w1 w.heap.size 31 Z:=by rw[hw1];exact Row.new w _ _
 have hb1:Below w.heap.size w w1:=by rw[hw1];exact (Below.refl _ w).alloc (Nat.le_refl _) _
 have HW:=Lib.hid (hw1.trans (show w.alloc (.cells Z.toArray 31)=w.alloc (.cells [Value.int .i64 0,.int .u64 0,.slice none 0 0,.string { data:=#[] },.bool false,.int .u8 0,.int .u8 0,.int .u8 0,.int .u8 0,.int .u8 0,.int .u8 0,.int .u8 0,.int .u8 0,.int .u8 0,.int .u8 0,.int .u8 0,.int .u8 0,.int .u8 0,.int .u8 0,.int .u8 0,.int .u8 0,.int .i64 0,.float .f64 0].toArray 31) by rw[hZe]))
 have tok1:True:=trivial
 clear hw1
 have ho:=zeroP_ok
 have hV:Z=prdV zeroP none 0:=hZ
 clear hZ hZe
 obtain⟨V,hVZ⟩:∃V,V=Z:=⟨_,rfl⟩
 rw[←hVZ] at hV r1
 clear hVZ
 have hVl:=Lib.hid (show (Tryz.prog.info? 31).map (·.size)=some V.length by rw[hV,length_prdV _ ho.net.a];exact size_prd)
 have hzV:=Lib.hid (show (Tryz.prog.info? 31).map (·.size)=some V.toArray.size by rw[List.size_toArray];exact hVl.out)
 have hV1:=Lib.hid (show V.toArray.all (·.oneCell')=true by rw[hV];exact prdV_one _ _ _)
 have hVs:=Lib.hid (show 23=V.toArray.size by rw[List.size_toArray,hV,length_prdV _ ho.net.a])
 have HV:=Lib.hid hV
 clear hV
 have r4:=r1
 have Q4:=Lib.hid (show w1.heap[w.heap.size]?=some (.cells V.toArray 31 (0,0)) from r4)
 have K4:=Lib.hid (row_range r4)
 clear r4
 go_enter Tryz.func52,Tryz.ntmps52
 generalize bstr a=S at *
 go_wp2_with (first
  | (have _t:=tok1;rw[←HW.out];clear tok1)
  | (with_reducible refine wpList_load_mid rfl 31 (.tmp 4) rfl w.heap.size 0 rfl V _ K4.out Tryz.underlying31 rfl hVl.out ?_)
  | (with_reducible refine wpList_store_row rfl 31 (.tmp 4) (.tmp 59) rfl w.heap.size V.toArray rfl rfl 31 V.toArray Q4.out hzV.out rfl hV1.out ?_;refine Hid.out ?_))
 refine Lib.hid ?_
 generalize hw8:World.setRow _ _ _=w8
 obtain⟨r8,hg8⟩:=row_set (show Row w1 w.heap.size 31 V from Q4.out) hw8
 have hb8:=hb1.grown hg8 hb1.size (fun k h=>by cases h;exact Nat.le_refl _)
 have R8:=Lib.hid (show w8.heap[w.heap.size]?=some (.cells V.toArray 31 (0,0)) from r8)
 clear hw8 r8 Q4 K4
 go_wp2_with fail
 exact⟨rfl,_,results_row_tmp rfl _ _ w.heap.size 31 V.toArray (0,0) _ rfl R8.out Tryz.underlying31 rfl hzV.out _ rfl,zeroP,none,0,by rw[HV.out,←HP.out.1];rfl,zero_at _,fun g _ a ha=>(by cases ha),HP.out.2,hb8⟩
set_option maxHeartbeats 1000000 in
theorem pread_1 (a b:List UInt8) (hb:b.length≤1000) (w:World) (hE:EnvQ w) (e:a=[98,101,102,111,114,101]):Calls Tryz.prog 52 #[.string (bstr a),.string (bstr b)] w (GaveRead (readP a b) w):=by
 subst e
 have HV:readP [98,101,102,111,114,101] b=((numberL b).map fun n=>⟨1,n,[],[],zeroR,0⟩):=rfl
 have b1:=(bstr_is15 [98,101,102,111,114,101] [98,101,102,111,114,101]).trans (decide_eq_true rfl)
 have ho:(⟨1,(numberL b).getD 0,[],[],zeroR,0⟩:Prd).Ok:=⟨zeroR_ok,numberL_lt b,by show (0:Nat) < 2^64;decide⟩
 have HP:=Lib.hid (show (numberL b).isSome=(readP [98,101,102,111,114,101] b).isSome∧∀x,readP [98,101,102,111,114,101] b=some x→(⟨1,(numberL b).getD 0,[],[],zeroR,0⟩:Prd)=x from ⟨by rw[HV,Option.isSome_map],fun x hx=>map_gave (numberL b) 0 (fun n=>⟨1,n,[],[],zeroR,0⟩) x (by rw[←HV];exact hx)⟩)
 have hcon:=fun w' h=>xnumber_any b (by omega) w' h
 rw[show numAns (numberL b)=.tuple #[.int .u64 (((numberL b).getD 0:Nat):Int),.bool (numberL b).isSome] from rfl] at hcon
 have hcon:=Lib.hid hcon
 clear HV
 generalize (numberL b).getD 0=n at *
 generalize (numberL b).isSome=ok at *
 generalize readP [98,101,102,111,114,101] b=o at *
 obtain⟨Z,hZ⟩:∃Z,Z=prdV zeroP none 0:=⟨_,rfl⟩
 have hZe:=hZ.trans prd_zero
 obtain⟨w1,hw1⟩:∃w1,w1=w.alloc (.cells Z.toArray 31):=⟨_,rfl⟩
 have r1:Row w1 w.heap.size 31 Z:=by rw[hw1];exact Row.new w _ _
 have hb1:Below w.heap.size w w1:=by rw[hw1];exact (Below.refl _ w).alloc (Nat.le_refl _) _
 have HW:=Lib.hid (hw1.trans (show w.alloc (.cells Z.toArray 31)=w.alloc (.cells [Value.int .i64 0,.int .u64 0,.slice none 0 0,.string { data:=#[] },.bool false,.int .u8 0,.int .u8 0,.int .u8 0,.int .u8 0,.int .u8 0,.int .u8 0,.int .u8 0,.int .u8 0,.int .u8 0,.int .u8 0,.int .u8 0,.int .u8 0,.int .u8 0,.int .u8 0,.int .u8 0,.int .u8 0,.int .i64 0,.float .f64 0].toArray 31) by rw[hZe]))
 have tok1:True:=trivial
 clear hw1
 have c0:w1.cell? ⟨w.heap.size,0,none⟩=some (.int .i64 0):=by rw[r1.cell,hZe];rfl
 have f0:=r1.free 0
 obtain⟨w2,hw2⟩:∃w2,w2=w1.setCell ⟨w.heap.size,0,none⟩ (.int .i64 1):=⟨_,rfl⟩
 have r2:Row w2 w.heap.size 31 (Z.set 0 (.int .i64 1)):=by rw[hw2];exact r1.set 0 _
 have hb2:Below w.heap.size w w2:=by rw[hw2];exact hb1.grown (grown_setCell _ _ _ _) hb1.size (fun k h=>by cases h;exact Nat.le_refl _)
 have hE2:=hE.next hb2
 have HW2:=Lib.hid hw2
 have tok2:True:=trivial
 have hcon:=Lib.hid (hcon.out _ hE2.n)
 clear hw2 hE hE2 r1 hb1
 generalize bstr [98,101,102,111,114,101]=S at *
 go_enter Tryz.func52,Tryz.ntmps52
 go_wp2_with (first
  | (have _t:=tok1;rw[←HW.out];clear tok1)
  | (have _t:=tok2;rw[←HW2.out];clear tok2)
  | (go_at_call 86;refine hcon.out.mono ?_;rintro e w3 ⟨rfl,hq3⟩;refine Hid.out ?_))
 refine Lib.hid ?_
 have r3:=r2.later hq3 r2.lt
 have hb3:=hb2.trans (hq3.mono hb2.size)
 clear hcon HW HW2 c0 f0 r2 hb2 hq3
 have c1:w3.cell? ⟨w.heap.size,1,none⟩=some (.int .u64 0):=by rw[r3.cell,hZe];rfl
 have f1:=r3.free 1
 obtain⟨w4,hw4⟩:∃w4,w4=w3.setCell ⟨w.heap.size,1,none⟩ (.int .u64 (n:Int)):=⟨_,rfl⟩
 obtain⟨V,hV⟩:∃V,V=prdV (⟨1,n,[],[],zeroR,0⟩:Prd) none 0:=⟨_,rfl⟩
 have r4:Row w4 w.heap.size 31 V:=by
  rw[hw4,hV,show prdV (⟨1,n,[],[],zeroR,0⟩:Prd) none 0=(Z.set 0 (.int .i64 1)).set 1 (.int .u64 (n:Int)) by rw[hZ];rfl]
  exact r3.set 1 _
 have hg4:w3.grownBy w4 (some w.heap.size):=by rw[hw4];exact grown_setCell _ _ _ _
 have hb4:=hb3.grown hg4 hb3.size (fun k h=>by cases h;exact Nat.le_refl _)
 have HW4:=Lib.hid hw4
 have tok4:True:=trivial
 clear hw4 r3 hb3 hg4 hZ hZe
 have hVl:=Lib.hid (show (Tryz.prog.info? 31).map (·.size)=some V.length by rw[hV,length_prdV _ ho.net.a];exact size_prd)
 have hzV:=Lib.hid (show (Tryz.prog.info? 31).map (·.size)=some V.toArray.size by rw[List.size_toArray];exact hVl.out)
 have hV1:=Lib.hid (show V.toArray.all (·.oneCell')=true by rw[hV];exact prdV_one _ _ _)
 have hVs:=Lib.hid (show 23=V.toArray.size by rw[List.size_toArray,hV,length_prdV _ ho.net.a])
 have HV:=Lib.hid hV
 clear hV
 have Q4:=Lib.hid (show w4.heap[w.heap.size]?=some (.cells V.toArray 31 (0,0)) from r4)
 have K4:=Lib.hid (row_range r4)
 clear r4
 go_wp2_with (first
  | (have _t:=tok4;rw[←HW4.out];clear tok4)
  | (with_reducible refine wpList_load_mid rfl 31 (.tmp 4) rfl w.heap.size 0 rfl V _ K4.out Tryz.underlying31 rfl hVl.out ?_)
  | (with_reducible refine wpList_store_row rfl 31 (.tmp 4) (.tmp 59) rfl w.heap.size V.toArray rfl rfl 31 V.toArray Q4.out hzV.out rfl hV1.out ?_;refine Hid.out ?_))
 refine Lib.hid ?_
 generalize hw8:World.setRow _ _ _=w8
 obtain⟨r8,hg8⟩:=row_set (show Row w4 w.heap.size 31 V from Q4.out) hw8
 have hb8:=hb4.grown hg8 hb4.size (fun k h=>by cases h;exact Nat.le_refl _)
 have R8:=Lib.hid (show w8.heap[w.heap.size]?=some (.cells V.toArray 31 (0,0)) from r8)
 clear hw8 r8 Q4 K4
 go_wp2_with fail
 exact⟨rfl,_,results_row_tmp rfl _ _ w.heap.size 31 V.toArray (0,0) _ rfl R8.out Tryz.underlying31 rfl hzV.out _ rfl,(⟨1,n,[],[],zeroR,0⟩:Prd),none,0,by rw[HV.out,←HP.out.1];rfl,prdAt_plain _ ho rfl (by show (0:Int)≤1;decide) (by show (1:Int)≤7;decide) (by show (0:Nat)≤4000;omega) _,fun g _ a ha=>(by cases ha),HP.out.2,hb8⟩
set_option maxHeartbeats 1000000 in
theorem pread_2 (a b:List UInt8) (hb:b.length≤1000) (w:World) (hE:EnvQ w) (e:a=[115,105,110,99,101]):Calls Tryz.prog 52 #[.string (bstr a),.string (bstr b)] w (GaveRead (readP a b) w):=by
 subst e
 have HV:readP [115,105,110,99,101] b=((numberL b).map fun n=>⟨2,n,[],[],zeroR,0⟩):=rfl
 have b1:=(bstr_is15 [115,105,110,99,101] [98,101,102,111,114,101]).trans (decide_eq_false (by decide))
 have b2:=(bstr_is15 [115,105,110,99,101] [115,105,110,99,101]).trans (decide_eq_true rfl)
 have ho:(⟨2,(numberL b).getD 0,[],[],zeroR,0⟩:Prd).Ok:=⟨zeroR_ok,numberL_lt b,by show (0:Nat) < 2^64;decide⟩
 have HP:=Lib.hid (show (numberL b).isSome=(readP [115,105,110,99,101] b).isSome∧∀x,readP [115,105,110,99,101] b=some x→(⟨2,(numberL b).getD 0,[],[],zeroR,0⟩:Prd)=x from ⟨by rw[HV,Option.isSome_map],fun x hx=>map_gave (numberL b) 0 (fun n=>⟨2,n,[],[],zeroR,0⟩) x (by rw[←HV];exact hx)⟩)
 have hcon:=fun w' h=>xnumber_any b (by omega) w' h
 rw[show numAns (numberL b)=.tuple #[.int .u64 (((numberL b).getD 0:Nat):Int),.bool (numberL b).isSome] from rfl] at hcon
 have hcon:=Lib.hid hcon
 clear HV
 generalize (numberL b).getD 0=n at *
 generalize (numberL b).isSome=ok at *
 generalize readP [115,105,110,99,101] b=o at *
 obtain⟨Z,hZ⟩:∃Z,Z=prdV zeroP none 0:=⟨_,rfl⟩
 have hZe:=hZ.trans prd_zero
 obtain⟨w1,hw1⟩:∃w1,w1=w.alloc (.cells Z.toArray 31):=⟨_,rfl⟩
 have r1:Row w1 w.heap.size 31 Z:=by rw[hw1];exact Row.new w _ _
 have hb1:Below w.heap.size w w1:=by rw[hw1];exact (Below.refl _ w).alloc (Nat.le_refl _) _
 have HW:=Lib.hid (hw1.trans (show w.alloc (.cells Z.toArray 31)=w.alloc (.cells [Value.int .i64 0,.int .u64 0,.slice none 0 0,.string { data:=#[] },.bool false,.int .u8 0,.int .u8 0,.int .u8 0,.int .u8 0,.int .u8 0,.int .u8 0,.int .u8 0,.int .u8 0,.int .u8 0,.int .u8 0,.int .u8 0,.int .u8 0,.int .u8 0,.int .u8 0,.int .u8 0,.int .u8 0,.int .i64 0,.float .f64 0].toArray 31) by rw[hZe]))
 have tok1:True:=trivial
 clear hw1
 have c0:w1.cell? ⟨w.heap.size,0,none⟩=some (.int .i64 0):=by rw[r1.cell,hZe];rfl
 have f0:=r1.free 0
 obtain⟨w2,hw2⟩:∃w2,w2=w1.setCell ⟨w.heap.size,0,none⟩ (.int .i64 2):=⟨_,rfl⟩
 have r2:Row w2 w.heap.size 31 (Z.set 0 (.int .i64 2)):=by rw[hw2];exact r1.set 0 _
 have hb2:Below w.heap.size w w2:=by rw[hw2];exact hb1.grown (grown_setCell _ _ _ _) hb1.size (fun k h=>by cases h;exact Nat.le_refl _)
 have hE2:=hE.next hb2
 have HW2:=Lib.hid hw2
 have tok2:True:=trivial
 have hcon:=Lib.hid (hcon.out _ hE2.n)
 clear hw2 hE hE2 r1 hb1
 generalize bstr [115,105,110,99,101]=S at *
 go_enter Tryz.func52,Tryz.ntmps52
 go_wp2_with (first
  | (have _t:=tok1;rw[←HW.out];clear tok1)
  | (have _t:=tok2;rw[←HW2.out];clear tok2)
  | (go_at_call 86;refine hcon.out.mono ?_;rintro e w3 ⟨rfl,hq3⟩;refine Hid.out ?_))
 refine Lib.hid ?_
 have r3:=r2.later hq3 r2.lt
 have hb3:=hb2.trans (hq3.mono hb2.size)
 clear hcon HW HW2 c0 f0 r2 hb2 hq3
 have c1:w3.cell? ⟨w.heap.size,1,none⟩=some (.int .u64 0):=by rw[r3.cell,hZe];rfl
 have f1:=r3.free 1
 obtain⟨w4,hw4⟩:∃w4,w4=w3.setCell ⟨w.heap.size,1,none⟩ (.int .u64 (n:Int)):=⟨_,rfl⟩
 obtain⟨V,hV⟩:∃V,V=prdV (⟨2,n,[],[],zeroR,0⟩:Prd) none 0:=⟨_,rfl⟩
 have r4:Row w4 w.heap.size 31 V:=by
  rw[hw4,hV,show prdV (⟨2,n,[],[],zeroR,0⟩:Prd) none 0=(Z.set 0 (.int .i64 2)).set 1 (.int .u64 (n:Int)) by rw[hZ];rfl]
  exact r3.set 1 _
 have hg4:w3.grownBy w4 (some w.heap.size):=by rw[hw4];exact grown_setCell _ _ _ _
 have hb4:=hb3.grown hg4 hb3.size (fun k h=>by cases h;exact Nat.le_refl _)
 have HW4:=Lib.hid hw4
 have tok4:True:=trivial
 clear hw4 r3 hb3 hg4 hZ hZe
 have hVl:=Lib.hid (show (Tryz.prog.info? 31).map (·.size)=some V.length by rw[hV,length_prdV _ ho.net.a];exact size_prd)
 have hzV:=Lib.hid (show (Tryz.prog.info? 31).map (·.size)=some V.toArray.size by rw[List.size_toArray];exact hVl.out)
 have hV1:=Lib.hid (show V.toArray.all (·.oneCell')=true by rw[hV];exact prdV_one _ _ _)
 have hVs:=Lib.hid (show 23=V.toArray.size by rw[List.size_toArray,hV,length_prdV _ ho.net.a])
 have HV:=Lib.hid hV
 clear hV
 have Q4:=Lib.hid (show w4.heap[w.heap.size]?=some (.cells V.toArray 31 (0,0)) from r4)
 have K4:=Lib.hid (row_range r4)
 clear r4
 go_wp2_with (first
  | (have _t:=tok4;rw[←HW4.out];clear tok4)
  | (with_reducible refine wpList_load_mid rfl 31 (.tmp 4) rfl w.heap.size 0 rfl V _ K4.out Tryz.underlying31 rfl hVl.out ?_)
  | (with_reducible refine wpList_store_row rfl 31 (.tmp 4) (.tmp 59) rfl w.heap.size V.toArray rfl rfl 31 V.toArray Q4.out hzV.out rfl hV1.out ?_;refine Hid.out ?_))
 refine Lib.hid ?_
 generalize hw8:World.setRow _ _ _=w8
 obtain⟨r8,hg8⟩:=row_set (show Row w4 w.heap.size 31 V from Q4.out) hw8
 have hb8:=hb4.grown hg8 hb4.size (fun k h=>by cases h;exact Nat.le_refl _)
 have R8:=Lib.hid (show w8.heap[w.heap.size]?=some (.cells V.toArray 31 (0,0)) from r8)
 clear hw8 r8 Q4 K4
 go_wp2_with fail
 exact⟨rfl,_,results_row_tmp rfl _ _ w.heap.size 31 V.toArray (0,0) _ rfl R8.out Tryz.underlying31 rfl hzV.out _ rfl,(⟨2,n,[],[],zeroR,0⟩:Prd),none,0,by rw[HV.out,←HP.out.1];rfl,prdAt_plain _ ho rfl (by show (0:Int)≤2;decide) (by show (2:Int)≤7;decide) (by show (0:Nat)≤4000;omega) _,fun g _ a ha=>(by cases ha),HP.out.2,hb8⟩
set_option maxHeartbeats 1000000 in
theorem pread_3 (a b:List UInt8) (hb:b.length≤1000) (w:World) (hE:EnvQ w) (e:a=[111,112]):Calls Tryz.prog 52 #[.string (bstr a),.string (bstr b)] w (GaveRead (readP a b) w):=by
 subst e
 have HV:readP [111,112] b=((namesC b).map fun l=>⟨3,0,l,[],zeroR,0⟩):=rfl
 have b1:=(bstr_is15 [111,112] [98,101,102,111,114,101]).trans (decide_eq_false (by decide))
 have b2:=(bstr_is15 [111,112] [115,105,110,99,101]).trans (decide_eq_false (by decide))
 have b3:=(bstr_is15 [111,112] [111,112]).trans (decide_eq_true rfl)
 have hsum:=names_sum17 b (by omega)
 have ho:(⟨3,0,(namesC b).getD [],[],zeroR,0⟩:Prd).Ok:=⟨zeroR_ok,by show (0:Nat) < 2^64;decide,by show (0:Nat) < 2^64;decide⟩
 have HP:=Lib.hid (show (namesC b).isSome=(readP [111,112] b).isSome∧∀x,readP [111,112] b=some x→(⟨3,0,(namesC b).getD [],[],zeroR,0⟩:Prd)=x from ⟨by rw[HV,Option.isSome_map],fun x hx=>map_gave (namesC b) [] (fun l=>⟨3,0,l,[],zeroR,0⟩) x (by rw[←HV];exact hx)⟩)
 have hcon:=fun w' h=>xnames_own b (by omega) w' h
 unfold GaveRowF at hcon
 have hcon:=Lib.hid hcon
 clear HV
 generalize (namesC b).getD []=l at *
 generalize (namesC b).isSome=ok at *
 generalize readP [111,112] b=o at *
 obtain⟨Z,hZ⟩:∃Z,Z=prdV zeroP none 0:=⟨_,rfl⟩
 have hZe:=hZ.trans prd_zero
 obtain⟨w1,hw1⟩:∃w1,w1=w.alloc (.cells Z.toArray 31):=⟨_,rfl⟩
 have r1:Row w1 w.heap.size 31 Z:=by rw[hw1];exact Row.new w _ _
 have hb1:Below w.heap.size w w1:=by rw[hw1];exact (Below.refl _ w).alloc (Nat.le_refl _) _
 have HW:=Lib.hid (hw1.trans (show w.alloc (.cells Z.toArray 31)=w.alloc (.cells [Value.int .i64 0,.int .u64 0,.slice none 0 0,.string { data:=#[] },.bool false,.int .u8 0,.int .u8 0,.int .u8 0,.int .u8 0,.int .u8 0,.int .u8 0,.int .u8 0,.int .u8 0,.int .u8 0,.int .u8 0,.int .u8 0,.int .u8 0,.int .u8 0,.int .u8 0,.int .u8 0,.int .u8 0,.int .i64 0,.float .f64 0].toArray 31) by rw[hZe]))
 have tok1:True:=trivial
 clear hw1
 have c0:w1.cell? ⟨w.heap.size,0,none⟩=some (.int .i64 0):=by rw[r1.cell,hZe];rfl
 have f0:=r1.free 0
 obtain⟨w2,hw2⟩:∃w2,w2=w1.setCell ⟨w.heap.size,0,none⟩ (.int .i64 3):=⟨_,rfl⟩
 have r2:Row w2 w.heap.size 31 (Z.set 0 (.int .i64 3)):=by rw[hw2];exact r1.set 0 _
 have hb2:Below w.heap.size w w2:=by rw[hw2];exact hb1.grown (grown_setCell _ _ _ _) hb1.size (fun k h=>by cases h;exact Nat.le_refl _)
 have hE2:=hE.next hb2
 have HW2:=Lib.hid hw2
 have tok2:True:=trivial
 have hcon:=Lib.hid (hcon.out _ hE2.x)
 clear hw2 hE hE2 r1 hb1
 generalize bstr [111,112]=S at *
 go_enter Tryz.func52,Tryz.ntmps52
 go_wp2_with (first
  | (have _t:=tok1;rw[←HW.out];clear tok1)
  | (have _t:=tok2;rw[←HW2.out];clear tok2)
  | (go_at_call 87;refine hcon.out.mono ?_;rintro e w3 ⟨A,c,rfl,sl3,hap,hq3⟩;have HAP:=Lib.hid hap;have HBS:=Lib.hid hb2.size;have hap:=hap _ r2.lt;have hap:=Lib.hid hap;refine Hid.out ?_))
 refine Lib.hid ?_
 have r3:=r2.later hq3 r2.lt
 have hb3:=hb2.trans (hq3.mono hb2.size)
 clear hcon HW HW2 c0 f0 r2 hb2 hq3
 have c1:w3.cell? ⟨w.heap.size,2,none⟩=some (.slice none 0 0):=by rw[r3.cell,hZe];rfl
 have f1:=r3.free 2
 obtain⟨w4,hw4⟩:∃w4,w4=w3.setCell ⟨w.heap.size,2,none⟩ (.slice A l.length c):=⟨_,rfl⟩
 obtain⟨V,hV⟩:∃V,V=prdV (⟨3,0,l,[],zeroR,0⟩:Prd) A c:=⟨_,rfl⟩
 have r4:Row w4 w.heap.size 31 V:=by
  rw[hw4,hV,show prdV (⟨3,0,l,[],zeroR,0⟩:Prd) A c=(Z.set 0 (.int .i64 3)).set 2 (.slice A l.length c) by rw[hZ];rfl]
  exact r3.set 2 _
 have hg4:w3.grownBy w4 (some w.heap.size):=by rw[hw4];exact grown_setCell _ _ _ _
 have hb4:=hb3.grown hg4 hb3.size (fun k h=>by cases h;exact Nat.le_refl _)
 have HW4:=Lib.hid hw4
 have tok4:True:=trivial
 have hpa:PrdAt w3 (⟨3,0,l,[],zeroR,0⟩:Prd) A c:=⟨ho,sl3,by show (-9223372036854775808:Int)≤3;decide,by show (3:Int)≤9223372036854775807;decide,by show (0:Nat)≤4000;omega,hsum⟩
 have HPA:=Lib.hid (hpa.apart hg4 hap.out)
 clear hpa sl3
 clear hw4 r3 hb3 hg4 hZ hZe
 have hVl:=Lib.hid (show (Tryz.prog.info? 31).map (·.size)=some V.length by rw[hV,length_prdV _ ho.net.a];exact size_prd)
 have hzV:=Lib.hid (show (Tryz.prog.info? 31).map (·.size)=some V.toArray.size by rw[List.size_toArray];exact hVl.out)
 have hV1:=Lib.hid (show V.toArray.all (·.oneCell')=true by rw[hV];exact prdV_one _ _ _)
 have hVs:=Lib.hid (show 23=V.toArray.size by rw[List.size_toArray,hV,length_prdV _ ho.net.a])
 have HV:=Lib.hid hV
 clear hV
 have Q4:=Lib.hid (show w4.heap[w.heap.size]?=some (.cells V.toArray 31 (0,0)) from r4)
 have K4:=Lib.hid (row_range r4)
 clear r4
 go_wp2_with (first
  | (have _t:=tok4;rw[←HW4.out];clear tok4)
  | (with_reducible refine wpList_load_mid rfl 31 (.tmp 4) rfl w.heap.size 0 rfl V _ K4.out Tryz.underlying31 rfl hVl.out ?_)
  | (with_reducible refine wpList_store_row rfl 31 (.tmp 4) (.tmp 59) rfl w.heap.size V.toArray rfl rfl 31 V.toArray Q4.out hzV.out rfl hV1.out ?_;refine Hid.out ?_))
 refine Lib.hid ?_
 generalize hw8:World.setRow _ _ _=w8
 obtain⟨r8,hg8⟩:=row_set (show Row w4 w.heap.size 31 V from Q4.out) hw8
 have hb8:=hb4.grown hg8 hb4.size (fun k h=>by cases h;exact Nat.le_refl _)
 have R8:=Lib.hid (show w8.heap[w.heap.size]?=some (.cells V.toArray 31 (0,0)) from r8)
 clear hw8 r8 Q4 K4
 go_wp2_with fail
 exact⟨rfl,_,results_row_tmp rfl _ _ w.heap.size 31 V.toArray (0,0) _ rfl R8.out Tryz.underlying31 rfl hzV.out _ rfl,(⟨3,0,l,[],zeroR,0⟩:Prd),A,c,by rw[HV.out,←HP.out.1];rfl,HPA.out.apart hg8 hap.out,fun g hg=>HAP.out g (by have:=HBS.out;omega),HP.out.2,hb8⟩
set_option maxHeartbeats 1000000 in
theorem pread_4 (a b:List UInt8) (hb:b.length≤1000) (w:World) (hE:EnvQ w) (e:a=[112,97,116,104]):Calls Tryz.prog 52 #[.string (bstr a),.string (bstr b)] w (GaveRead (readP a b) w):=by
 subst e
 have HV:readP [112,97,116,104] b=(if rightL b=true then some ⟨4,0,[],b,zeroR,0⟩ else none):=rfl
 have b1:=(bstr_is15 [112,97,116,104] [98,101,102,111,114,101]).trans (decide_eq_false (by decide))
 have b2:=(bstr_is15 [112,97,116,104] [115,105,110,99,101]).trans (decide_eq_false (by decide))
 have b3:=(bstr_is15 [112,97,116,104] [111,112]).trans (decide_eq_false (by decide))
 have b4:=(bstr_is15 [112,97,116,104] [112,97,116,104]).trans (decide_eq_true rfl)
 have ho:(⟨4,0,[],b,zeroR,0⟩:Prd).Ok:=⟨zeroR_ok,by show (0:Nat) < 2^64;decide,by show (0:Nat) < 2^64;decide⟩
 have HP:=Lib.hid (show rightL b=(readP [112,97,116,104] b).isSome∧∀x,readP [112,97,116,104] b=some x→(⟨4,0,[],b,zeroR,0⟩:Prd)=x from by
  rw[HV]
  cases rightL b with
  | true=>exact⟨rfl,fun x hx=>Option.some.inj hx⟩
  | false=>exact⟨rfl,fun x hx=>by cases hx⟩)
 have hcon:=Lib.hid (fun w'=>pright_any b (by omega) w')
 clear HV
 generalize rightL b=ok at *
 generalize readP [112,97,116,104] b=o at *
 obtain⟨Z,hZ⟩:∃Z,Z=prdV zeroP none 0:=⟨_,rfl⟩
 have hZe:=hZ.trans prd_zero
 obtain⟨w1,hw1⟩:∃w1,w1=w.alloc (.cells Z.toArray 31):=⟨_,rfl⟩
 have r1:Row w1 w.heap.size 31 Z:=by rw[hw1];exact Row.new w _ _
 have hb1:Below w.heap.size w w1:=by rw[hw1];exact (Below.refl _ w).alloc (Nat.le_refl _) _
 have HW:=Lib.hid (hw1.trans (show w.alloc (.cells Z.toArray 31)=w.alloc (.cells [Value.int .i64 0,.int .u64 0,.slice none 0 0,.string { data:=#[] },.bool false,.int .u8 0,.int .u8 0,.int .u8 0,.int .u8 0,.int .u8 0,.int .u8 0,.int .u8 0,.int .u8 0,.int .u8 0,.int .u8 0,.int .u8 0,.int .u8 0,.int .u8 0,.int .u8 0,.int .u8 0,.int .u8 0,.int .i64 0,.float .f64 0].toArray 31) by rw[hZe]))
 have tok1:True:=trivial
 clear hw1
 have c0:w1.cell? ⟨w.heap.size,0,none⟩=some (.int .i64 0):=by rw[r1.cell,hZe];rfl
 have f0:=r1.free 0
 obtain⟨w2,hw2⟩:∃w2,w2=w1.setCell ⟨w.heap.size,0,none⟩ (.int .i64 4):=⟨_,rfl⟩
 have r2:Row w2 w.heap.size 31 (Z.set 0 (.int .i64 4)):=by rw[hw2];exact r1.set 0 _
 have hb2:Below w.heap.size w w2:=by rw[hw2];exact hb1.grown (grown_setCell _ _ _ _) hb1.size (fun k h=>by cases h;exact Nat.le_refl _)
 have hE2:=hE.next hb2
 have HW2:=Lib.hid hw2
 have tok2:True:=trivial
 have hcon:=Lib.hid (hcon.out w2)
 clear hw2 hE hE2 r1 hb1
 generalize bstr [112,97,116,104]=S at *
 go_enter Tryz.func52,Tryz.ntmps52
 go_wp2_with (first
  | (have _t:=tok1;rw[←HW.out];clear tok1)
  | (have _t:=tok2;rw[←HW2.out];clear tok2)
  | (go_at_call 61;refine hcon.out.mono ?_;rintro e w3 ⟨rfl,hq3⟩;refine Hid.out ?_))
 refine Lib.hid ?_
 have r3:=r2.later hq3 r2.lt
 have hb3:=hb2.trans (hq3.mono hb2.size)
 clear hcon HW HW2 c0 f0 r2 hb2 hq3
 have c1:w3.cell? ⟨w.heap.size,3,none⟩=some (.string { data:=#[] }):=by rw[r3.cell,hZe];rfl
 have f1:=r3.free 3
 obtain⟨w4,hw4⟩:∃w4,w4=w3.setCell ⟨w.heap.size,3,none⟩ (.string (bstr b)):=⟨_,rfl⟩
 obtain⟨V,hV⟩:∃V,V=prdV (⟨4,0,[],b,zeroR,0⟩:Prd) none 0:=⟨_,rfl⟩
 have r4:Row w4 w.heap.size 31 V:=by
  rw[hw4,hV,show prdV (⟨4,0,[],b,zeroR,0⟩:Prd) none 0=(Z.set 0 (.int .i64 4)).set 3 (.string (bstr b)) by rw[hZ];rfl]
  exact r3.set 3 _
 have hg4:w3.grownBy w4 (some w.heap.size):=by rw[hw4];exact grown_setCell _ _ _ _
 have hb4:=hb3.grown hg4 hb3.size (fun k h=>by cases h;exact Nat.le_refl _)
 have HW4:=Lib.hid hw4
 have tok4:True:=trivial
 clear hw4 r3 hb3 hg4 hZ hZe
 have hVl:=Lib.hid (show (Tryz.prog.info? 31).map (·.size)=some V.length by rw[hV,length_prdV _ ho.net.a];exact size_prd)
 have hzV:=Lib.hid (show (Tryz.prog.info? 31).map (·.size)=some V.toArray.size by rw[List.size_toArray];exact hVl.out)
 have hV1:=Lib.hid (show V.toArray.all (·.oneCell')=true by rw[hV];exact prdV_one _ _ _)
 have hVs:=Lib.hid (show 23=V.toArray.size by rw[List.size_toArray,hV,length_prdV _ ho.net.a])
 have HV:=Lib.hid hV
 clear hV
 have Q4:=Lib.hid (show w4.heap[w.heap.size]?=some (.cells V.toArray 31 (0,0)) from r4)
 have K4:=Lib.hid (row_range r4)
 clear r4
 have HBN:=Lib.hid hb
 clear hb
 generalize hBB:bstr b=B at *
 clear hBB
 go_wp2_with (first
  | (have _t:=tok4;rw[←HW4.out];clear tok4)
  | (with_reducible refine wpList_load_mid rfl 31 (.tmp 4) rfl w.heap.size 0 rfl V _ K4.out Tryz.underlying31 rfl hVl.out ?_)
  | (with_reducible refine wpList_store_row rfl 31 (.tmp 4) (.tmp 59) rfl w.heap.size V.toArray rfl rfl 31 V.toArray Q4.out hzV.out rfl hV1.out ?_;refine Hid.out ?_))
 refine Lib.hid ?_
 generalize hw8:World.setRow _ _ _=w8
 obtain⟨r8,hg8⟩:=row_set (show Row w4 w.heap.size 31 V from Q4.out) hw8
 have hb8:=hb4.grown hg8 hb4.size (fun k h=>by cases h;exact Nat.le_refl _)
 have R8:=Lib.hid (show w8.heap[w.heap.size]?=some (.cells V.toArray 31 (0,0)) from r8)
 clear hw8 r8 Q4 K4
 go_wp2_with fail
 exact⟨rfl,_,results_row_tmp rfl _ _ w.heap.size 31 V.toArray (0,0) _ rfl R8.out Tryz.underlying31 rfl hzV.out _ rfl,(⟨4,0,[],b,zeroR,0⟩:Prd),none,0,by rw[HV.out,←HP.out.1];rfl,prdAt_plain _ ho rfl (by show (0:Int)≤4;decide) (by show (4:Int)≤7;decide) (by show b.length≤4000;have:=HBN.out;omega) _,fun g _ a ha=>(by cases ha),HP.out.2,hb8⟩
set_option maxHeartbeats 1000000 in
theorem pread_5 (a b:List UInt8) (hb:b.length≤1000) (w:World) (hE:EnvQ w) (e:a=[110,101,116]):Calls Tryz.prog 52 #[.string (bstr a),.string (bstr b)] w (GaveRead (readP a b) w):=by
 subst e
 have HV:readP [110,101,116] b=((parseR b).map fun r=>⟨5,0,[],[],r,0⟩):=rfl
 have b1:=(bstr_is15 [110,101,116] [98,101,102,111,114,101]).trans (decide_eq_false (by decide))
 have b2:=(bstr_is15 [110,101,116] [115,105,110,99,101]).trans (decide_eq_false (by decide))
 have b3:=(bstr_is15 [110,101,116] [111,112]).trans (decide_eq_false (by decide))
 have b4:=(bstr_is15 [110,101,116] [112,97,116,104]).trans (decide_eq_false (by decide))
 have b5:=(bstr_is15 [110,101,116] [110,101,116]).trans (decide_eq_true rfl)
 have ho:(⟨5,0,[],[],(parseR b).getD zeroR,0⟩:Prd).Ok:=cands_ok b _ (cand_mem b 4 (by omega))
 have HP:=Lib.hid (show (parseR b).isSome=(readP [110,101,116] b).isSome∧∀x,readP [110,101,116] b=some x→(⟨5,0,[],[],(parseR b).getD zeroR,0⟩:Prd)=x from ⟨by rw[HV,Option.isSome_map],fun x hx=>map_gave (parseR b) zeroR (fun r=>⟨5,0,[],[],r,0⟩) x (by rw[←HV];exact hx)⟩)
 have hcon:=fun w' h=>aparse13_any b (by omega) w' h
 rw[parsR_out] at hcon
 have hcon:=Lib.hid hcon
 clear HV
 generalize (parseR b).isSome=ok at *
 generalize (parseR b).getD zeroR=r at *
 obtain⟨N,hN⟩:∃N,N=rngV r:=⟨_,rfl⟩
 have hNl:=Lib.hid (show N.length=18 by rw[hN];exact length_rngV' _ ho.net.a)
 have hzN:=Lib.hid (show (Tryz.prog.info? 28).map (·.size)=some N.length by rw[hNl.out];exact size_rng)
 have hN1:=Lib.hid (show ∀v∈N,v.oneCell'=true by rw[hN];exact rngV_one r)
 have HN:=Lib.hid hN
 rw[←hN] at hcon
 clear hN
 generalize readP [110,101,116] b=o at *
 obtain⟨Z,hZ⟩:∃Z,Z=prdV zeroP none 0:=⟨_,rfl⟩
 have hZe:=hZ.trans prd_zero
 obtain⟨w1,hw1⟩:∃w1,w1=w.alloc (.cells Z.toArray 31):=⟨_,rfl⟩
 have r1:Row w1 w.heap.size 31 Z:=by rw[hw1];exact Row.new w _ _
 have hb1:Below w.heap.size w w1:=by rw[hw1];exact (Below.refl _ w).alloc (Nat.le_refl _) _
 have HW:=Lib.hid (hw1.trans (show w.alloc (.cells Z.toArray 31)=w.alloc (.cells [Value.int .i64 0,.int .u64 0,.slice none 0 0,.string { data:=#[] },.bool false,.int .u8 0,.int .u8 0,.int .u8 0,.int .u8 0,.int .u8 0,.int .u8 0,.int .u8 0,.int .u8 0,.int .u8 0,.int .u8 0,.int .u8 0,.int .u8 0,.int .u8 0,.int .u8 0,.int .u8 0,.int .u8 0,.int .i64 0,.float .f64 0].toArray 31) by rw[hZe]))
 have tok1:True:=trivial
 clear hw1
 have c0:w1.cell? ⟨w.heap.size,0,none⟩=some (.int .i64 0):=by rw[r1.cell,hZe];rfl
 have f0:=r1.free 0
 obtain⟨w2,hw2⟩:∃w2,w2=w1.setCell ⟨w.heap.size,0,none⟩ (.int .i64 5):=⟨_,rfl⟩
 have r2:Row w2 w.heap.size 31 (Z.set 0 (.int .i64 5)):=by rw[hw2];exact r1.set 0 _
 have hb2:Below w.heap.size w w2:=by rw[hw2];exact hb1.grown (grown_setCell _ _ _ _) hb1.size (fun k h=>by cases h;exact Nat.le_refl _)
 have hE2:=hE.next hb2
 have HW2:=Lib.hid hw2
 have tok2:True:=trivial
 have hcon:=Lib.hid (hcon.out _ hE2.a)
 clear hw2 hE hE2 r1 hb1
 generalize bstr [110,101,116]=S at *
 go_enter Tryz.func52,Tryz.ntmps52
 go_wp2_with (first
  | (have _t:=tok1;rw[←HW.out];clear tok1)
  | (have _t:=tok2;rw[←HW2.out];clear tok2)
  | (go_at_call 88;refine hcon.out.mono ?_;rintro e w3 ⟨rfl,hq3⟩;refine Hid.out ?_))
 refine Lib.hid ?_
 have r3:=r2.later hq3 r2.lt
 have hb3:=hb2.trans (hq3.mono hb2.size)
 clear hcon HW HW2 c0 f0 r2 hb2 hq3
 have hZl:=Lib.hid (show (Z.set 0 (.int .i64 5)).length=23 by rw[hZe];rfl)
 have HSP:=Lib.hid (show splice (Z.set 0 (.int .i64 5)) 4 N=prdV (⟨5,0,[],[],r,0⟩:Prd) none 0 by unfold splice;rw[hNl.out,HN.out,hZ];rfl)
 obtain⟨V,hV⟩:∃V,V=prdV (⟨5,0,[],[],r,0⟩:Prd) none 0:=⟨_,rfl⟩
 rw[←hV] at HSP
 clear hZ hZe
 have hVl:=Lib.hid (show (Tryz.prog.info? 31).map (·.size)=some V.length by rw[hV,length_prdV _ ho.net.a];exact size_prd)
 have hzV:=Lib.hid (show (Tryz.prog.info? 31).map (·.size)=some V.toArray.size by rw[List.size_toArray];exact hVl.out)
 have hV1:=Lib.hid (show V.toArray.all (·.oneCell')=true by rw[hV];exact prdV_one _ _ _)
 have hVs:=Lib.hid (show 23=V.toArray.size by rw[List.size_toArray,hV,length_prdV _ ho.net.a])
 have HV:=Lib.hid hV
 clear hV
 go_wp2_with (first
  | ((with_reducible refine wpList_step fun K hK=>?_);refine step_store_row none rfl (by rfl) 28 (.tmp 49) (.tmp 47) rfl w.heap.size 4 31 _ N rfl rfl r3 (by rw[hNl.out,hZl.out];omega) hzN.out hN1.out ?_;intro w4 r4 hg4;rw[HSP.out] at r4;refine hK _ _ ?_;clear hK;refine Hid.out ?_))
 refine Lib.hid ?_
 have hb4:=hb3.grown hg4 hb3.size (fun k h=>by cases h;exact Nat.le_refl _)
 clear r3 hb3 hg4
 have Q4:=Lib.hid (show w4.heap[w.heap.size]?=some (.cells V.toArray 31 (0,0)) from r4)
 have K4:=Lib.hid (row_range r4)
 clear r4
 go_wp2_with (first
  | (with_reducible refine wpList_load_mid rfl 31 (.tmp 4) rfl w.heap.size 0 rfl V _ K4.out Tryz.underlying31 rfl hVl.out ?_)
  | (with_reducible refine wpList_store_row rfl 31 (.tmp 4) (.tmp 59) rfl w.heap.size V.toArray rfl rfl 31 V.toArray Q4.out hzV.out rfl hV1.out ?_;refine Hid.out ?_))
 refine Lib.hid ?_
 generalize hw8:World.setRow _ _ _=w8
 obtain⟨r8,hg8⟩:=row_set (show Row w4 w.heap.size 31 V from Q4.out) hw8
 have hb8:=hb4.grown hg8 hb4.size (fun k h=>by cases h;exact Nat.le_refl _)
 have R8:=Lib.hid (show w8.heap[w.heap.size]?=some (.cells V.toArray 31 (0,0)) from r8)
 clear hw8 r8 Q4 K4
 go_wp2_with fail
 exact⟨rfl,_,results_row_tmp rfl _ _ w.heap.size 31 V.toArray (0,0) _ rfl R8.out Tryz.underlying31 rfl hzV.out _ rfl,(⟨5,0,[],[],r,0⟩:Prd),none,0,by rw[HV.out,←HP.out.1];rfl,prdAt_plain _ ho rfl (by show (0:Int)≤5;decide) (by show (5:Int)≤7;decide) (by show (0:Nat)≤4000;omega) _,fun g _ a ha=>(by cases ha),HP.out.2,hb8⟩
set_option maxHeartbeats 1000000 in
theorem pread_6 (a b:List UInt8) (hb:b.length≤1000) (w:World) (hE:EnvQ w) (e:a=[99,111,115,116]):Calls Tryz.prog 52 #[.string (bstr a),.string (bstr b)] w (GaveRead (readP a b) w):=by
 subst e
 have HV:readP [99,111,115,116] b=((parseC b).map fun c=>⟨6,0,[],[],zeroR,c⟩):=rfl
 have b1:=(bstr_is15 [99,111,115,116] [98,101,102,111,114,101]).trans (decide_eq_false (by decide))
 have b2:=(bstr_is15 [99,111,115,116] [115,105,110,99,101]).trans (decide_eq_false (by decide))
 have b3:=(bstr_is15 [99,111,115,116] [111,112]).trans (decide_eq_false (by decide))
 have b4:=(bstr_is15 [99,111,115,116] [112,97,116,104]).trans (decide_eq_false (by decide))
 have b5:=(bstr_is15 [99,111,115,116] [110,101,116]).trans (decide_eq_false (by decide))
 have b6:=(bstr_is15 [99,111,115,116] [99,111,115,116]).trans (decide_eq_true rfl)
 have ho:(⟨6,0,[],[],zeroR,(parseC b).getD 0⟩:Prd).Ok:=cands_ok b _ (cand_mem b 5 (by omega))
 have HP:=Lib.hid (show (parseC b).isSome=(readP [99,111,115,116] b).isSome∧∀x,readP [99,111,115,116] b=some x→(⟨6,0,[],[],zeroR,(parseC b).getD 0⟩:Prd)=x from ⟨by rw[HV,Option.isSome_map],fun x hx=>map_gave (parseC b) 0 (fun c=>⟨6,0,[],[],zeroR,c⟩) x (by rw[←HV];exact hx)⟩)
 have hcon:=Lib.hid (fun w' h=>cparse_any b (by omega) w' h)
 clear HV
 generalize (parseC b).getD 0=f at *
 generalize (parseC b).isSome=ok at *
 generalize readP [99,111,115,116] b=o at *
 obtain⟨Z,hZ⟩:∃Z,Z=prdV zeroP none 0:=⟨_,rfl⟩
 have hZe:=hZ.trans prd_zero
 obtain⟨w1,hw1⟩:∃w1,w1=w.alloc (.cells Z.toArray 31):=⟨_,rfl⟩
 have r1:Row w1 w.heap.size 31 Z:=by rw[hw1];exact Row.new w _ _
 have hb1:Below w.heap.size w w1:=by rw[hw1];exact (Below.refl _ w).alloc (Nat.le_refl _) _
 have HW:=Lib.hid (hw1.trans (show w.alloc (.cells Z.toArray 31)=w.alloc (.cells [Value.int .i64 0,.int .u64 0,.slice none 0 0,.string { data:=#[] },.bool false,.int .u8 0,.int .u8 0,.int .u8 0,.int .u8 0,.int .u8 0,.int .u8 0,.int .u8 0,.int .u8 0,.int .u8 0,.int .u8 0,.int .u8 0,.int .u8 0,.int .u8 0,.int .u8 0,.int .u8 0,.int .u8 0,.int .i64 0,.float .f64 0].toArray 31) by rw[hZe]))
 have tok1:True:=trivial
 clear hw1
 have c0:w1.cell? ⟨w.heap.size,0,none⟩=some (.int .i64 0):=by rw[r1.cell,hZe];rfl
 have f0:=r1.free 0
 obtain⟨w2,hw2⟩:∃w2,w2=w1.setCell ⟨w.heap.size,0,none⟩ (.int .i64 6):=⟨_,rfl⟩
 have r2:Row w2 w.heap.size 31 (Z.set 0 (.int .i64 6)):=by rw[hw2];exact r1.set 0 _
 have hb2:Below w.heap.size w w2:=by rw[hw2];exact hb1.grown (grown_setCell _ _ _ _) hb1.size (fun k h=>by cases h;exact Nat.le_refl _)
 have hE2:=hE.next hb2
 have HW2:=Lib.hid hw2
 have tok2:True:=trivial
 have hcon:=Lib.hid (hcon.out _ hE2.d)
 clear hw2 hE hE2 r1 hb1
 generalize bstr [99,111,115,116]=S at *
 go_enter Tryz.func52,Tryz.ntmps52
 go_wp2_with (first
  | (have _t:=tok1;rw[←HW.out];clear tok1)
  | (have _t:=tok2;rw[←HW2.out];clear tok2)
  | (go_at_call 89;refine hcon.out.mono ?_;rintro e w3 ⟨rfl,hq3⟩;refine Hid.out ?_))
 refine Lib.hid ?_
 have r3:=r2.later hq3 r2.lt
 have hb3:=hb2.trans (hq3.mono hb2.size)
 clear hcon HW HW2 c0 f0 r2 hb2 hq3
 have c1:w3.cell? ⟨w.heap.size,22,none⟩=some (.float .f64 0):=by rw[r3.cell,hZe];rfl
 have f1:=r3.free 22
 obtain⟨w4,hw4⟩:∃w4,w4=w3.setCell ⟨w.heap.size,22,none⟩ (.float .f64 f):=⟨_,rfl⟩
 obtain⟨V,hV⟩:∃V,V=prdV (⟨6,0,[],[],zeroR,f⟩:Prd) none 0:=⟨_,rfl⟩
 have r4:Row w4 w.heap.size 31 V:=by
  rw[hw4,hV,show prdV (⟨6,0,[],[],zeroR,f⟩:Prd) none 0=(Z.set 0 (.int .i64 6)).set 22 (.float .f64 f) by rw[hZ];rfl]
  exact r3.set 22 _
 have hg4:w3.grownBy w4 (some w.heap.size):=by rw[hw4];exact grown_setCell _ _ _ _
 have hb4:=hb3.grown hg4 hb3.size (fun k h=>by cases h;exact Nat.le_refl _)
 have HW4:=Lib.hid hw4
 have tok4:True:=trivial
 clear hw4 r3 hb3 hg4 hZ hZe
 have hVl:=Lib.hid (show (Tryz.prog.info? 31).map (·.size)=some V.length by rw[hV,length_prdV _ ho.net.a];exact size_prd)
 have hzV:=Lib.hid (show (Tryz.prog.info? 31).map (·.size)=some V.toArray.size by rw[List.size_toArray];exact hVl.out)
 have hV1:=Lib.hid (show V.toArray.all (·.oneCell')=true by rw[hV];exact prdV_one _ _ _)
 have hVs:=Lib.hid (show 23=V.toArray.size by rw[List.size_toArray,hV,length_prdV _ ho.net.a])
 have HV:=Lib.hid hV
 clear hV
 have Q4:=Lib.hid (show w4.heap[w.heap.size]?=some (.cells V.toArray 31 (0,0)) from r4)
 have K4:=Lib.hid (row_range r4)
 clear r4
 go_wp2_with (first
  | (have _t:=tok4;rw[←HW4.out];clear tok4)
  | (with_reducible refine wpList_load_mid rfl 31 (.tmp 4) rfl w.heap.size 0 rfl V _ K4.out Tryz.underlying31 rfl hVl.out ?_)
  | (with_reducible refine wpList_store_row rfl 31 (.tmp 4) (.tmp 59) rfl w.heap.size V.toArray rfl rfl 31 V.toArray Q4.out hzV.out rfl hV1.out ?_;refine Hid.out ?_))
 refine Lib.hid ?_
 generalize hw8:World.setRow _ _ _=w8
 obtain⟨r8,hg8⟩:=row_set (show Row w4 w.heap.size 31 V from Q4.out) hw8
 have hb8:=hb4.grown hg8 hb4.size (fun k h=>by cases h;exact Nat.le_refl _)
 have R8:=Lib.hid (show w8.heap[w.heap.size]?=some (.cells V.toArray 31 (0,0)) from r8)
 clear hw8 r8 Q4 K4
 go_wp2_with fail
 exact⟨rfl,_,results_row_tmp rfl _ _ w.heap.size 31 V.toArray (0,0) _ rfl R8.out Tryz.underlying31 rfl hzV.out _ rfl,(⟨6,0,[],[],zeroR,f⟩:Prd),none,0,by rw[HV.out,←HP.out.1];rfl,prdAt_plain _ ho rfl (by show (0:Int)≤6;decide) (by show (6:Int)≤7;decide) (by show (0:Nat)≤4000;omega) _,fun g _ a ha=>(by cases ha),HP.out.2,hb8⟩
theorem pread17_any (a b:List UInt8) (hb:b.length≤1000) (w:World) (hE:EnvQ w):Calls Tryz.prog 52 #[.string (bstr a),.string (bstr b)] w (GaveRead (readP a b) w):=by
 by_cases e1:a=[98,101,102,111,114,101]
 ·exact pread_1 a b hb w hE e1
 by_cases e2:a=[115,105,110,99,101]
 ·exact pread_2 a b hb w hE e2
 by_cases e3:a=[111,112]
 ·exact pread_3 a b hb w hE e3
 by_cases e4:a=[112,97,116,104]
 ·exact pread_4 a b hb w hE e4
 by_cases e5:a=[110,101,116]
 ·exact pread_5 a b hb w hE e5
 by_cases e6:a=[99,111,115,116]
 ·exact pread_6 a b hb w hE e6
 exact pread_0 a b hb w hE e1 e2 e3 e4 e5 e6
structure ReqArg (r:Req):Prop where
 src:r.src.Ok
 op:r.op.length≤140737488351232
 path:r.path.length≤140737488351232
def oddQ (r:Req):Int:=if 1000 < r.op.length∨1000 < r.path.length then 1 else 0
theorem oddQ_one (r:Req) (h:1000 < r.op.length∨1000 < r.path.length):oddQ r=1:=if_pos h
theorem oddQ_zero (r:Req) (h1:r.op.length≤1000) (h2:r.path.length≤1000):oddQ r=0:=if_neg (by omega)
set_option maxHeartbeats 4000000 in
theorem qodd_any (r:Req) (w:World) (_h:ReqArg r):Calls Tryz.prog 8 #[.agg (reqV r).toArray] w fun e w'=>e=.returned (.int .i64 (oddQ r))∧Below w.heap.size w w':=by
 have hb1:Below w.heap.size w (w.alloc (.cells (reqV r).toArray 33)):=(Below.refl _ w).alloc (Nat.le_refl _) _
 have x0:(reqV r)[0]?=some (.string (bstr r.op)):=rfl
 have x1:(reqV r)[1]?=some (.string (bstr r.path)):=rfl
 have H1:=Lib.hid (oddQ_one r)
 have H0:=Lib.hid (oddQ_zero r)
 have z0:=size_bstr r.op
 have z1:=size_bstr r.path
 generalize oddQ r=V at *
 generalize bstr r.op=O at *
 generalize bstr r.path=P at *
 generalize r.op.length=m at *
 generalize r.path.length=n at *
 generalize reqV r=X at *
 by_cases h1:1000 < m
 ·have h1':(1000:Int) < (m:Int):=by omega
  have HV:=Lib.hid (H1.out (.inl h1))
  clear h1
  go_enter Tryz.func8,Tryz.ntmps8
  go_wp2
  go_ret
  exact⟨by rw[HV.out];rfl,hb1⟩
 ·have h1':(m:Int)≤1000:=by omega
  by_cases h2:1000 < n
  ·have h2':(1000:Int) < (n:Int):=by omega
   have HV:=Lib.hid (H1.out (.inr h2))
   clear h1 h2
   go_enter Tryz.func8,Tryz.ntmps8
   go_wp2
   go_ret
   exact⟨by rw[HV.out];rfl,hb1⟩
  ·have h2':(n:Int)≤1000:=by omega
   have HV:=Lib.hid (H0.out (by omega) (by omega))
   clear h1 h2
   go_enter Tryz.func8,Tryz.ntmps8
   go_wp2
   go_ret
   exact⟨by rw[HV.out];rfl,hb1⟩
def askV (r:Req) (b t:Nat):List Value:=reqV r++[.int .u64 (b:Int),.int .u64 (t:Int)]
def askR (r:Req) (b:Nat):Req:=⟨r.op,r.path,r.src,b⟩
theorem req_split (r:Req):reqV r=([.string (bstr r.op),.string (bstr r.path)]++adrV r.src)++[.float .f64 r.cost]:=by
 unfold reqV;rw[List.append_assoc]
theorem ask_set (r:Req) (h:r.src.Ok) (b t:Nat):(askV r b t).set 19 (.float .f64 b)=askV (askR r b) b t:=by
 unfold askV
 rw[List.set_append_left _ _ (by rw[length_reqV r h];omega),req_split,req_split,List.set_append_right _ _ (by rw[List.length_append,length_adrV h];exact Nat.le_refl _),List.length_append,length_adrV h]
 rfl
set_option maxHeartbeats 4000000 in
theorem qreq_any (r:Req) (b t:Nat) (hb:b < 2^64) (w:World) (h:ReqArg r) :
  Calls Tryz.prog 9 #[.agg (askV r b t).toArray] w fun e w'=>e=.returned (.agg (reqV (askR r b)).toArray)∧Below w.heap.size w w':=by
 have hzR:=Lib.hid (show (Tryz.prog.info? 33).map (·.size)=some (reqV (askR r b)).length by rw[length_reqV (askR r b) h.src];exact size_req)
 have hzR2:=Lib.hid (show (Tryz.prog.info? 33).map (·.size)=some (reqV (askR r b)).toArray.size by rw[List.size_toArray,length_reqV (askR r b) h.src];exact size_req)
 have h20:=Lib.hid (show 20=(reqV (askR r b)).toArray.size by rw[List.size_toArray,length_reqV (askR r b) h.src])
 have hR1:=Lib.hid (reqV_one (askR r b))
 have hset:=Lib.hid (ask_set r h.src b t)
 have hrg:=Lib.hid (fun (W:World) g (hr:Row W g 35 (askV (askR r b) b t))=>(range_of_row (A:=[]) (B:=reqV (askR r b)) (C:=[.int .u64 (b:Int),.int .u64 (t:Int)]) hr:W.rangeAt g 0 (reqV (askR r b))))
 have x20:(askV r b t)[20]?=some (.int .u64 (b:Int)):=by
  unfold askV
  rw[List.getElem?_append_right (by rw[length_reqV r h.src];exact Nat.le_refl _),length_reqV r h.src];rfl
 generalize hQ:reqV (askR r b)=Q at *
 obtain⟨X,hX⟩:∃X,X=askV r b t:=⟨_,rfl⟩
 obtain⟨Y,hY⟩:∃Y,Y=askV (askR r b) b t:=⟨_,rfl⟩
 rw[←hX] at hset x20 ⊢
 rw[←hY] at hset hrg
 have hbb:((b:Int)).toNat=b:=by omega
 have x19:∃v,X[19]?=some v:=by
  rw[hX]
  exact⟨_,List.getElem?_eq_getElem (by unfold askV;rw[List.length_append,length_reqV r h.src];simp)⟩
 obtain⟨v19,x19⟩:=x19
 clear hX hY hQ h
 obtain⟨w1,hw1⟩:∃w1,w1=(w.alloc (.cells X.toArray 35)).alloc (.cells [Value.string { data:=#[] },.string { data:=#[] },.bool false,.int .u8 0,.int .u8 0,.int .u8 0,.int .u8 0,.int .u8 0,.int .u8 0,.int .u8 0,.int .u8 0,.int .u8 0,.int .u8 0,.int .u8 0,.int .u8 0,.int .u8 0,.int .u8 0,.int .u8 0,.int .u8 0,.float .f64 0].toArray 33):=⟨_,rfl⟩
 obtain⟨r1,q1,hb1⟩:=two_boxes hw1.symm
 have c19:w1.cell? ⟨w.heap.size,19,none⟩=some v19:=by rw[r1.cell];exact x19
 have hfz:=r1.free 19
 obtain⟨w2,hw2⟩:∃w2,w2=(w.alloc (.cells (X.set 19 (.float .f64 b)).toArray 35)).alloc (.cells [Value.string { data:=#[] },.string { data:=#[] },.bool false,.int .u8 0,.int .u8 0,.int .u8 0,.int .u8 0,.int .u8 0,.int .u8 0,.int .u8 0,.int .u8 0,.int .u8 0,.int .u8 0,.int .u8 0,.int .u8 0,.int .u8 0,.int .u8 0,.int .u8 0,.int .u8 0,.float .f64 0].toArray 33):=⟨_,rfl⟩
 obtain⟨r2,q2,hb2⟩:=two_boxes hw2.symm
 rw[hset.out] at r2
 rw[hw1] at c19 hfz
 have HW2:=Lib.hid hw2
 have Q2:=Lib.hid (show w2.heap[w.heap.size+1]?=some (.cells [Value.string { data:=#[] },.string { data:=#[] },.bool false,.int .u8 0,.int .u8 0,.int .u8 0,.int .u8 0,.int .u8 0,.int .u8 0,.int .u8 0,.int .u8 0,.int .u8 0,.int .u8 0,.int .u8 0,.int .u8 0,.int .u8 0,.int .u8 0,.int .u8 0,.int .u8 0,.float .f64 0].toArray 33 (0,0)) from q2)
 have HRG0:w2.rangeAt w.heap.size 0 Q:=hrg.out w2 _ r2
 have HRG:=Lib.hid HRG0
 clear hw1 hw2 r1 q1 hb1 r2 x19
 have tokL:True:=trivial
 go_enter Tryz.func9,Tryz.ntmps9
 go_wp2_with (first
  | (have _t:=tokL;rw[←HW2.out];with_reducible refine wpList_load_mid rfl 33 (.tmp 8) rfl w.heap.size 0 rfl Q _ HRG.out Tryz.underlying33 rfl hzR.out ?_;clear tokL;have tokS:True:=trivial)
  | (have _t:=tokS;refine wpList_store_row rfl 33 (.tmp 2) (.tmp 9) rfl (w.heap.size+1) Q.toArray rfl rfl 33 _ Q2.out hzR2.out h20.out hR1.out ?_;refine Hid.out ?_))
 refine Lib.hid ?_
 generalize hw3:World.setRow _ _ _=w3
 obtain⟨r3,hg3⟩:=row_set (show Row w2 (w.heap.size+1) 33 _ from Q2.out) hw3
 have hb3:=hb2.grown hg3 hb2.size (fun k h=>by cases h;exact Nat.le_succ _)
 have R3:=Lib.hid (show w3.heap[w.heap.size+1]?=some (.cells Q.toArray 33 (0,0)) from r3)
 clear hw3 r3 hg3 Q2
 go_wp2_with (with_reducible refine bodyPost_ret (results_cell_row rfl _ _ (w.heap.size+1) 33 Q.toArray (0,0) _ rfl R3.out Tryz.underlying33 rfl hzR2.out) rfl ?_)
end Go.Proofs.YtjieebmcbpdeiaaGreatDoor
