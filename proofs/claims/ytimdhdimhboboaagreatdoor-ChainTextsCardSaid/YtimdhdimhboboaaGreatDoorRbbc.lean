import Derived.Test.YtimdhdimhboboaaGreatDoorRbap
import Derived.Test.YtimdhdimhboboaaGreatDoorRbbb
import Derived.Test.YtimdhdimhboboaaGreatDoorRbba
import Derived.Test.YtimdhdimhboboaaGreatDoorRbaz
import Derived.Great.FillDense
import Derived.Test.YtimdhdimhboboaaGreatDoorRbak
import Derived.Great.BuildSlice
import Derived.Deep.DeepCutAuto
import Derived.Deep.CutBlock
import Derived.Test.YtimdhdimhboboaaGreatDoorRbas
namespace Go.Proofs.YtimdhdimhboboaaGreatDoor
set_option maxRecDepth 100000
open Go Go.RowKit
theorem w0n (s:List UInt8):∃(a:Adr) (b:Bool),a.Ok∧k0h (b0V s)=.tuple #[.agg (adrV a).toArray,.bool b]∧(b=true→b0V s=some a)∧(b=false→b0V s=none):=by
 cases hp:b0V s with
 | none=>exact⟨a0G,false,b0D,rfl,(fun h=>by cases h),fun _=>rfl⟩
 | some a=>exact⟨a,true,((d0S s a).1 hp).1,rfl,(fun _=>rfl),fun h=>by cases h⟩
theorem w0p (s:List UInt8) (k:Nat) (a:Adr) (n:Nat) (hs:d0G s=some k) (hp:b0V (s.take k)=some a) (ht:b0t ⟨a,n⟩=s):b0p s=some ⟨a,n⟩:=by
 refine (d0T s ⟨a,n⟩).2 ⟨((d0S _ a).1 hp).1,?_,ht⟩
 refine (g0P _ ?_).1
 rw[ht]
 intro e
 rw[e] at hs;cases hs
theorem w0q (s:List UInt8) (k:Nat) (a:Adr) (hs:d0G s=some k) (hp:b0V (s.take k)=some a) (hn:∀n:Nat,n < 129→b0t ⟨a,n⟩≠s):b0p s=none:=by
 unfold b0p
 simp only[hs,hp]
 rw[List.find?_eq_none.2 (fun n hmem=>by simpa using hn n (List.mem_range.1 hmem))]
 rfl
theorem o0k (s:List UInt8) (hs:d0G s=none):b0p s=none:=by unfold b0p;simp only[hs]
theorem o0l (s:List UInt8) (k:Nat) (hs:d0G s=some k) (hp:b0V (s.take k)=none):b0p s=none:=by unfold b0p;simp only[hs,hp]
set_option maxHeartbeats 4000000 in
theorem o0z (s:List UInt8) (hs:s.length≤1000) (w:World) :
  Calls Tryz.prog 53 #[.string (bstr s)] w fun e w'=>e=.returned (i0N (b0p s))∧Below w.heap.size w w':=by
 have hzs:=a0f s
 have HE:=Lib.hid (fun t=>b0S t s)
 obtain⟨Z,hZ⟩:∃Z,Z=rngV a0P:=⟨_,rfl⟩
 have hzZ:=Lib.hid (show (Tryz.prog.info? 67).map (·.size)=some Z.toArray.size by rw[hZ,List.size_toArray,a0w _ b0D];exact c0f)
 have hZ1:=Lib.hid (show Z.toArray.all (·.oneCell')=true by rw[hZ];exact d0d _)
 have HZ0:=Lib.hid (show i0N none=.tuple #[.agg Z.toArray,.bool false] by rw[hZ];rfl)
 have hZl:=Lib.hid (show Z.toArray.size=18 by rw[hZ,List.size_toArray,a0w _ b0D])
 have hZe:=Lib.hid (hZ.trans h0Q)
 obtain⟨w1,hw1⟩:∃w1,w1=w.alloc (.cells Z.toArray 67):=⟨_,rfl⟩
 have q1:Row w1 w.heap.size 67 Z:=by rw[hw1];exact Row.new w _ _
 have hb1:Below w.heap.size w w1:=by rw[hw1];exact (Below.refl _ w).alloc (Nat.le_refl _) _
 have HW:=Lib.hid (show w1=w.alloc (.cells #[Value.bool false,.int .u8 0,.int .u8 0,.int .u8 0,.int .u8 0,.int .u8 0,.int .u8 0,.int .u8 0,.int .u8 0,.int .u8 0,.int .u8 0,.int .u8 0,.int .u8 0,.int .u8 0,.int .u8 0,.int .u8 0,.int .u8 0,.int .i64 0] 67) by rw[hw1,hZe.out])
 clear hw1 hZ
 have hno:=q0h s
 have hat:=x0c s
 have HNO:=Lib.hid hno
 have HAT:=Lib.hid hat
 have HIX:=Lib.hid (a0Q s)
 have HCUT:=Lib.hid (fun k=>(show (bstr s).extract 0 k=bstr (s.take k) by rw[a0y s 0 k];simp))
 clear hno hat
 obtain⟨S,hS⟩:∃S,S=bstr s:=⟨_,rfl⟩
 rw[←hS] at hzs HIX HCUT HE ⊢
 clear hS
 go_enter Tryz.func53,Tryz.ntmps53
 go_wp2
 rw[←HW.out]
 clear HW
 go_loopw [4] (fun i wr=>∃k:Nat,k≤s.length∧i=.int .i64 k∧(∀j,j < k→s.getD j 0≠47)∧Row wr w.heap.size 67 Z∧Below w.heap.size w wr) (fun i _=>s.length - (intOf i).toNat)
 case atStart=>exact⟨0,Nat.zero_le _,rfl,fun j hj=>by omega,q1,hb1⟩
 case round =>
  clear q1 hb1
  obtain⟨k,hk,rfl,hz,q1,hb1⟩:=hrel
  by_cases hlt:k < s.length
  ·have hlt':(k:Int) < (s.length:Int):=by omega
   have hix:=HIX.out k hlt
   by_cases hx:s.getD k 0=47
   ·have HSL:=Lib.hid (HAT.out k hlt hz hx)
    rw[hx] at hix
    have hix:∀w,(Instr.index 9 (.string S) (.int .i64 (k:Int))).run Tryz.prog w=.ok (.int .u8 47) w:=hix
    obtain⟨a,ok,ha,hpe,hpt,hpf⟩:=w0n (s.take k)
    have hpr:=Lib.hid (fun w'=>t0s (s.take k) (by rw[List.length_take];omega) w')
    rw[hpe] at hpr
    have hcut:=HCUT.out k
    have HPT:=Lib.hid hpt
    have HPF:=Lib.hid hpf
    obtain⟨V,hV⟩:∃V,V=adrV a:=⟨_,rfl⟩
    have hVl:=Lib.hid (show V.length=17 by rw[hV];exact a0l ha)
    have hzV:=Lib.hid (show (Tryz.prog.info? 65).map (·.size)=some V.length by rw[hVl.out];exact a0W)
    have hzV2:=Lib.hid (show (Tryz.prog.info? 65).map (·.size)=some V.toArray.size by rw[List.size_toArray,hVl.out];exact a0W)
    have h17:=Lib.hid (show 17=V.toArray.size by rw[List.size_toArray,hVl.out])
    have hV1:=Lib.hid (show V.toArray.all (·.oneCell')=true by rw[hV];exact m0R _)
    have HV:=Lib.hid hV
    rw[←hV] at hpr
    have hks:(k:Int)≤(s.length:Int):=by omega
    generalize bstr (s.take k)=T at *
    clear hV hz hx HIX HCUT HNO HAT hpt hpf hpe
    go_wp2_with (first
     | (go_at_call 77;refine (hpr.out _).mono ?_;rintro e w2 ⟨rfl,hb2⟩;have q2:=q1.later hb2 q1.lt;have hb2:=hb1.trans (hb2.mono hb1.size))
     | (have _t:=hb2;refine wpList_store_row rfl 65 (.tmp 5) (.tmp 24) rfl w2.heap.size V.toArray rfl rfl 65 _ (heap_alloc_new w2 _) hzV2.out h17.out hV1.out ?_;refine Hid.out ?_))
    refine Lib.hid ?_
    generalize hw4:World.setRow _ _ _=w4
    obtain⟨r4,hb4'⟩:=a0p (xs:=V) hw4
    have q4:=q2.later hb4' q2.lt
    have hb4:=hb2.trans (hb4'.mono hb2.size)
    clear hw4 hb4' q1 q2 hix hcut hpr
    generalize w2.heap.size=g at *
    go_wp2
    go_loopw [7] (fun i wr2=>∃n:Nat,n≤129∧i=.int .i64 n∧(∀j:Nat,j < n→b0t ⟨a,j⟩≠s)∧Row wr2 w.heap.size 67 Z∧Row wr2 g 65 V∧Below w.heap.size w wr2) (fun i _=>129 - (intOf i).toNat)
    case atStart=>exact⟨0,Nat.zero_le _,rfl,fun j hj=>by omega,q4,r4,hb4⟩
    case round =>
     clear q4 r4 hb4
     obtain⟨n,hn,rfl,hz,q4,r4,hb4⟩:=hrel
     cases ok with
     | false =>
      have HX:=Lib.hid (show i0N (b0p s)=.tuple #[.agg Z.toArray,.bool false] by rw[o0l s k HSL.out (HPF.out rfl),HZ0.out])
      have Q2:=Lib.hid (show wr.heap[w.heap.size]?=some (.cells Z.toArray 67 (0,0)) from q4)
      clear hz q4 r4 HPT HPF HSL HE
      go_wp2_with (have _t:=Q2;refine wpList_store_row rfl 67 (.tmp 2) (.tmp 41) rfl w.heap.size Z.toArray rfl (by rw[hZe.out];rfl) 67 Z.toArray Q2.out hzZ.out rfl hZ1.out ?_;refine Hid.out ?_)
      refine Lib.hid ?_
      generalize hw8:World.setRow _ _ _=w8
      obtain⟨r8,hg8⟩:=a0z (show Row wr w.heap.size 67 Z from Q2.out) hw8
      have hb8:=hb4.grown hg8 hb4.size (fun k h=>by cases h;exact Nat.le_refl _)
      have R8:=Lib.hid (show w8.heap[w.heap.size]?=some (.cells Z.toArray 67 (0,0)) from r8)
      clear hw8 r8 hg8 Q2
      go_wp2_with fail
      exact⟨rfl,_,a0g rfl _ _ w.heap.size 67 Z.toArray (0,0) _ rfl R8.out Tryz.underlying67 rfl hzZ.out _ rfl,by rw[HX.out];rfl,hb8⟩
     | true =>
      have HP:=Lib.hid (HPT.out rfl)
      by_cases hlt2:n≤128
      ·have hlt3:(n:Int)≤128:=by omega
       have hro:(⟨a,(n:Int)⟩:Rng).Ok:=⟨ha,by show (-9223372036854775808:Int)≤(n:Int);omega,by show (n:Int)≤9223372036854775807;omega⟩
       have htx:=Lib.hid (fun w'=>k0r ⟨a,n⟩ hro w')
       have heq:=HE.out (b0t ⟨a,n⟩)
       obtain⟨X,hX⟩:∃X,X=rngV ⟨a,n⟩:=⟨_,rfl⟩
       have hXl:=a0w _ hro.a
       have hzX:=Lib.hid (show (Tryz.prog.info? 67).map (·.size)=some X.length by rw[hX,hXl];exact c0f)
       have hzX2:=Lib.hid (show (Tryz.prog.info? 67).map (·.size)=some X.toArray.size by rw[List.size_toArray];exact hzX.out)
       have h18:=Lib.hid (show 18=X.toArray.size by rw[hX,List.size_toArray,hXl])
       have hX1:=Lib.hid (show X.toArray.all (·.oneCell')=true by rw[hX];exact d0d _)
       have hZX:=Lib.hid (show Z.toArray.size=X.toArray.size by rw[hZl.out,hX,List.size_toArray,hXl])
       have HXe:=Lib.hid (show X=V++[Value.int .i64 (n:Int)] by rw[hX,HV.out];rfl)
       have HXp:=Lib.hid (show i0N (some ⟨a,n⟩)=.tuple #[.agg X.toArray,.bool true] by rw[hX];rfl)
       rw[←hX] at htx
       clear hX hXl hro HE HPT HPF
       by_cases hT:b0t ⟨a,n⟩=s
       ·have HX:=Lib.hid (show i0N (b0p s)=.tuple #[.agg X.toArray,.bool true] by rw[w0p s k a n HSL.out HP.out hT,HXp.out])
        rw[decide_eq_true hT] at heq
        clear hT hz HSL HP HXp
        generalize b0t ⟨a,n⟩=tx at *
        generalize bstr tx=TX at *
        go_wp2_with (first
         | (with_reducible refine wpList_load_mid rfl 65 (.tmp 5) rfl g 0 rfl V _ (a0m r4) Tryz.underlying65 rfl hzV.out ?_)
         | (refine b0a rfl 67 0 1 (.tmp 33) (.tmp 34) rfl (.agg V.toArray) (.int .i64 (n:Int)) (.agg X.toArray) rfl rfl (by rw[HXe.out];exact g0i V (n:Int) hVl.out _) ?_)
         | (refine wpList_store_row rfl 67 (.tmp 8) (.tmp 35) rfl wr.heap.size X.toArray rfl rfl 67 _ (heap_alloc_new wr _) hzX2.out h18.out hX1.out ?_;refine Hid.out ?_))
        refine Lib.hid ?_
        generalize hw6:World.setRow _ _ _=w6
        obtain⟨x6,hb6'⟩:=a0p (xs:=X) hw6
        have q6:=q4.later hb6' q4.lt
        have r6:=r4.later hb6' r4.lt
        have hb6:=hb4.trans (hb6'.mono hb4.size)
        clear hw6 hb6' q4 r4
        generalize wr.heap.size=g2 at *
        go_wp2_with (first
         | (with_reducible refine wpList_load_mid rfl 67 (.tmp 8) rfl g2 0 rfl X _ (a0m x6) Tryz.underlying67 rfl hzX.out ?_)
         | (go_at_call 78;refine (htx.out _).mono ?_;rintro e w7 ⟨rfl,hb7⟩;have x7:=x6.later hb7 x6.lt;have q7:=q6.later hb7 q6.lt;have r7:=r6.later hb7 r6.lt;have hb7:=hb6.trans (hb7.mono hb6.size);clear x6 q6 r6;refine Hid.out ?_))
        refine Lib.hid ?_
        have Q2:=Lib.hid (show w7.heap[w.heap.size]?=some (.cells Z.toArray 67 (0,0)) from q7)
        clear q7 r7
        go_wp2_with (first
         | (with_reducible refine wpList_load_mid rfl 67 (.tmp 8) rfl g2 0 rfl X _ (a0m x7) Tryz.underlying67 rfl hzX.out ?_)
         | (with_reducible refine wpList_store_row rfl 67 (.tmp 2) (.tmp 40) rfl w.heap.size X.toArray rfl rfl 67 Z.toArray Q2.out hzX2.out hZX.out hX1.out ?_;refine Hid.out ?_))
        refine Lib.hid ?_
        generalize hw8:World.setRow _ _ _=w8
        obtain⟨r8,hg8⟩:=a0z (show Row w7 w.heap.size 67 Z from Q2.out) hw8
        have hb8:=hb7.grown hg8 hb7.size (fun k h=>by cases h;exact Nat.le_refl _)
        have R8:=Lib.hid (show w8.heap[w.heap.size]?=some (.cells X.toArray 67 (0,0)) from r8)
        clear hw8 r8 hg8 Q2
        go_wp2_with fail
        exact⟨rfl,_,a0g rfl _ _ w.heap.size 67 X.toArray (0,0) _ rfl R8.out Tryz.underlying67 rfl hzX2.out _ rfl,by rw[HX.out];rfl,hb8⟩
       ·have HZ:=Lib.hid (show ∀j:Nat,j < n+1→b0t ⟨a,j⟩≠s from fun j hj=>by
         by_cases e:j=n
         ·rw[e];exact hT
         ·exact hz j (by omega))
        rw[decide_eq_false hT] at heq
        clear hT hz HSL HP HXp
        generalize b0t ⟨a,n⟩=tx at *
        generalize bstr tx=TX at *
        go_wp2_with (first
         | (with_reducible refine wpList_load_mid rfl 65 (.tmp 5) rfl g 0 rfl V _ (a0m r4) Tryz.underlying65 rfl hzV.out ?_)
         | (refine b0a rfl 67 0 1 (.tmp 33) (.tmp 34) rfl (.agg V.toArray) (.int .i64 (n:Int)) (.agg X.toArray) rfl rfl (by rw[HXe.out];exact g0i V (n:Int) hVl.out _) ?_)
         | (refine wpList_store_row rfl 67 (.tmp 8) (.tmp 35) rfl wr.heap.size X.toArray rfl rfl 67 _ (heap_alloc_new wr _) hzX2.out h18.out hX1.out ?_;refine Hid.out ?_))
        refine Lib.hid ?_
        generalize hw6:World.setRow _ _ _=w6
        obtain⟨x6,hb6'⟩:=a0p (xs:=X) hw6
        have q6:=q4.later hb6' q4.lt
        have r6:=r4.later hb6' r4.lt
        have hb6:=hb4.trans (hb6'.mono hb4.size)
        clear hw6 hb6' q4 r4
        generalize wr.heap.size=g2 at *
        go_wp2_with (first
         | (with_reducible refine wpList_load_mid rfl 67 (.tmp 8) rfl g2 0 rfl X _ (a0m x6) Tryz.underlying67 rfl hzX.out ?_)
         | (go_at_call 78;refine (htx.out _).mono ?_;rintro e w7 ⟨rfl,hb7⟩;have x7:=x6.later hb7 x6.lt;have q7:=q6.later hb7 q6.lt;have r7:=r6.later hb7 r6.lt;have hb7:=hb6.trans (hb7.mono hb6.size);clear x6 q6 r6;refine Hid.out ?_))
        refine Lib.hid ?_
        go_wp2
        go_roundw
        case rel=>exact⟨n+1,by omega,by go_num,HZ.out,q7,r7,hb7⟩
        case measure=>simp[intOf];omega
      ·obtain rfl:n=129:=by omega
       have HX:=Lib.hid (show i0N (b0p s)=.tuple #[.agg Z.toArray,.bool false] by rw[w0q s k a HSL.out HP.out hz,HZ0.out])
       have Q2:=Lib.hid (show wr.heap[w.heap.size]?=some (.cells Z.toArray 67 (0,0)) from q4)
       clear hz q4 r4 HPT HPF HSL HE HP
       go_wp2_with (have _t:=Q2;refine wpList_store_row rfl 67 (.tmp 2) (.tmp 41) rfl w.heap.size Z.toArray rfl (by rw[hZe.out];rfl) 67 Z.toArray Q2.out hzZ.out rfl hZ1.out ?_;refine Hid.out ?_)
       refine Lib.hid ?_
       generalize hw8:World.setRow _ _ _=w8
       obtain⟨r8,hg8⟩:=a0z (show Row wr w.heap.size 67 Z from Q2.out) hw8
       have hb8:=hb4.grown hg8 hb4.size (fun k h=>by cases h;exact Nat.le_refl _)
       have R8:=Lib.hid (show w8.heap[w.heap.size]?=some (.cells Z.toArray 67 (0,0)) from r8)
       clear hw8 r8 hg8 Q2
       go_wp2_with fail
       exact⟨rfl,_,a0g rfl _ _ w.heap.size 67 Z.toArray (0,0) _ rfl R8.out Tryz.underlying67 rfl hzZ.out _ rfl,by rw[HX.out];rfl,hb8⟩
   ·have hxe:(((s.getD k 0).toNat:Int) != 47)=true:=by
     rw[bne_iff_ne]
     intro h
     exact hx (UInt8.toNat_inj.1 (by show (s.getD k 0).toNat=47;omega))
    have HZ:=Lib.hid (show ∀j,j < k+1→s.getD j 0≠47 from fun j hj=>by
     by_cases e:j=k
     ·rw[e];exact hx
     ·exact hz j (by omega))
    generalize s.getD k 0=x at *
    clear hz hx HIX HCUT HNO HAT
    go_wp2
    go_roundw
    case rel=>exact⟨k+1,by omega,by go_num,HZ.out,q1,hb1⟩
    case measure=>simp[intOf];omega
  ·obtain rfl:k=s.length:=by omega
   have HX:=Lib.hid (show i0N (b0p s)=.tuple #[.agg Z.toArray,.bool false] by rw[o0k s (HNO.out hz),HZ0.out])
   have Q2:=Lib.hid (show wr.heap[w.heap.size]?=some (.cells Z.toArray 67 (0,0)) from q1)
   clear hz HIX HCUT HNO HAT q1
   go_wp2_with (have _t:=Q2;refine wpList_store_row rfl 67 (.tmp 2) (.tmp 42) rfl w.heap.size Z.toArray rfl (by rw[hZe.out];rfl) 67 Z.toArray Q2.out hzZ.out rfl hZ1.out ?_;refine Hid.out ?_)
   refine Lib.hid ?_
   generalize hw8:World.setRow _ _ _=w8
   obtain⟨r8,hg8⟩:=a0z (show Row wr w.heap.size 67 Z from Q2.out) hw8
   have hb8:=hb1.grown hg8 hb1.size (fun k h=>by cases h;omega)
   have R8:=Lib.hid (show w8.heap[w.heap.size]?=some (.cells Z.toArray 67 (0,0)) from r8)
   clear hw8 r8 hg8 Q2
   go_wp2_with fail
   exact⟨rfl,_,a0g rfl _ _ w.heap.size 67 Z.toArray (0,0) _ rfl R8.out Tryz.underlying67 rfl hzZ.out _ rfl,by rw[HX.out];rfl,hb8⟩
theorem y0x (x:UInt8) (l:List (List UInt8)) (h:l≠[]):sumS l=(b0c x l).length+1:=by
 induction l with
 | nil=>exact absurd rfl h
 | cons p l ih =>
  cases l with
  | nil=>show (p.length+1+0)=p.length+1;rfl
  | cons q l =>
   have:=ih (by simp)
   show p.length+1+sumS (q :: l)=(p++x :: b0c x (q :: l)).length+1
   rw[this,List.length_append,List.length_cons];omega
theorem j0Z (s:List UInt8) (h:s.length≤3999):sumS ((c0g s).getD [])≤4000:=by
 unfold c0g
 split
 ·show sumS (a0h 44 s)≤4000
  have h1:=y0x 44 (a0h 44 s) (f0b 44 s)
  rw[c0t 44 s] at h1
  omega
 ·decide
theorem u0x (b:List UInt8):(g0j b).length=6:=rfl
def i0L (A:Option Addr) (c j:Nat):Option Addr×Nat:=if j=2 then (A,c) else (none,0)
def d0h (b:List UInt8) (j:Nat):Prd:=(g0j b).getD j f0Y
theorem i0X (b:List UInt8) (j:Nat) (h:j < 6):d0h b j∈g0j b:=by
 unfold d0h
 rw[List.getD_eq_getElem?_getD,List.getElem?_eq_getElem (by rw[u0x];exact h)]
 exact List.getElem_mem _
theorem a1F (b:List UInt8) (hb:b.length≤600) (A:Option Addr) (c:Nat) (w:World) (hs:Sl w A c (a0I ((c0g b).getD []))) (j:Nat) (h:j < 6) :
  f0I w (d0h b j) (i0L A c j).1 (i0L A c j).2:=by
 have ho:=g0B b _ (i0X b j h)
 have hn:=j0Z b (by omega)
 have:j=0∨j=1∨j=2∨j=3∨j=4∨j=5:=by omega
 rcases this with rfl | rfl | rfl | rfl | rfl | rfl
 ·exact⟨ho,c0i w,by show (-9223372036854775808:Int)≤1;decide,by show (1:Int)≤9223372036854775807;decide,by show (0:Nat)≤4000;omega,by show (0:Nat)≤4000;omega⟩
 ·exact⟨ho,c0i w,by show (-9223372036854775808:Int)≤2;decide,by show (2:Int)≤9223372036854775807;decide,by show (0:Nat)≤4000;omega,by show (0:Nat)≤4000;omega⟩
 ·exact⟨ho,hs,by show (-9223372036854775808:Int)≤3;decide,by show (3:Int)≤9223372036854775807;decide,by show (0:Nat)≤4000;omega,hn⟩
 ·exact⟨ho,c0i w,by show (-9223372036854775808:Int)≤4;decide,by show (4:Int)≤9223372036854775807;decide,by show b.length≤4000;omega,by show (0:Nat)≤4000;omega⟩
 ·exact⟨ho,c0i w,by show (-9223372036854775808:Int)≤5;decide,by show (5:Int)≤9223372036854775807;decide,by show (0:Nat)≤4000;omega,by show (0:Nat)≤4000;omega⟩
 ·exact⟨ho,c0i w,by show (-9223372036854775808:Int)≤6;decide,by show (6:Int)≤9223372036854775807;decide,by show (0:Nat)≤4000;omega,by show (0:Nat)≤4000;omega⟩
theorem u0y (b:List UInt8):d0h b 0=⟨1,(a0F b).getD 0,[],[],a0P,0⟩∧d0h b 1=⟨2,(a0F b).getD 0,[],[],a0P,0⟩∧d0h b 2=⟨3,0,(c0g b).getD [],[],a0P,0⟩ ∧
  d0h b 3=⟨4,0,[],b,a0P,0⟩∧d0h b 4=⟨5,0,[],[],(b0p b).getD a0P,0⟩∧d0h b 5=⟨6,0,[],[],a0P,(b0o b).getD 0⟩:=⟨rfl,rfl,rfl,rfl,rfl,rfl⟩
theorem o0h (o:Option Rng):i0N o=.tuple #[.agg (rngV (o.getD a0P)).toArray,.bool o.isSome]:=by cases o<;>rfl
theorem u0Q {α:Type} (f:α→Bool) (z:α):∀(l:List α) (j:Nat),j < l.length→(∀i < j,f (l.getD i z)=false)→f (l.getD j z)=true→l.find? f=some (l.getD j z)
 | [],j,h,_,_=>absurd h (by simp)
 | a :: l,0,_,_,h=>by
  have h:f a=true:=h
  rw[List.find?_cons_of_pos h];rfl
 | a :: l,j+1,h,hn,ht=>by
  have h0:f a=false:=hn 0 (by omega)
  rw[List.find?_cons_of_neg (by rw[h0];decide)]
  exact u0Q f z l j (by simpa using h) (fun i hi=>hn (i+1) (by omega)) ht
theorem a1R {α:Type} (f:α→Bool) (z:α) (l:List α) (h:∀i < l.length,f (l.getD i z)=false):l.find? f=none:=by
 rw[List.find?_eq_none]
 intro a ha
 obtain⟨i,hi,rfl⟩:=List.mem_iff_getElem.1 ha
 have:=h i hi
 rw[List.getD_eq_getElem?_getD,List.getElem?_eq_getElem hi] at this
 have this:f l[i]=false:=this
 rw[this];decide
theorem w0r (s:List UInt8) (k j:Nat) (hl:s.length≤512) (hb:f0Z s=some k) (hj:j < 6) (hn:∀i < j,c0p (d0h (s.drop (k+1)) i)≠s) (ht:c0p (d0h (s.drop (k+1)) j)=s):c0x s=some (d0h (s.drop (k+1)) j):=by
 unfold c0x
 rw[if_neg (by omega),hb]
 exact u0Q _ f0Y _ j hj (fun i hi=>decide_eq_false (hn i hi)) (decide_eq_true ht)
theorem s0T (s:List UInt8) (k:Nat) (hl:s.length≤512) (hb:f0Z s=some k) (hn:∀i < 6,c0p (d0h (s.drop (k+1)) i)≠s):c0x s=none:=by
 unfold c0x
 rw[if_neg (by omega),hb]
 exact a1R _ f0Y _ fun i hi=>decide_eq_false (hn i hi)
theorem s0S (s:List UInt8) (hl:512 < s.length):c0x s=none:=by unfold c0x;rw[if_pos hl]
theorem p0K (s:List UInt8) (hl:s.length≤512) (hb:f0Z s=none):c0x s=none:=by unfold c0x;rw[if_neg (by omega),hb]
def f0m (o:Option Prd) (w:World) (e:Ending) (w':World):Prop :=
 ∃(A:Option Addr) (c:Nat),e=.returned (.tuple #[.agg (prdV (o.getD f0Y) A c).toArray,.bool o.isSome])∧f0I w' (o.getD f0Y) A c∧Below w.heap.size w w'
theorem i0t (w:World):f0I w f0Y none 0:=⟨j0r,c0i w,by decide,by decide,by decide,by decide⟩
theorem f0I.apart {w w':World} {p:Prd} {A:Option Addr} {c g:Nat} (h:f0I w p A c) (hg:w.grownBy w' (some g)) (hne:∀a,A=some a→a.block≠g):f0I w' p A c :=
 ⟨h.ok,h.names.apart hg (fun _=>hne),h.lo,h.hi,h.path,h.sum⟩
theorem p0a (A:Option Addr) (c j g:Nat) (h:∀a,A=some a→a.block≠g):∀a,(i0L A c j).1=some a→a.block≠g:=by
 intro a ha
 unfold i0L at ha
 split at ha
 ·exact h a ha
 ·cases ha
def i0U (o:Option (List (List UInt8))) (w:World) (e:Ending) (w':World):Prop :=
 ∃(A:Option Addr) (c:Nat),e=.returned (.tuple #[.slice A (o.getD []).length c,.bool o.isSome])∧Sl w' A c (a0I (o.getD []))∧(∀g,g < w.heap.size→∀a,A=some a→a.block≠g)∧Below w.heap.size w w'
set_option maxHeartbeats 2000000 in
theorem o0w (s:List UInt8) (hs:s.length≤4000) (w:World):Calls Tryz.prog 52 #[.string (bstr s)] w (i0U (c0g s) w):=by
 have hz:=a0f s
 have hsp:=Lib.hid (o0C s 44 hs w)
 have hlen:=c0T 44 s
 have hri:=Lib.hid (fun A c w'=>o0B (a0h 44 s) (by omega) (fun p hp=>by have:=d0w 44 s p hp;omega) A c w')
 have HV:=Lib.hid (show c0g s=if c0J (a0h 44 s)=true then some (a0h 44 s) else none from rfl)
 generalize c0g s=V at *
 generalize a0h 44 s=ps at *
 cases hr:c0J ps with
 | true =>
  have HW:=Lib.hid (HV.out.trans (if_pos hr))
  rw[hr] at hri
  clear HV hr
  go_enter Tryz.func52,Tryz.ntmps52
  go_wp2_with (first
   | (go_at_call 75;refine hsp.out.mono ?_;rintro e w1 ⟨v,rfl,hown,hb1⟩;obtain⟨A,c,rfl,hpl,hsl⟩:=Sl.of_own hown;have hap:=Lib.hid (fun g (hg:g < w.heap.size) a (ha:A=some a)=>k0d hown hg a ha);clear hpl)
   | (go_at_call 76;refine (hri.out A c w1 hsl).mono ?_;rintro e w' ⟨rfl,rfl⟩))
  go_ret2
  exact⟨A,c,by rw[HW.out];rfl,by rw[HW.out];exact hsl,hap.out,hb1⟩
 | false =>
  have HW:=Lib.hid (HV.out.trans (if_neg (by rw[hr];decide)))
  rw[hr] at hri
  clear HV hr
  go_enter Tryz.func52,Tryz.ntmps52
  go_wp2_with (first
   | (go_at_call 75;refine hsp.out.mono ?_;rintro e w1 ⟨v,rfl,hown,hb1⟩;obtain⟨A,c,rfl,hpl,hsl⟩:=Sl.of_own hown;clear hpl)
   | (go_at_call 76;refine (hri.out A c w1 hsl).mono ?_;rintro e w' ⟨rfl,rfl⟩))
  go_ret2
  exact⟨none,0,by rw[HW.out];rfl,by rw[HW.out];exact c0i _,fun g _ a ha=>(by cases ha),hb1⟩
theorem d0N (p:Prd) (A:Option Addr) (c:Nat):(prdV p A c).toArray.all (·.oneCell')=true:=by
 have h:=d0d p.net
 rw[List.all_toArray] at h ⊢
 unfold prdV
 rw[List.all_append,List.all_append,h];rfl
theorem j0l:prdV f0Y none 0=[Value.int .i64 0,.int .u64 0,.slice none 0 0,.string { data:=#[] },.bool false,.int .u8 0,.int .u8 0,.int .u8 0,.int .u8 0,.int .u8 0,.int .u8 0,.int .u8 0,.int .u8 0,.int .u8 0,.int .u8 0,.int .u8 0,.int .u8 0,.int .u8 0,.int .u8 0,.int .u8 0,.int .u8 0,.int .i64 0,.float .f64 0]:=rfl
theorem v0s (A:Option Addr) (b o n c k:Nat) (hA:A=some ⟨b,o,none⟩) (hk:k < n) (w:World) :
  (Instr.indexAt 99 (.slice A n c) (.int .i64 k)).run Tryz.prog w=.ok (.pointer (some ⟨b,o+k*23,none⟩)) w:=by
 subst hA
 have h:(k:Int) < (n:Int):=by omega
 go_simp
theorem m0O {P:Program} {w w':World} {ops:Array Oper} {rest:List Oper} {o:Oper} {a:Act} {Q:Exit→Act→World→Prop} (hgd:o.guard=none) (ty:TypeId) (n:Nat) (parts:List (Nat×Operand)) (ho:o.op=.buildSlice ty n parts.toArray) (vals:List (Nat×Value)) (hx:parts.map (fun p=>(p.1,a.eval p.2))=vals) (v:Value)
  (hv:(Instr.buildSlice ty n vals.toArray).run P w=.ok v w') (h:wpList P ops Q rest (a.put o.dst v) w'):wpList P ops Q (o :: rest) a w:=by
 refine wpList_plain hgd fun _ hK=>?_
 subst hx
 unfold Oper.wp execOp
 simp only[ho,Sem.run_bind,Sem.run_pure,Result.andThen_ok,List.map_toArray,hv]
 exact hK _ _ h
theorem u0t (n:Nat) (k:Int) (w:World):(Instr.build 70 #[(0,.int .i64 k),(1,.int .u64 n)]).run Tryz.prog w=.ok (.agg (prdV ⟨k,n,[],[],a0P,0⟩ none 0).toArray) w:=by
 go_simp
 rfl
theorem a1A (A:Option Addr) (l:List (List UInt8)) (c:Nat) (w:World):(Instr.build 70 #[(0,.int .i64 3),(2,.slice A l.length c)]).run Tryz.prog w=.ok (.agg (prdV ⟨3,0,l,[],a0P,0⟩ A c).toArray) w:=by
 go_simp
 rfl
theorem a1B (b:List UInt8) (w:World):(Instr.build 70 #[(0,.int .i64 4),(3,.string (bstr b))]).run Tryz.prog w=.ok (.agg (prdV ⟨4,0,[],b,a0P,0⟩ none 0).toArray) w:=by
 go_simp
 rfl
theorem a1D (c:Nat) (w:World):(Instr.build 70 #[(0,.int .i64 6),(5,.float .f64 c)]).run Tryz.prog w=.ok (.agg (prdV ⟨6,0,[],[],a0P,c⟩ none 0).toArray) w:=by
 go_simp
 rfl
theorem y0v (V:List Value) (off:Nat):∀(k:Nat) (Z:Array Value),(V.zipIdx k).foldl (fun cs x=>cs.setIfInBounds (off+x.2) x.1) Z=(V.zipIdx (off+k)).foldl (fun cs x=>cs.setIfInBounds x.2 x.1) Z:=by
 induction V with
 | nil=>intro k Z;rfl
 | cons v V ih =>
  intro k Z
  rw[List.zipIdx_cons,List.zipIdx_cons,List.foldl_cons,List.foldl_cons]
  exact ih (k+1) _
set_option maxHeartbeats 2000000 in
theorem a1C (V:List Value) (h:V.length=18) (w:World):(Instr.build 70 #[(0,.int .i64 5),(4,.agg V.toArray)]).run Tryz.prog w=.ok (.agg ([Value.int .i64 5,.int .u64 0,.slice none 0 0,.string { data:=#[] }]++(V++[Value.float .f64 0])).toArray) w:=by
 have hz:=k0w V 4 [Value.int .i64 5,.int .u64 0,.slice none 0 0,.string { data:=#[] },.bool false,.int .u8 0,.int .u8 0,.int .u8 0,.int .u8 0,.int .u8 0,.int .u8 0,.int .u8 0,.int .u8 0,.int .u8 0,.int .u8 0,.int .u8 0,.int .u8 0,.int .u8 0,.int .u8 0,.int .u8 0,.int .u8 0,.int .i64 0,.float .f64 0] (by rw[h];decide)
 rw[h] at hz
 have e:([Value.int .i64 5,.int .u64 0,.slice none 0 0,.string { data:=#[] },.bool false,.int .u8 0,.int .u8 0,.int .u8 0,.int .u8 0,.int .u8 0,.int .u8 0,.int .u8 0,.int .u8 0,.int .u8 0,.int .u8 0,.int .u8 0,.int .u8 0,.int .u8 0,.int .u8 0,.int .u8 0,.int .u8 0,.int .i64 0,.float .f64 0].take 4++V++[Value.int .i64 5,.int .u64 0,.slice none 0 0,.string { data:=#[] },.bool false,.int .u8 0,.int .u8 0,.int .u8 0,.int .u8 0,.int .u8 0,.int .u8 0,.int .u8 0,.int .u8 0,.int .u8 0,.int .u8 0,.int .u8 0,.int .u8 0,.int .u8 0,.int .u8 0,.int .u8 0,.int .u8 0,.int .i64 0,.float .f64 0].drop (4+18))=[Value.int .i64 5,.int .u64 0,.slice none 0 0,.string { data:=#[] }]++(V++[Value.float .f64 0]):=by
  show ([Value.int .i64 5,.int .u64 0,.slice none 0 0,.string { data:=#[] }]++V)++[Value.float .f64 0]=_
  rw[List.append_assoc]
 rw[e,show (4:Nat)=4+0 from rfl,←y0v] at hz
 clear e
 go_simp
theorem c1U (P:Nat→Prop) (h0:P 0) (h1:P 1) (h2:P 2) (h3:P 3) (h4:P 4) (h5:P 5):∀j,j < 6→P j:=by
 intro j h
 have:j=0∨j=1∨j=2∨j=3∨j=4∨j=5:=by omega
 rcases this with rfl | rfl | rfl | rfl | rfl | rfl<;>assumption
theorem x0d (X:Nat→List Value) (h:∀j,j < 6→(X j).length=23):∃R:List Value,R.length=138∧(∀w,(Instr.buildSlice 99 6 #[(0,.agg (X 0).toArray),(1,.agg (X 1).toArray),(2,.agg (X 2).toArray),(3,.agg (X 3).toArray),(4,.agg (X 4).toArray),(5,.agg (X 5).toArray)]).run Tryz.prog w=.ok (.slice (some ⟨w.heap.size,0,none⟩) 6 6) (w.alloc (.cells R.toArray 70))) ∧
  ∀j,j < 6→∀i v,(X j)[i]?=some v→R[j*23+i]?=some v:=by
 obtain⟨ie,hie,hsz⟩:∃ie,Tryz.prog.info? 70=some ie∧ie.size=23:=by
  have:=c0F
  cases hi:Tryz.prog.info? 70 with
  | none=>rw[hi] at this;cases this
  | some ie=>rw[hi] at this;exact⟨ie,rfl,Option.some.inj this⟩
 obtain⟨z,hz⟩:∃z,ie.zero=some z:=by
  have:(Tryz.prog.info? 70).map (·.zero.isSome)=some true:=by kernel_rfl
  rw[hie] at this
  exact Option.isSome_iff_exists.1 (Option.some.inj this)
 obtain⟨r,h1,h2,h3⟩:=Great.fill_dense (s:=23) (by omega) [.agg (X 0).toArray,.agg (X 1).toArray,.agg (X 2).toArray,.agg (X 3).toArray,.agg (X 4).toArray,.agg (X 5).toArray] 0 ((Array.range (6*ie.size)).map (z.cells[· % z.cells.size]!))
  (by
   intro v hv
   simp only[List.mem_cons,List.not_mem_nil,or_false] at hv
   rcases hv with rfl | rfl | rfl | rfl | rfl | rfl<;>show (List.toArray _).size=23<;>rw[List.size_toArray]<;>exact h _ (by omega))
  (by rw[Array.size_map,Array.size_range,hsz];exact Nat.le_refl _)
 rw[Array.size_map,Array.size_range,hsz] at h2
 refine⟨r.toList,by rw[Array.length_toList,h2],fun w=>?_,?_⟩
 ·rw[run_buildSlice w _ 70 6 _ r ie z Tryz.underlying99 hie hz (by rw[hsz];decide) (by rw[hsz];decide) (by rw[hsz];exact hsz ▸ h1)]
 ·intro j hj i v hv
  have hi:i < 23:=by have:=(List.getElem?_eq_some_iff.1 hv).1;rw[h j hj] at this;exact this
  rw[Array.getElem?_toList,h3 (j*23+i),if_pos (by simp only[List.length_cons,List.length_nil];omega),show (j*23+i)/23 - 0=j by omega,show (j*23+i)%23=i by omega]
  have key:([.agg (X 0).toArray,.agg (X 1).toArray,.agg (X 2).toArray,.agg (X 3).toArray,.agg (X 4).toArray,.agg (X 5).toArray]:List Value)[j]?=some (.agg (X j).toArray) :=
   c1U (fun j=>([.agg (X 0).toArray,.agg (X 1).toArray,.agg (X 2).toArray,.agg (X 3).toArray,.agg (X 4).toArray,.agg (X 5).toArray]:List Value)[j]?=some (.agg (X j).toArray)) rfl rfl rfl rfl rfl rfl j hj
  rw[key]
  show (X j).toArray[i]?=some v
  rw[List.getElem?_toArray];exact hv
@[go_sem] theorem w0R {P:Program} {w:World} {a:Addr} (k:FloatKind) (b:Nat) (m:Mode):(store a (.float k b) m).run P w=stored P w a (.float k b) m:=run_store P w a _ m rfl
theorem q0u (s:List UInt8) (hs:s.length≤100000) (w:World) (hE:EnvX w):∃ps:List (List UInt8),c0g s=(if c0J ps=true then some ps else none)∧(∀p∈ps,p.length≤s.length)∧ps.length≤33 ∧
  Calls Tryz.prog 101 #[.string (bstr s),.string ⟨#[44]⟩,.int .i64 33] w fun e w'=>∃A c,e=.returned (.slice A ps.length c)∧Sl w' A c (a0I ps)∧(∀g,g < w.heap.size→∀a,A=some a→a.block≠g)∧Below w.heap.size w w':=by
 obtain⟨m,hm⟩:=hE
 have h:=Tryz.strings_SplitN (bstr s) (bstr [44]) 33 m w (by rw[a0f];omega) hm (Nat.le_refl 1) (by omega) (by omega)
 rw[a0f] at h
 obtain⟨ps,e1,e2,e3,e4⟩:=o0O s
 rw[e1,List.length_map] at h
 refine⟨ps,e2,e3,by omega,h.mono ?_⟩
 rintro e w' ⟨rfl,rfl⟩
 have e5:Lib.cellsOf (ps.map bstr) (min 33 (s.length+1))=(a0I ps++List.replicate (min 33 (s.length+1) - ps.length) (Value.string ByteArray.empty)).toArray:=by
  unfold Lib.cellsOf a0I
  rw[List.map_map,List.length_map];rfl
 rw[e5]
 exact⟨_,_,rfl,(c0O (t:=9) _ rfl (min 33 (s.length+1)) (by rw[List.length_append,a0B,List.length_replicate];omega)).pre,(fun g hg a ha=>by cases ha;exact Nat.ne_of_gt hg),(Below.refl _ w).alloc (Nat.le_refl _) _⟩
set_option maxHeartbeats 2000000 in
theorem t0S (s:List UInt8) (hs:s.length≤2100) (w:World) (hE:EnvX w):Calls Tryz.prog 70 #[.string (bstr s)] w (i0U (c0g s) w):=by
 have hz:=a0f s
 obtain⟨ps,hv,hp,hlen,hsp⟩:=q0u s (by omega) w hE
 have hsp:=Lib.hid hsp
 have hri:=Lib.hid (fun A c w'=>z0V ps (fun p hq=>by have:=hp p hq;omega) (by omega) A c w')
 have HV:=Lib.hid hv
 generalize c0g s=V at *
 clear hE hs hlen hv hp
 cases hr:c0J ps with
 | true =>
  have HW:=Lib.hid (HV.out.trans (if_pos hr))
  rw[hr] at hri
  clear HV hr
  go_enter Tryz.func70,Tryz.ntmps70
  go_wp2_with (first
   | (go_at_call 101;refine hsp.out.mono ?_;rintro e w1 ⟨A,c,rfl,hsl,hap,hb1⟩;have hap:=Lib.hid hap)
   | (go_at_call 102;refine (hri.out A c w1 hsl).mono ?_;rintro e w' ⟨rfl,hq⟩;have hsl:=hsl.later (Nat.le_refl _) hq;have hb2:=hb1.trans (hq.mono hb1.size)))
  go_ret2
  exact⟨A,c,by rw[HW.out];rfl,by rw[HW.out];exact hsl,hap.out,hb2⟩
 | false =>
  have HW:=Lib.hid (HV.out.trans (if_neg (by rw[hr];decide)))
  rw[hr] at hri
  clear HV hr
  go_enter Tryz.func70,Tryz.ntmps70
  go_wp2_with (first
   | (go_at_call 101;refine hsp.out.mono ?_;rintro e w1 ⟨A,c,rfl,hsl,hap,hb1⟩;have hap:=Lib.hid hap)
   | (go_at_call 102;refine (hri.out A c w1 hsl).mono ?_;rintro e w' ⟨rfl,hq⟩;have hb2:=hb1.trans (hq.mono hb1.size)))
  go_ret2
  exact⟨none,0,by rw[HW.out];rfl,by rw[HW.out];exact c0i _,fun g _ a ha=>(by cases ha),hb2⟩
theorem h0C {α:Type} (o:Option α) (z:α) (f:α→Prd) (x:Prd) (h:o.map f=some x):f (o.getD z)=x:=by
 cases o with
 | none=>cases h
 | some a=>exact Option.some.inj h
theorem d0Z (q:Prd) (ho:q.Ok) (hn:q.names=[]) (h0:0≤q.kind) (h7:q.kind≤7) (hp:q.path.length≤4000) (w:World):f0I w q none 0 :=
 ⟨ho,by rw[hn];exact c0i w,by omega,by omega,hp,by rw[hn];show (0:Nat)≤4000;omega⟩
def i0T (o:Option Prd) (w:World) (e:Ending) (w':World):Prop :=
 ∃(q:Prd) (A:Option Addr) (c:Nat),e=.returned (.tuple #[.agg (prdV q A c).toArray,.bool o.isSome])∧f0I w' q A c∧(∀g,g < w.heap.size→∀a,A=some a→a.block≠g)∧(∀x,o=some x→q=x)∧Below w.heap.size w w'
set_option maxHeartbeats 4000000 in
theorem m0w (a b:List UInt8) (hb:b.length≤1000) (hpr:a=[112,97,116,104]→∀w',Calls Tryz.prog 71 #[.string (bstr b)] w' fun e w''=>e=.returned (.bool (b0N b))∧Below w'.heap.size w' w'')
  (hne:a=[110,101,116]→∀w',Env w'→Calls Tryz.prog 72 #[.string (bstr b)] w' fun e w''=>e=.returned (i0N (b0p b))∧Below w'.heap.size w' w'')
  (hco:a=[99,111,115,116]→∀w',EnvD w'→Calls Tryz.prog 73 #[.string (bstr b)] w' fun e w''=>e=.returned (.tuple #[.float .f64 ((b0o b).getD 0),.bool (b0o b).isSome])∧Below w'.heap.size w' w'')
  (w:World) (hE:EnvQ w):Calls Tryz.prog 50 #[.string (bstr a),.string (bstr b)] w (i0T (f0a a b) w):=by
 replace hpr:=Lib.hid hpr
 replace hne:=Lib.hid hne
 replace hco:=Lib.hid hco
 obtain⟨Z,hZ⟩:∃Z,Z=prdV f0Y none 0:=⟨_,rfl⟩
 have hZe:=hZ.trans j0l
 obtain⟨w1,hw1⟩:∃w1,w1=w.alloc (.cells Z.toArray 70):=⟨_,rfl⟩
 have r1:Row w1 w.heap.size 70 Z:=by rw[hw1];exact Row.new w _ _
 have hb1:Below w.heap.size w w1:=by rw[hw1];exact (Below.refl _ w).alloc (Nat.le_refl _) _
 have HW:=Lib.hid (hw1.trans (show w.alloc (.cells Z.toArray 70)=w.alloc (.cells [Value.int .i64 0,.int .u64 0,.slice none 0 0,.string { data:=#[] },.bool false,.int .u8 0,.int .u8 0,.int .u8 0,.int .u8 0,.int .u8 0,.int .u8 0,.int .u8 0,.int .u8 0,.int .u8 0,.int .u8 0,.int .u8 0,.int .u8 0,.int .u8 0,.int .u8 0,.int .u8 0,.int .u8 0,.int .i64 0,.float .f64 0].toArray 70) by rw[hZe]))
 have tok1:True:=trivial
 obtain⟨o,HO⟩:∃o,o=f0a a b:=⟨_,rfl⟩
 rw[←HO]
 replace HO:=Lib.hid HO
 replace hZ:=Lib.hid hZ
 replace hZe:=Lib.hid hZe
 have c0:w1.cell? ⟨w.heap.size,0,none⟩=some (.int .i64 0):=by rw[r1.cell,hZe.out];rfl
 have f0:=r1.free 0
 clear hw1
 go_enter Tryz.func50,Tryz.ntmps50
 go_upto_block 0 with (have _t:=tok1;rw[←HW.out];clear tok1)
 clear HW
 go_cut [5] (fun y wx=>∃q A c,y=.bool o.isSome∧Row wx w.heap.size 70 (prdV q A c)∧f0I wx q A c∧(∀g,g≤w.heap.size→∀a,A=some a→a.block≠g)∧(∀x,o=some x→q=x)∧Below w.heap.size w wx)
 case first =>
  replace HO:=HO.out
  by_cases e1:a=[98,101,102,111,114,101]
  ·subst e1
   have HV:f0a [98,101,102,111,114,101] b=((a0F b).map fun n=>⟨1,n,[],[],a0P,0⟩):=rfl
   rw[HV] at HO
   have b1:=(a0N [98,101,102,111,114,101] [98,101,102,111,114,101]).trans (decide_eq_true rfl)
   have ho:(⟨1,(a0F b).getD 0,[],[],a0P,0⟩:Prd).Ok:=⟨b0P,f0z b,by show (0:Nat) < 2^64;decide⟩
   have HP:=Lib.hid (show (a0F b).isSome=o.isSome∧∀x,o=some x→(⟨1,(a0F b).getD 0,[],[],a0P,0⟩:Prd)=x from ⟨by rw[HO,Option.isSome_map],fun x hx=>h0C (a0F b) 0 (fun n=>⟨1,n,[],[],a0P,0⟩) x (by rw[←HO];exact hx)⟩)
   have hcon:=fun w' h=>k0M b (by omega) w' h
   rw[show o0c (a0F b)=.tuple #[.int .u64 (((a0F b).getD 0:Nat):Int),.bool (a0F b).isSome] from rfl] at hcon
   have hcon:=Lib.hid hcon
   clear HV HO
   generalize (a0F b).getD 0=n at *
   generalize (a0F b).isSome=ok at *
   generalize bstr [98,101,102,111,114,101]=S at *
   go_wp2_with (first
    | (go_at_call 69;refine (hcon.out _ (hE.next (hb1.setCell (p:=⟨w.heap.size,0,none⟩) (Nat.le_refl _) (.int .i64 1))).n).mono ?_;rintro e w3 ⟨rfl,hq3⟩;have r3:=(r1.set 0 (.int .i64 1)).later hq3 (r1.set 0 (.int .i64 1)).lt;have hb3:=(hb1.setCell (p:=⟨w.heap.size,0,none⟩) (Nat.le_refl _) (.int .i64 1)).trans (hq3.mono (hb1.setCell (p:=⟨w.heap.size,0,none⟩) (Nat.le_refl _) (.int .i64 1)).size);have c1:w3.cell? ⟨w.heap.size,1,none⟩=some (.int .u64 0):=(by rw[r3.cell,hZe.out];rfl);have f1:=r3.free 1;clear hq3))
   go_meet
   case rel=>exact⟨(⟨1,n,[],[],a0P,0⟩:Prd),none,0,by rw[←HP.out.1],(show prdV (⟨1,n,[],[],a0P,0⟩:Prd) none 0=(Z.set 0 (.int .i64 1)).set 1 (.int .u64 (n:Int)) by rw[hZ.out];rfl) ▸ r3.set 1 _,d0Z _ ho rfl (by show (0:Int)≤1;decide) (by show (1:Int)≤7;decide) (by show (0:Nat)≤4000;omega) _,fun g _ a ha=>(by cases ha),HP.out.2,hb3.setCell (p:=⟨w.heap.size,1,none⟩) (Nat.le_refl _) _⟩
  by_cases e2:a=[115,105,110,99,101]
  ·subst e2
   have HV:f0a [115,105,110,99,101] b=((a0F b).map fun n=>⟨2,n,[],[],a0P,0⟩):=rfl
   rw[HV] at HO
   have b1:=(a0N [115,105,110,99,101] [98,101,102,111,114,101]).trans (decide_eq_false (by decide))
   have b2:=(a0N [115,105,110,99,101] [115,105,110,99,101]).trans (decide_eq_true rfl)
   have ho:(⟨2,(a0F b).getD 0,[],[],a0P,0⟩:Prd).Ok:=⟨b0P,f0z b,by show (0:Nat) < 2^64;decide⟩
   have HP:=Lib.hid (show (a0F b).isSome=o.isSome∧∀x,o=some x→(⟨2,(a0F b).getD 0,[],[],a0P,0⟩:Prd)=x from ⟨by rw[HO,Option.isSome_map],fun x hx=>h0C (a0F b) 0 (fun n=>⟨2,n,[],[],a0P,0⟩) x (by rw[←HO];exact hx)⟩)
   have hcon:=fun w' h=>k0M b (by omega) w' h
   rw[show o0c (a0F b)=.tuple #[.int .u64 (((a0F b).getD 0:Nat):Int),.bool (a0F b).isSome] from rfl] at hcon
   have hcon:=Lib.hid hcon
   clear HV HO
   generalize (a0F b).getD 0=n at *
   generalize (a0F b).isSome=ok at *
   generalize bstr [115,105,110,99,101]=S at *
   go_wp2_with (first
    | (go_at_call 69;refine (hcon.out _ (hE.next (hb1.setCell (p:=⟨w.heap.size,0,none⟩) (Nat.le_refl _) (.int .i64 2))).n).mono ?_;rintro e w3 ⟨rfl,hq3⟩;have r3:=(r1.set 0 (.int .i64 2)).later hq3 (r1.set 0 (.int .i64 2)).lt;have hb3:=(hb1.setCell (p:=⟨w.heap.size,0,none⟩) (Nat.le_refl _) (.int .i64 2)).trans (hq3.mono (hb1.setCell (p:=⟨w.heap.size,0,none⟩) (Nat.le_refl _) (.int .i64 2)).size);have c1:w3.cell? ⟨w.heap.size,1,none⟩=some (.int .u64 0):=(by rw[r3.cell,hZe.out];rfl);have f1:=r3.free 1;clear hq3))
   go_meet
   case rel=>exact⟨(⟨2,n,[],[],a0P,0⟩:Prd),none,0,by rw[←HP.out.1],(show prdV (⟨2,n,[],[],a0P,0⟩:Prd) none 0=(Z.set 0 (.int .i64 2)).set 1 (.int .u64 (n:Int)) by rw[hZ.out];rfl) ▸ r3.set 1 _,d0Z _ ho rfl (by show (0:Int)≤2;decide) (by show (2:Int)≤7;decide) (by show (0:Nat)≤4000;omega) _,fun g _ a ha=>(by cases ha),HP.out.2,hb3.setCell (p:=⟨w.heap.size,1,none⟩) (Nat.le_refl _) _⟩
  by_cases e3:a=[111,112]
  ·subst e3
   have HV:f0a [111,112] b=((c0g b).map fun l=>⟨3,0,l,[],a0P,0⟩):=rfl
   rw[HV] at HO
   have b1:=(a0N [111,112] [98,101,102,111,114,101]).trans (decide_eq_false (by decide))
   have b2:=(a0N [111,112] [115,105,110,99,101]).trans (decide_eq_false (by decide))
   have b3:=(a0N [111,112] [111,112]).trans (decide_eq_true rfl)
   have hsum:=j0Z b (by omega)
   have ho:(⟨3,0,(c0g b).getD [],[],a0P,0⟩:Prd).Ok:=⟨b0P,by show (0:Nat) < 2^64;decide,by show (0:Nat) < 2^64;decide⟩
   have HP:=Lib.hid (show (c0g b).isSome=o.isSome∧∀x,o=some x→(⟨3,0,(c0g b).getD [],[],a0P,0⟩:Prd)=x from ⟨by rw[HO,Option.isSome_map],fun x hx=>h0C (c0g b) [] (fun l=>⟨3,0,l,[],a0P,0⟩) x (by rw[←HO];exact hx)⟩)
   have hcon:=fun w' h=>t0S b (by omega) w' h
   unfold i0U at hcon
   have hcon:=Lib.hid hcon
   clear HV HO
   generalize (c0g b).getD []=l at *
   generalize (c0g b).isSome=ok at *
   generalize bstr [111,112]=S at *
   go_wp2_with (first
    | (go_at_call 70;refine (hcon.out _ (hE.next (hb1.setCell (p:=⟨w.heap.size,0,none⟩) (Nat.le_refl _) (.int .i64 3))).x).mono ?_;rintro e w3 ⟨A,c,rfl,sl3,hap,hq3⟩;have r3:=(r1.set 0 (.int .i64 3)).later hq3 (r1.set 0 (.int .i64 3)).lt;have hb3:=(hb1.setCell (p:=⟨w.heap.size,0,none⟩) (Nat.le_refl _) (.int .i64 3)).trans (hq3.mono (hb1.setCell (p:=⟨w.heap.size,0,none⟩) (Nat.le_refl _) (.int .i64 3)).size);have HAP:=Lib.hid (fun g (hg:g≤w.heap.size)=>hap g (Nat.lt_of_le_of_lt hg (r1.set 0 (.int .i64 3)).lt));have SL3:=Lib.hid sl3;clear sl3 hap;have c1:w3.cell? ⟨w.heap.size,2,none⟩=some (.slice none 0 0):=(by rw[r3.cell,hZe.out];rfl);have f1:=r3.free 2;clear hq3))
   go_meet
   case rel=>exact⟨(⟨3,0,l,[],a0P,0⟩:Prd),A,c,by rw[←HP.out.1],(show prdV (⟨3,0,l,[],a0P,0⟩:Prd) A c=(Z.set 0 (.int .i64 3)).set 2 (.slice A l.length c) by rw[hZ.out];rfl) ▸ r3.set 2 _,(show f0I w3 (⟨3,0,l,[],a0P,0⟩:Prd) A c from ⟨ho,SL3.out,by show (-9223372036854775808:Int)≤3;decide,by show (3:Int)≤9223372036854775807;decide,by show (0:Nat)≤4000;omega,hsum⟩).apart (a0q _ _ _ _) (HAP.out _ (Nat.le_refl _)),HAP.out,HP.out.2,hb3.setCell (p:=⟨w.heap.size,2,none⟩) (Nat.le_refl _) _⟩
  by_cases e4:a=[112,97,116,104]
  ·subst e4
   have HV:f0a [112,97,116,104] b=(if b0N b=true then some ⟨4,0,[],b,a0P,0⟩ else none):=rfl
   rw[HV] at HO
   have b1:=(a0N [112,97,116,104] [98,101,102,111,114,101]).trans (decide_eq_false (by decide))
   have b2:=(a0N [112,97,116,104] [115,105,110,99,101]).trans (decide_eq_false (by decide))
   have b3:=(a0N [112,97,116,104] [111,112]).trans (decide_eq_false (by decide))
   have b4:=(a0N [112,97,116,104] [112,97,116,104]).trans (decide_eq_true rfl)
   have ho:(⟨4,0,[],b,a0P,0⟩:Prd).Ok:=⟨b0P,by show (0:Nat) < 2^64;decide,by show (0:Nat) < 2^64;decide⟩
   have HP:=Lib.hid (show b0N b=o.isSome∧∀x,o=some x→(⟨4,0,[],b,a0P,0⟩:Prd)=x from by
    rw[HO]
    cases b0N b with
    | true=>exact⟨rfl,fun x hx=>Option.some.inj hx⟩
    | false=>exact⟨rfl,fun x hx=>by cases hx⟩)
   have hcon:=Lib.hid (hpr.out rfl)
   clear HV HO
   generalize b0N b=ok at *
   generalize bstr [112,97,116,104]=S at *
   go_wp2_with (first
    | (go_at_call 71;refine (hcon.out _).mono ?_;rintro e w3 ⟨rfl,hq3⟩;have r3:=(r1.set 0 (.int .i64 4)).later hq3 (r1.set 0 (.int .i64 4)).lt;have hb3:=(hb1.setCell (p:=⟨w.heap.size,0,none⟩) (Nat.le_refl _) (.int .i64 4)).trans (hq3.mono (hb1.setCell (p:=⟨w.heap.size,0,none⟩) (Nat.le_refl _) (.int .i64 4)).size);have c1:w3.cell? ⟨w.heap.size,3,none⟩=some (.string { data:=#[] }):=(by rw[r3.cell,hZe.out];rfl);have f1:=r3.free 3;clear hq3))
   go_meet
   case rel=>exact⟨(⟨4,0,[],b,a0P,0⟩:Prd),none,0,by rw[←HP.out.1],(show prdV (⟨4,0,[],b,a0P,0⟩:Prd) none 0=(Z.set 0 (.int .i64 4)).set 3 (.string (bstr b)) by rw[hZ.out];rfl) ▸ r3.set 3 _,d0Z _ ho rfl (by show (0:Int)≤4;decide) (by show (4:Int)≤7;decide) (by show b.length≤4000;omega) _,fun g _ a ha=>(by cases ha),HP.out.2,hb3.setCell (p:=⟨w.heap.size,3,none⟩) (Nat.le_refl _) _⟩
  by_cases e5:a=[110,101,116]
  ·subst e5
   have HV:f0a [110,101,116] b=((b0p b).map fun r=>⟨5,0,[],[],r,0⟩):=rfl
   rw[HV] at HO
   have b1:=(a0N [110,101,116] [98,101,102,111,114,101]).trans (decide_eq_false (by decide))
   have b2:=(a0N [110,101,116] [115,105,110,99,101]).trans (decide_eq_false (by decide))
   have b3:=(a0N [110,101,116] [111,112]).trans (decide_eq_false (by decide))
   have b4:=(a0N [110,101,116] [112,97,116,104]).trans (decide_eq_false (by decide))
   have b5:=(a0N [110,101,116] [110,101,116]).trans (decide_eq_true rfl)
   have ho:(⟨5,0,[],[],(b0p b).getD a0P,0⟩:Prd).Ok:=g0B b _ (i0X b 4 (by omega))
   have HP:=Lib.hid (show (b0p b).isSome=o.isSome∧∀x,o=some x→(⟨5,0,[],[],(b0p b).getD a0P,0⟩:Prd)=x from ⟨by rw[HO,Option.isSome_map],fun x hx=>h0C (b0p b) a0P (fun r=>⟨5,0,[],[],r,0⟩) x (by rw[←HO];exact hx)⟩)
   have hcon:=hne.out rfl
   rw[o0h] at hcon
   have hcon:=Lib.hid hcon
   clear HV HO
   generalize (b0p b).isSome=ok at *
   generalize (b0p b).getD a0P=r at *
   obtain⟨N,hN⟩:∃N,N=rngV r:=⟨_,rfl⟩
   have hNl:=Lib.hid (show N.length=18 by rw[hN];exact a0w _ ho.net.a)
   have hzN:=Lib.hid (show (Tryz.prog.info? 67).map (·.size)=some N.length by rw[hNl.out];exact c0f)
   have hN1:=Lib.hid (show ∀v∈N,v.oneCell'=true by rw[hN];exact r0q r)
   have HN:=Lib.hid hN
   rw[←hN] at hcon
   clear hN
   generalize bstr [110,101,116]=S at *
   have hZl:=Lib.hid (show (Z.set 0 (.int .i64 5)).length=23 by rw[hZe.out];rfl)
   have HSP:=Lib.hid (show splice (Z.set 0 (.int .i64 5)) 4 N=prdV (⟨5,0,[],[],r,0⟩:Prd) none 0 by unfold splice;rw[hNl.out,HN.out,hZ.out];rfl)
   go_wp2_with (first
    | (go_at_call 72;refine (hcon.out _ (hE.next (hb1.setCell (p:=⟨w.heap.size,0,none⟩) (Nat.le_refl _) (.int .i64 5))).a).mono ?_;rintro e w3 ⟨rfl,hq3⟩;have r3:=(r1.set 0 (.int .i64 5)).later hq3 (r1.set 0 (.int .i64 5)).lt;have hb3:=(hb1.setCell (p:=⟨w.heap.size,0,none⟩) (Nat.le_refl _) (.int .i64 5)).trans (hq3.mono (hb1.setCell (p:=⟨w.heap.size,0,none⟩) (Nat.le_refl _) (.int .i64 5)).size);clear hq3)
    | ((with_reducible refine wpList_step fun K hK=>?_);refine b0h none rfl (by rfl) 67 (.tmp 49) (.tmp 47) rfl w.heap.size 4 70 _ N rfl rfl r3 (by rw[hNl.out,hZl.out];omega) hzN.out hN1.out ?_;intro w4 r4 hg4;rw[HSP.out] at r4;refine hK _ _ ?_;clear hK;have hb4:=hb3.grown hg4 hb3.size (fun k h=>by cases h;exact Nat.le_refl _);clear r3 hb3 hg4))
   go_meet
   case rel=>exact⟨(⟨5,0,[],[],r,0⟩:Prd),none,0,by rw[←HP.out.1],r4,d0Z _ ho rfl (by show (0:Int)≤5;decide) (by show (5:Int)≤7;decide) (by show (0:Nat)≤4000;omega) _,fun g _ a ha=>(by cases ha),HP.out.2,hb4⟩
  by_cases e6:a=[99,111,115,116]
  ·subst e6
   have HV:f0a [99,111,115,116] b=((b0o b).map fun c=>⟨6,0,[],[],a0P,c⟩):=rfl
   rw[HV] at HO
   have b1:=(a0N [99,111,115,116] [98,101,102,111,114,101]).trans (decide_eq_false (by decide))
   have b2:=(a0N [99,111,115,116] [115,105,110,99,101]).trans (decide_eq_false (by decide))
   have b3:=(a0N [99,111,115,116] [111,112]).trans (decide_eq_false (by decide))
   have b4:=(a0N [99,111,115,116] [112,97,116,104]).trans (decide_eq_false (by decide))
   have b5:=(a0N [99,111,115,116] [110,101,116]).trans (decide_eq_false (by decide))
   have b6:=(a0N [99,111,115,116] [99,111,115,116]).trans (decide_eq_true rfl)
   have ho:(⟨6,0,[],[],a0P,(b0o b).getD 0⟩:Prd).Ok:=g0B b _ (i0X b 5 (by omega))
   have HP:=Lib.hid (show (b0o b).isSome=o.isSome∧∀x,o=some x→(⟨6,0,[],[],a0P,(b0o b).getD 0⟩:Prd)=x from ⟨by rw[HO,Option.isSome_map],fun x hx=>h0C (b0o b) 0 (fun c=>⟨6,0,[],[],a0P,c⟩) x (by rw[←HO];exact hx)⟩)
   have hcon:=Lib.hid (hco.out rfl)
   clear HV HO
   generalize (b0o b).getD 0=f at *
   generalize (b0o b).isSome=ok at *
   generalize bstr [99,111,115,116]=S at *
   go_wp2_with (first
    | (go_at_call 73;refine (hcon.out _ (hE.next (hb1.setCell (p:=⟨w.heap.size,0,none⟩) (Nat.le_refl _) (.int .i64 6))).d).mono ?_;rintro e w3 ⟨rfl,hq3⟩;have r3:=(r1.set 0 (.int .i64 6)).later hq3 (r1.set 0 (.int .i64 6)).lt;have hb3:=(hb1.setCell (p:=⟨w.heap.size,0,none⟩) (Nat.le_refl _) (.int .i64 6)).trans (hq3.mono (hb1.setCell (p:=⟨w.heap.size,0,none⟩) (Nat.le_refl _) (.int .i64 6)).size);have c1:w3.cell? ⟨w.heap.size,22,none⟩=some (.float .f64 0):=(by rw[r3.cell,hZe.out];rfl);have f1:=r3.free 22;clear hq3))
   go_meet
   case rel=>exact⟨(⟨6,0,[],[],a0P,f⟩:Prd),none,0,by rw[←HP.out.1],(show prdV (⟨6,0,[],[],a0P,f⟩:Prd) none 0=(Z.set 0 (.int .i64 6)).set 22 (.float .f64 f) by rw[hZ.out];rfl) ▸ r3.set 22 _,d0Z _ ho rfl (by show (0:Int)≤6;decide) (by show (6:Int)≤7;decide) (by show (0:Nat)≤4000;omega) _,fun g _ a ha=>(by cases ha),HP.out.2,hb3.setCell (p:=⟨w.heap.size,22,none⟩) (Nat.le_refl _) _⟩
  have HV:f0a a b=none:=by unfold f0a;rw[if_neg e1,if_neg e2,if_neg e3,if_neg e4,if_neg e5,if_neg e6]
  rw[HV] at HO
  have b1:=(a0N a [98,101,102,111,114,101]).trans (decide_eq_false e1)
  have b2:=(a0N a [115,105,110,99,101]).trans (decide_eq_false e2)
  have b3:=(a0N a [111,112]).trans (decide_eq_false e3)
  have b4:=(a0N a [112,97,116,104]).trans (decide_eq_false e4)
  have b5:=(a0N a [110,101,116]).trans (decide_eq_false e5)
  have b6:=(a0N a [99,111,115,116]).trans (decide_eq_false e6)
  clear e1 e2 e3 e4 e5 e6
  have HP:=Lib.hid (show false=o.isSome∧∀x,o=some x→f0Y=x from ⟨by rw[HO];rfl,fun x hx=>by rw[HO] at hx;cases hx⟩)
  clear HV HO
  generalize bstr a=S at *
  go_wp2
  go_meet
  case rel=>exact⟨f0Y,none,0,by rw[←HP.out.1],hZ.out ▸ r1,i0t _,fun g _ a ha=>(by cases ha),HP.out.2,hb1⟩
 case rest =>
 obtain⟨q,A,c,rfl,r4,hpa,hap,hv,hb4⟩:=hcut
 have HAP:=Lib.hid hap
 have HPA:=Lib.hid hpa
 have HVV:=Lib.hid hv
 obtain⟨V,hV⟩:∃V,V=prdV q A c:=⟨_,rfl⟩
 rw[←hV] at r4
 have hVl:=Lib.hid (show (Tryz.prog.info? 70).map (·.size)=some V.length by rw[hV,a0Z _ hpa.ok.net.a];exact c0F)
 have hzV:=Lib.hid (show (Tryz.prog.info? 70).map (·.size)=some V.toArray.size by rw[List.size_toArray];exact hVl.out)
 have hV1:=Lib.hid (show V.toArray.all (·.oneCell')=true by rw[hV];exact d0N _ _ _)
 have HV:=Lib.hid hV
 have Q4:=Lib.hid (show wc.heap[w.heap.size]?=some (.cells V.toArray 70 (0,0)) from r4)
 have K4:=Lib.hid (a0m r4)
 clear r4 hpa hap hv hV c0 f0 r1 hb1
 go_wp2_with (first
  | (with_reducible refine wpList_load_mid rfl 70 (.tmp 4) rfl w.heap.size 0 rfl V _ K4.out Tryz.underlying70 rfl hVl.out ?_)
  | (with_reducible refine wpList_store_row rfl 70 (.tmp 4) (.tmp 59) rfl w.heap.size V.toArray rfl rfl 70 V.toArray Q4.out hzV.out rfl hV1.out ?_;refine Hid.out ?_))
 refine Lib.hid ?_
 generalize hw8:World.setRow _ _ _=w8
 obtain⟨r8,hg8⟩:=a0z (show Row wc w.heap.size 70 V from Q4.out) hw8
 have hb8:=hb4.grown hg8 hb4.size (fun k h=>by cases h;exact Nat.le_refl _)
 have R8:=Lib.hid (show w8.heap[w.heap.size]?=some (.cells V.toArray 70 (0,0)) from r8)
 clear hw8 r8 Q4 K4
 go_wp2_with fail
 exact⟨rfl,_,a0g rfl _ _ w.heap.size 70 V.toArray (0,0) _ rfl R8.out Tryz.underlying70 rfl hzV.out _ rfl,q,A,c,by rw[HV.out];rfl,HPA.out.apart hg8 (HAP.out _ (Nat.le_refl _)),fun g hg=>HAP.out g (Nat.le_of_lt hg),HVV.out,hb8⟩
theorem p0N (a b:List UInt8) (hb:b.length≤1000) (w:World) (hE:EnvQ w):Calls Tryz.prog 50 #[.string (bstr a),.string (bstr b)] w (i0T (f0a a b) w) :=
 m0w a b hb (fun _ w'=>t0b b (by omega) w') (fun _ w' h=>m0U b (by omega) w' h) (fun _ w' h=>s0a b (by omega) w' h) w hE
end Go.Proofs.YtimdhdimhboboaaGreatDoor
