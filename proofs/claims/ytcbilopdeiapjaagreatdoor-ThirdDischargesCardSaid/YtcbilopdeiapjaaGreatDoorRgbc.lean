import Derived.Test.YtcbilopdeiapjaaGreatDoorRgbb
set_option maxHeartbeats 16000000
set_option maxRecDepth 100000
open Go.Proofs.Tryz
namespace Go.Proofs.YtcbilopdeiapjaaGreatDoor
open Go Go.RowKit
theorem x0i (s:List UInt8):∃(a:Adr) (b:Bool),a.Ok∧k0D (c0f s)=.tuple #[.agg (adrV a).toArray,.bool b]∧(b=true→c0f s=some a)∧(b=false→c0f s=none):=by
 cases hp:c0f s with
 | none=>exact⟨a0K,false,b0O,rfl,(fun h=>by cases h),fun _=>rfl⟩
 | some a=>exact⟨a,true,((f0a s a).1 hp).1,rfl,(fun _=>rfl),fun h=>by cases h⟩
theorem x0k (s:List UInt8) (k:Nat) (a:Adr) (n:Nat) (hs:d0P s=some k) (hp:c0f (s.take k)=some a) (ht:b0y ⟨a,n⟩=s):b0u s=some ⟨a,n⟩:=by
 refine (f0b s ⟨a,n⟩).2 ⟨((f0a _ a).1 hp).1,?_,ht⟩
 refine (h0g _ ?_).1
 rw[ht]
 intro e
 rw[e] at hs;cases hs
theorem x0l (s:List UInt8) (k:Nat) (a:Adr) (hs:d0P s=some k) (hp:c0f (s.take k)=some a) (hn:∀n:Nat,n < 129→b0y ⟨a,n⟩≠s):b0u s=none:=by
 unfold b0u
 simp only[hs,hp]
 rw[List.find?_eq_none.2 (fun n hmem=>by simpa using hn n (List.mem_range.1 hmem))]
 rfl
theorem o0S (s:List UInt8) (hs:d0P s=none):b0u s=none:=by unfold b0u;simp only[hs]
theorem o0T (s:List UInt8) (k:Nat) (hs:d0P s=some k) (hp:c0f (s.take k)=none):b0u s=none:=by unfold b0u;simp only[hs,hp]
theorem p0i (s:List UInt8) (hs:s.length≤1000) (w:World) :
  Calls prog 49 #[.string (bstr s)] w fun e w'=>e=.returned (j0k (b0u s))∧Below w.heap.size w w':=by
 have hzs:=a0c s
 have HE:=f1D (fun t=>c0b t s)
 obtain⟨Z,hZ⟩:∃Z,Z=rngV a0T:=⟨_,rfl⟩
 have hzZ:=f1D (show (prog.info? 69).map (·.size)=some Z.toArray.size by rw[hZ,List.size_toArray,a0C _ b0O];exact c0n)
 have hZ1:=f1D (show Z.toArray.all (·.oneCell')=true by rw[hZ];exact d0q _)
 have HZ0:=f1D (show j0k none=.tuple #[.agg Z.toArray,.bool false] by rw[hZ];rfl)
 have hZl:=f1D (show Z.toArray.size=18 by rw[hZ,List.size_toArray,a0C _ b0O])
 have hZe:=f1D (hZ.trans i0h)
 obtain⟨w1,hw1⟩:∃w1,w1=w.alloc (.cells Z.toArray 69):=⟨_,rfl⟩
 have q1:Row w1 w.heap.size 69 Z:=by rw[hw1];exact Row.new w _ _
 have hb1:Below w.heap.size w w1:=by rw[hw1];exact (Below.refl _ w).alloc (f1F _) _
 have HW:=f1D (show w1=w.alloc (.cells #[Value.bool false,.int .u8 0,.int .u8 0,.int .u8 0,.int .u8 0,.int .u8 0,.int .u8 0,.int .u8 0,.int .u8 0,.int .u8 0,.int .u8 0,.int .u8 0,.int .u8 0,.int .u8 0,.int .u8 0,.int .u8 0,.int .u8 0,.int .i64 0] 69) by rw[hw1,hZe.out])
 clear hw1 hZ
 have hno:=q0X s
 have hat:=y0b s
 have HNO:=f1D hno
 have HAT:=f1D hat
 have HIX:=f1D (a0V s)
 have HCUT:=f1D (fun k=>(show (bstr s).extract 0 k=bstr (s.take k) by rw[a0G s 0 k];simp))
 clear hno hat
 obtain⟨S,hS⟩:∃S,S=bstr s:=⟨_,rfl⟩
 rw[←hS] at hzs HIX HCUT HE ⊢
 clear hS
 go_enter func49,ntmps49
 go_wp2
 rw[←HW.out]
 clear HW
 go_loopw [4] (fun i wr=>∃k:Nat,k≤s.length∧i=.int .i64 k∧(∀j,j < k→s.getD j 0≠47)∧Row wr w.heap.size 69 Z∧Below w.heap.size w wr) (fun i _=>s.length - (intOf i).toNat)
 case atStart=>exact⟨0,Nat.zero_le _,rfl,fun j hj=>by omega,q1,hb1⟩
 case round =>
  clear q1 hb1
  obtain⟨k,hk,rfl,hz,q1,hb1⟩:=hrel
  by_cases hlt:k < s.length
  ·have hlt':(k:Int) < (s.length:Int):=by omega
   have hix:=HIX.out k hlt
   by_cases hx:s.getD k 0=47
   ·have HSL:=f1D (HAT.out k hlt hz hx)
    rw[hx] at hix
    have hix:∀w,(Instr.index 9 (.string S) (.int .i64 (k:Int))).run prog w=.ok (.int .u8 47) w:=hix
    obtain⟨a,ok,ha,hpe,hpt,hpf⟩:=x0i (s.take k)
    have hpr:=f1D (fun w'=>u0o (s.take k) (by rw[List.length_take];omega) w')
    rw[hpe] at hpr
    have hcut:=HCUT.out k
    have HPT:=f1D hpt
    have HPF:=f1D hpf
    obtain⟨V,hV⟩:∃V,V=adrV a:=⟨_,rfl⟩
    have hVl:=f1D (show V.length=17 by rw[hV];exact a0m ha)
    have hzV:=f1D (show (prog.info? 67).map (·.size)=some V.length by rw[hVl.out];exact b0b)
    have hzV2:=f1D (show (prog.info? 67).map (·.size)=some V.toArray.size by rw[List.size_toArray,hVl.out];exact b0b)
    have h17:=f1D (show 17=V.toArray.size by rw[List.size_toArray,hVl.out])
    have hV1:=f1D (show V.toArray.all (·.oneCell')=true by rw[hV];exact n0x _)
    have HV:=f1D hV
    rw[←hV] at hpr
    have hks:(k:Int)≤(s.length:Int):=by omega
    generalize bstr (s.take k)=T at *
    clear hV hz hx HIX HCUT HNO HAT hpt hpf hpe
    go_wp2_with (first
     | (go_at_call 78;refine (hpr.out _).mono ?_;rintro e w2 ⟨rfl,hb2⟩;have q2:=q1.later hb2 q1.lt;have hb2:=hb1.trans (hb2.mono hb1.size))
     | (have _t:=hb2;refine wpList_store_row rfl 67 (.tmp 5) (.tmp 24) rfl w2.heap.size V.toArray rfl rfl 67 _ (heap_alloc_new w2 _) hzV2.out h17.out hV1.out ?_;refine Hid.out ?_))
    refine f1D ?_
    generalize hw4:World.setRow _ _ _=w4
    obtain⟨r4,hb4'⟩:=a0v (xs:=V) hw4
    have q4:=q2.later hb4' q2.lt
    have hb4:=hb2.trans (hb4'.mono hb2.size)
    clear hw4 hb4' q1 q2 hix hcut hpr
    generalize w2.heap.size=g at *
    go_wp2
    go_loopw [7] (fun i wr2=>∃n:Nat,n≤129∧i=.int .i64 n∧(∀j:Nat,j < n→b0y ⟨a,j⟩≠s)∧Row wr2 w.heap.size 69 Z∧Row wr2 g 67 V∧Below w.heap.size w wr2) (fun i _=>129 - (intOf i).toNat)
    case atStart=>exact⟨0,Nat.zero_le _,rfl,fun j hj=>by omega,q4,r4,hb4⟩
    case round =>
     clear q4 r4 hb4
     obtain⟨n,hn,rfl,hz,q4,r4,hb4⟩:=hrel
     cases ok with
     | false =>
      have HX:=f1D (show j0k (b0u s)=.tuple #[.agg Z.toArray,.bool false] by rw[o0T s k HSL.out (HPF.out rfl),HZ0.out])
      have Q2:=f1D (show wr.heap[w.heap.size]?=some (.cells Z.toArray 69 (0,0)) from q4)
      clear hz q4 r4 HPT HPF HSL HE
      go_wp2_with (have _t:=Q2;refine wpList_store_row rfl 69 (.tmp 2) (.tmp 41) rfl w.heap.size Z.toArray rfl (by rw[hZe.out];rfl) 69 Z.toArray Q2.out hzZ.out rfl hZ1.out ?_;refine Hid.out ?_)
      refine f1D ?_
      generalize hw8:World.setRow _ _ _=w8
      obtain⟨r8,hg8⟩:=a0y (show Row wr w.heap.size 69 Z from Q2.out) hw8
      have hb8:=hb4.grown hg8 hb4.size (fun k h=>by cases h;exact f1F _)
      have R8:=f1D (show w8.heap[w.heap.size]?=some (.cells Z.toArray 69 (0,0)) from r8)
      clear hw8 r8 hg8 Q2
      go_wp2_with fail
      exact⟨rfl,_,a0d rfl _ _ w.heap.size 69 Z.toArray (0,0) _ rfl R8.out underlying69 rfl hzZ.out _ rfl,by rw[HX.out];rfl,hb8⟩
     | true =>
      have HP:=f1D (HPT.out rfl)
      by_cases hlt2:n≤128
      ·have hlt3:(n:Int)≤128:=by omega
       have hro:(⟨a,(n:Int)⟩:Rng).Ok:=⟨ha,by show (-9223372036854775808:Int)≤(n:Int);omega,by show (n:Int)≤9223372036854775807;omega⟩
       have htx:=f1D (fun w'=>k0O ⟨a,n⟩ hro w')
       have heq:=HE.out (b0y ⟨a,n⟩)
       obtain⟨X,hX⟩:∃X,X=rngV ⟨a,n⟩:=⟨_,rfl⟩
       have hXl:=a0C _ hro.a
       have hzX:=f1D (show (prog.info? 69).map (·.size)=some X.length by rw[hX,hXl];exact c0n)
       have hzX2:=f1D (show (prog.info? 69).map (·.size)=some X.toArray.size by rw[List.size_toArray];exact hzX.out)
       have h18:=f1D (show 18=X.toArray.size by rw[hX,List.size_toArray,hXl])
       have hX1:=f1D (show X.toArray.all (·.oneCell')=true by rw[hX];exact d0q _)
       have hZX:=f1D (show Z.toArray.size=X.toArray.size by rw[hZl.out,hX,List.size_toArray,hXl])
       have HXe:=f1D (show X=V++[Value.int .i64 (n:Int)] by rw[hX,HV.out];rfl)
       have HXp:=f1D (show j0k (some ⟨a,n⟩)=.tuple #[.agg X.toArray,.bool true] by rw[hX];rfl)
       rw[←hX] at htx
       clear hX hXl hro HE HPT HPF
       by_cases hT:b0y ⟨a,n⟩=s
       ·have HX:=f1D (show j0k (b0u s)=.tuple #[.agg X.toArray,.bool true] by rw[x0k s k a n HSL.out HP.out hT,HXp.out])
        rw[decide_eq_true hT] at heq
        clear hT hz HSL HP HXp
        generalize b0y ⟨a,n⟩=tx at *
        generalize bstr tx=TX at *
        go_wp2_with (first
         | (with_reducible refine wpList_load_mid rfl 67 (.tmp 5) rfl g 0 rfl V _ (a0i r4) underlying67 rfl hzV.out ?_)
         | (refine b0g rfl 69 0 1 (.tmp 33) (.tmp 34) rfl (.agg V.toArray) (.int .i64 (n:Int)) (.agg X.toArray) rfl rfl (by rw[HXe.out];exact g0r V (n:Int) hVl.out _) ?_)
         | (refine wpList_store_row rfl 69 (.tmp 8) (.tmp 35) rfl wr.heap.size X.toArray rfl rfl 69 _ (heap_alloc_new wr _) hzX2.out h18.out hX1.out ?_;refine Hid.out ?_))
        refine f1D ?_
        generalize hw6:World.setRow _ _ _=w6
        obtain⟨x6,hb6'⟩:=a0v (xs:=X) hw6
        have q6:=q4.later hb6' q4.lt
        have r6:=r4.later hb6' r4.lt
        have hb6:=hb4.trans (hb6'.mono hb4.size)
        clear hw6 hb6' q4 r4
        generalize wr.heap.size=g2 at *
        go_wp2_with (first
         | (with_reducible refine wpList_load_mid rfl 69 (.tmp 8) rfl g2 0 rfl X _ (a0i x6) underlying69 rfl hzX.out ?_)
         | (go_at_call 79;refine (htx.out _).mono ?_;rintro e w7 ⟨rfl,hb7⟩;have x7:=x6.later hb7 x6.lt;have q7:=q6.later hb7 q6.lt;have r7:=r6.later hb7 r6.lt;have hb7:=hb6.trans (hb7.mono hb6.size);clear x6 q6 r6;refine Hid.out ?_))
        refine f1D ?_
        have Q2:=f1D (show w7.heap[w.heap.size]?=some (.cells Z.toArray 69 (0,0)) from q7)
        clear q7 r7
        go_wp2_with (first
         | (with_reducible refine wpList_load_mid rfl 69 (.tmp 8) rfl g2 0 rfl X _ (a0i x7) underlying69 rfl hzX.out ?_)
         | (with_reducible refine wpList_store_row rfl 69 (.tmp 2) (.tmp 40) rfl w.heap.size X.toArray rfl rfl 69 Z.toArray Q2.out hzX2.out hZX.out hX1.out ?_;refine Hid.out ?_))
        refine f1D ?_
        generalize hw8:World.setRow _ _ _=w8
        obtain⟨r8,hg8⟩:=a0y (show Row w7 w.heap.size 69 Z from Q2.out) hw8
        have hb8:=hb7.grown hg8 hb7.size (fun k h=>by cases h;exact f1F _)
        have R8:=f1D (show w8.heap[w.heap.size]?=some (.cells X.toArray 69 (0,0)) from r8)
        clear hw8 r8 hg8 Q2
        go_wp2_with fail
        exact⟨rfl,_,a0d rfl _ _ w.heap.size 69 X.toArray (0,0) _ rfl R8.out underlying69 rfl hzX2.out _ rfl,by rw[HX.out];rfl,hb8⟩
       ·have HZ:=f1D (show ∀j:Nat,j < n+1→b0y ⟨a,j⟩≠s from fun j hj=>by
         by_cases e:j=n
         ·rw[e];exact hT
         ·exact hz j (by omega))
        rw[decide_eq_false hT] at heq
        clear hT hz HSL HP HXp
        generalize b0y ⟨a,n⟩=tx at *
        generalize bstr tx=TX at *
        go_wp2_with (first
         | (with_reducible refine wpList_load_mid rfl 67 (.tmp 5) rfl g 0 rfl V _ (a0i r4) underlying67 rfl hzV.out ?_)
         | (refine b0g rfl 69 0 1 (.tmp 33) (.tmp 34) rfl (.agg V.toArray) (.int .i64 (n:Int)) (.agg X.toArray) rfl rfl (by rw[HXe.out];exact g0r V (n:Int) hVl.out _) ?_)
         | (refine wpList_store_row rfl 69 (.tmp 8) (.tmp 35) rfl wr.heap.size X.toArray rfl rfl 69 _ (heap_alloc_new wr _) hzX2.out h18.out hX1.out ?_;refine Hid.out ?_))
        refine f1D ?_
        generalize hw6:World.setRow _ _ _=w6
        obtain⟨x6,hb6'⟩:=a0v (xs:=X) hw6
        have q6:=q4.later hb6' q4.lt
        have r6:=r4.later hb6' r4.lt
        have hb6:=hb4.trans (hb6'.mono hb4.size)
        clear hw6 hb6' q4 r4
        generalize wr.heap.size=g2 at *
        go_wp2_with (first
         | (with_reducible refine wpList_load_mid rfl 69 (.tmp 8) rfl g2 0 rfl X _ (a0i x6) underlying69 rfl hzX.out ?_)
         | (go_at_call 79;refine (htx.out _).mono ?_;rintro e w7 ⟨rfl,hb7⟩;have x7:=x6.later hb7 x6.lt;have q7:=q6.later hb7 q6.lt;have r7:=r6.later hb7 r6.lt;have hb7:=hb6.trans (hb7.mono hb6.size);clear x6 q6 r6;refine Hid.out ?_))
        refine f1D ?_
        go_wp2
        go_roundw
        case rel=>exact⟨n+1,by omega,by go_num,HZ.out,q7,r7,hb7⟩
        case measure=>simp[intOf];omega
      ·obtain rfl:n=129:=by omega
       have HX:=f1D (show j0k (b0u s)=.tuple #[.agg Z.toArray,.bool false] by rw[x0l s k a HSL.out HP.out hz,HZ0.out])
       have Q2:=f1D (show wr.heap[w.heap.size]?=some (.cells Z.toArray 69 (0,0)) from q4)
       clear hz q4 r4 HPT HPF HSL HE HP
       go_wp2_with (have _t:=Q2;refine wpList_store_row rfl 69 (.tmp 2) (.tmp 41) rfl w.heap.size Z.toArray rfl (by rw[hZe.out];rfl) 69 Z.toArray Q2.out hzZ.out rfl hZ1.out ?_;refine Hid.out ?_)
       refine f1D ?_
       generalize hw8:World.setRow _ _ _=w8
       obtain⟨r8,hg8⟩:=a0y (show Row wr w.heap.size 69 Z from Q2.out) hw8
       have hb8:=hb4.grown hg8 hb4.size (fun k h=>by cases h;exact f1F _)
       have R8:=f1D (show w8.heap[w.heap.size]?=some (.cells Z.toArray 69 (0,0)) from r8)
       clear hw8 r8 hg8 Q2
       go_wp2_with fail
       exact⟨rfl,_,a0d rfl _ _ w.heap.size 69 Z.toArray (0,0) _ rfl R8.out underlying69 rfl hzZ.out _ rfl,by rw[HX.out];rfl,hb8⟩
   ·have hxe:(((s.getD k 0).toNat:Int) != 47)=true:=by
     rw[bne_iff_ne]
     intro h
     exact hx (UInt8.toNat_inj.1 (by show (s.getD k 0).toNat=47;omega))
    have HZ:=f1D (show ∀j,j < k+1→s.getD j 0≠47 from fun j hj=>by
     by_cases e:j=k
     ·rw[e];exact hx
     ·exact hz j (by omega))
    generalize s.getD k 0=x at *
    clear hz hx HIX HCUT HNO HAT
    go_wp2
    go_roundw
    case rel=>exact⟨k+1,by omega,by go_num,HZ.out,q1,hb1⟩
    case measure=>simp[intOf];omega
  ·obtain rfl:k=s.length:=by omega
   have HX:=f1D (show j0k (b0u s)=.tuple #[.agg Z.toArray,.bool false] by rw[o0S s (HNO.out hz),HZ0.out])
   have Q2:=f1D (show wr.heap[w.heap.size]?=some (.cells Z.toArray 69 (0,0)) from q1)
   clear hz HIX HCUT HNO HAT q1
   go_wp2_with (have _t:=Q2;refine wpList_store_row rfl 69 (.tmp 2) (.tmp 42) rfl w.heap.size Z.toArray rfl (by rw[hZe.out];rfl) 69 Z.toArray Q2.out hzZ.out rfl hZ1.out ?_;refine Hid.out ?_)
   refine f1D ?_
   generalize hw8:World.setRow _ _ _=w8
   obtain⟨r8,hg8⟩:=a0y (show Row wr w.heap.size 69 Z from Q2.out) hw8
   have hb8:=hb1.grown hg8 hb1.size (fun k h=>by cases h;omega)
   have R8:=f1D (show w8.heap[w.heap.size]?=some (.cells Z.toArray 69 (0,0)) from r8)
   clear hw8 r8 hg8 Q2
   go_wp2_with fail
   exact⟨rfl,_,a0d rfl _ _ w.heap.size 69 Z.toArray (0,0) _ rfl R8.out underlying69 rfl hzZ.out _ rfl,by rw[HX.out];rfl,hb8⟩
theorem z0A (x:UInt8) (l:List (List UInt8)) (h:l≠[]):sumS l=(b0i x l).length+1:=by
 induction l with
 | nil=>exact absurd rfl h
 | cons p l ih =>
  cases l with
  | nil=>show (p.length+1+0)=p.length+1;rfl
  | cons q l =>
   have:=ih (by simp)
   show p.length+1+sumS (q :: l)=(p++x :: b0i x (q :: l)).length+1
   rw[this,List.length_append,List.length_cons];omega
theorem k0x (s:List UInt8) (h:s.length≤3999):sumS ((c0o s).getD [])≤4000:=by
 unfold c0o
 split
 ·show sumS (a0g 44 s)≤4000
  have h1:=z0A 44 (a0g 44 s) (f0j 44 s)
  rw[c0H 44 s] at h1
  omega
 ·decide
theorem v0w (b:List UInt8):(g0s b).length=6:=rfl
def j0i (A:Option Addr) (c j:Nat):Option Addr×Nat:=if j=2 then (A,c) else (none,0)
def d0t (b:List UInt8) (j:Nat):Prd:=(g0s b).getD j g0g
theorem j0s (b:List UInt8) (j:Nat) (h:j < 6):d0t b j∈g0s b:=by
 unfold d0t
 rw[List.getD_eq_getElem?_getD,List.getElem?_eq_getElem (by rw[v0w];exact h)]
 exact List.getElem_mem _
theorem b1F (b:List UInt8) (hb:b.length≤600) (A:Option Addr) (c:Nat) (w:World) (hs:Sl w A c (a0F ((c0o b).getD []))) (j:Nat) (h:j < 6) :
  f0N w (d0t b j) (j0i A c j).1 (j0i A c j).2:=by
 have ho:=g0R b _ (j0s b j h)
 have hn:=k0x b (by omega)
 have:j=0∨j=1∨j=2∨j=3∨j=4∨j=5:=by omega
 rcases this with rfl | rfl | rfl | rfl | rfl | rfl
 ·exact⟨ho,c0q w,by show (-9223372036854775808:Int)≤1;decide,by show (1:Int)≤9223372036854775807;decide,by show (0:Nat)≤4000;omega,by show (0:Nat)≤4000;omega⟩
 ·exact⟨ho,c0q w,by show (-9223372036854775808:Int)≤2;decide,by show (2:Int)≤9223372036854775807;decide,by show (0:Nat)≤4000;omega,by show (0:Nat)≤4000;omega⟩
 ·exact⟨ho,hs,by show (-9223372036854775808:Int)≤3;decide,by show (3:Int)≤9223372036854775807;decide,by show (0:Nat)≤4000;omega,hn⟩
 ·exact⟨ho,c0q w,by show (-9223372036854775808:Int)≤4;decide,by show (4:Int)≤9223372036854775807;decide,by show b.length≤4000;omega,by show (0:Nat)≤4000;omega⟩
 ·exact⟨ho,c0q w,by show (-9223372036854775808:Int)≤5;decide,by show (5:Int)≤9223372036854775807;decide,by show (0:Nat)≤4000;omega,by show (0:Nat)≤4000;omega⟩
 ·exact⟨ho,c0q w,by show (-9223372036854775808:Int)≤6;decide,by show (6:Int)≤9223372036854775807;decide,by show (0:Nat)≤4000;omega,by show (0:Nat)≤4000;omega⟩
theorem v0x (b:List UInt8):d0t b 0=⟨1,(a0J b).getD 0,[],[],a0T,0⟩∧d0t b 1=⟨2,(a0J b).getD 0,[],[],a0T,0⟩∧d0t b 2=⟨3,0,(c0o b).getD [],[],a0T,0⟩ ∧
  d0t b 3=⟨4,0,[],b,a0T,0⟩∧d0t b 4=⟨5,0,[],[],(b0u b).getD a0T,0⟩∧d0t b 5=⟨6,0,[],[],a0T,(b0t b).getD 0⟩:=⟨rfl,rfl,rfl,rfl,rfl,rfl⟩
theorem o0P (o:Option Rng):j0k o=.tuple #[.agg (rngV (o.getD a0T)).toArray,.bool o.isSome]:=by cases o<;>rfl
theorem v0R {α:Type} (f:α→Bool) (z:α):∀(l:List α) (j:Nat),j < l.length→(∀i < j,f (l.getD i z)=false)→f (l.getD j z)=true→l.find? f=some (l.getD j z)
 | [],j,h,_,_=>absurd h (by simp)
 | a :: l,0,_,_,h=>by
  have h:f a=true:=h
  rw[List.find?_cons_of_pos h];rfl
 | a :: l,j+1,h,hn,ht=>by
  have h0:f a=false:=hn 0 (by omega)
  rw[List.find?_cons_of_neg (by rw[h0];decide)]
  exact v0R f z l j (by simpa using h) (fun i hi=>hn (i+1) (by omega)) ht
theorem b1Q {α:Type} (f:α→Bool) (z:α) (l:List α) (h:∀i < l.length,f (l.getD i z)=false):l.find? f=none:=by
 rw[List.find?_eq_none]
 intro a ha
 obtain⟨i,hi,rfl⟩:=List.mem_iff_getElem.1 ha
 have:=h i hi
 rw[List.getD_eq_getElem?_getD,List.getElem?_eq_getElem hi] at this
 have this:f l[i]=false:=this
 rw[this];decide
theorem x0m (s:List UInt8) (k j:Nat) (hl:s.length≤512) (hb:g0h s=some k) (hj:j < 6) (hn:∀i < j,c0A (d0t (s.drop (k+1)) i)≠s) (ht:c0A (d0t (s.drop (k+1)) j)=s):c0L s=some (d0t (s.drop (k+1)) j):=by
 unfold c0L
 rw[if_neg (by omega),hb]
 exact v0R _ g0g _ j hj (fun i hi=>decide_eq_false (hn i hi)) (decide_eq_true ht)
theorem t0O (s:List UInt8) (k:Nat) (hl:s.length≤512) (hb:g0h s=some k) (hn:∀i < 6,c0A (d0t (s.drop (k+1)) i)≠s):c0L s=none:=by
 unfold c0L
 rw[if_neg (by omega),hb]
 exact b1Q _ g0g _ fun i hi=>decide_eq_false (hn i hi)
theorem t0N (s:List UInt8) (hl:512 < s.length):c0L s=none:=by unfold c0L;rw[if_pos hl]
theorem q0B (s:List UInt8) (hl:s.length≤512) (hb:g0h s=none):c0L s=none:=by unfold c0L;rw[if_neg (by omega),hb]
def g0n (o:Option Prd) (w:World) (e:Ending) (w':World):Prop :=
 ∃(A:Option Addr) (c:Nat),e=.returned (.tuple #[.agg (prdV (o.getD g0g) A c).toArray,.bool o.isSome])∧f0N w' (o.getD g0g) A c∧Below w.heap.size w w'
theorem i0O (w:World):f0N w g0g none 0:=⟨j0N,c0q w,by decide,by decide,by decide,by decide⟩
theorem f0N.apart {w w':World} {p:Prd} {A:Option Addr} {c g:Nat} (h:f0N w p A c) (hg:w.grownBy w' (some g)) (hne:∀a,A=some a→a.block≠g):f0N w' p A c :=
 ⟨h.ok,h.names.apart hg (fun _=>hne),h.lo,h.hi,h.path,h.sum⟩
theorem p0R (A:Option Addr) (c j g:Nat) (h:∀a,A=some a→a.block≠g):∀a,(j0i A c j).1=some a→a.block≠g:=by
 intro a ha
 unfold j0i at ha
 split at ha
 ·exact h a ha
 ·cases ha
def j0q (o:Option (List (List UInt8))) (w:World) (e:Ending) (w':World):Prop :=
 ∃(A:Option Addr) (c:Nat),e=.returned (.tuple #[.slice A (o.getD []).length c,.bool o.isSome])∧Sl w' A c (a0F (o.getD []))∧(∀g,g < w.heap.size→∀a,A=some a→a.block≠g)∧Below w.heap.size w w'
theorem p0g (s:List UInt8) (hs:s.length≤4000) (w:World):Calls prog 48 #[.string (bstr s)] w (j0q (c0o s) w):=by
 have hz:=a0c s
 have hsp:=f1D (p0l s 44 hs w)
 have hlen:=d0h 44 s
 have hri:=f1D (fun A c w'=>p0k (a0g 44 s) (by omega) (fun p hp=>by have:=d0H 44 s p hp;omega) A c w')
 have HV:=f1D (show c0o s=if c0Y (a0g 44 s)=true then some (a0g 44 s) else none from rfl)
 generalize c0o s=V at *
 generalize a0g 44 s=ps at *
 cases hr:c0Y ps with
 | true =>
  have HW:=f1D (HV.out.trans (if_pos hr))
  rw[hr] at hri
  clear HV hr
  go_enter func48,ntmps48
  go_wp2_with (first
   | (go_at_call 76;refine hsp.out.mono ?_;rintro e w1 ⟨v,rfl,hown,hb1⟩;obtain⟨A,c,rfl,hpl,hsl⟩:=Sl.of_own hown;have hap:=f1D (fun g (hg:g < w.heap.size) a (ha:A=some a)=>h0Z hown hg a ha);clear hpl)
   | (go_at_call 77;refine (hri.out A c w1 hsl).mono ?_;rintro e w' ⟨rfl,rfl⟩))
  go_ret2
  exact⟨A,c,by rw[HW.out];rfl,by rw[HW.out];exact hsl,hap.out,hb1⟩
 | false =>
  have HW:=f1D (HV.out.trans (if_neg (by rw[hr];decide)))
  rw[hr] at hri
  clear HV hr
  go_enter func48,ntmps48
  go_wp2_with (first
   | (go_at_call 76;refine hsp.out.mono ?_;rintro e w1 ⟨v,rfl,hown,hb1⟩;obtain⟨A,c,rfl,hpl,hsl⟩:=Sl.of_own hown;clear hpl)
   | (go_at_call 77;refine (hri.out A c w1 hsl).mono ?_;rintro e w' ⟨rfl,rfl⟩))
  go_ret2
  exact⟨none,0,by rw[HW.out];rfl,by rw[HW.out];exact c0q _,fun g _ a ha=>(by cases ha),hb1⟩
theorem d0W (p:Prd) (A:Option Addr) (c:Nat):(prdV p A c).toArray.all (·.oneCell')=true:=by
 have h:=d0q p.net
 rw[List.all_toArray] at h ⊢
 unfold prdV
 rw[List.all_append,List.all_append,h];rfl
theorem j0G:prdV g0g none 0=[Value.int .i64 0,.int .u64 0,.slice none 0 0,.string { data:=#[] },.bool false,.int .u8 0,.int .u8 0,.int .u8 0,.int .u8 0,.int .u8 0,.int .u8 0,.int .u8 0,.int .u8 0,.int .u8 0,.int .u8 0,.int .u8 0,.int .u8 0,.int .u8 0,.int .u8 0,.int .u8 0,.int .u8 0,.int .i64 0,.float .f64 0]:=rfl
theorem w0t (A:Option Addr) (b o n c k:Nat) (hA:A=some ⟨b,o,none⟩) (hk:k < n) (w:World) :
  (Instr.indexAt 98 (.slice A n c) (.int .i64 k)).run prog w=.ok (.pointer (some ⟨b,o+k*23,none⟩)) w:=by
 subst hA
 have h:(k:Int) < (n:Int):=by omega
 go_simp
theorem n0u {P:Program} {w w':World} {ops:Array Oper} {rest:List Oper} {o:Oper} {a:Act} {Q:Exit→Act→World→Prop} (hgd:o.guard=none) (ty:TypeId) (n:Nat) (parts:List (Nat×Operand)) (ho:o.op=.buildSlice ty n parts.toArray) (vals:List (Nat×Value)) (hx:parts.map (fun p=>(p.1,a.eval p.2))=vals) (v:Value)
  (hv:(Instr.buildSlice ty n vals.toArray).run P w=.ok v w') (h:wpList P ops Q rest (a.put o.dst v) w'):wpList P ops Q (o :: rest) a w:=by
 refine wpList_plain hgd fun _ hK=>?_
 subst hx
 unfold Oper.wp execOp
 simp only[ho,Sem.run_bind,Sem.run_pure,Result.andThen_ok,List.map_toArray,hv]
 exact hK _ _ h
theorem v0s (n:Nat) (k:Int) (w:World):(Instr.build 72 #[(0,.int .i64 k),(1,.int .u64 n)]).run prog w=.ok (.agg (prdV ⟨k,n,[],[],a0T,0⟩ none 0).toArray) w:=by
 go_simp
 rfl
theorem b1A (A:Option Addr) (l:List (List UInt8)) (c:Nat) (w:World):(Instr.build 72 #[(0,.int .i64 3),(2,.slice A l.length c)]).run prog w=.ok (.agg (prdV ⟨3,0,l,[],a0T,0⟩ A c).toArray) w:=by
 go_simp
 rfl
theorem b1B (b:List UInt8) (w:World):(Instr.build 72 #[(0,.int .i64 4),(3,.string (bstr b))]).run prog w=.ok (.agg (prdV ⟨4,0,[],b,a0T,0⟩ none 0).toArray) w:=by
 go_simp
 rfl
theorem b1D (c:Nat) (w:World):(Instr.build 72 #[(0,.int .i64 6),(5,.float .f64 c)]).run prog w=.ok (.agg (prdV ⟨6,0,[],[],a0T,c⟩ none 0).toArray) w:=by
 go_simp
 rfl
theorem z0y (V:List Value) (off:Nat):∀(k:Nat) (Z:Array Value),(V.zipIdx k).foldl (fun cs x=>cs.setIfInBounds (off+x.2) x.1) Z=(V.zipIdx (off+k)).foldl (fun cs x=>cs.setIfInBounds x.2 x.1) Z:=by
 induction V with
 | nil=>intro k Z;rfl
 | cons v V ih =>
  intro k Z
  rw[List.zipIdx_cons,List.zipIdx_cons,List.foldl_cons,List.foldl_cons]
  exact ih (k+1) _
theorem b1C (V:List Value) (h:V.length=18) (w:World):(Instr.build 72 #[(0,.int .i64 5),(4,.agg V.toArray)]).run prog w=.ok (.agg ([Value.int .i64 5,.int .u64 0,.slice none 0 0,.string { data:=#[] }]++(V++[Value.float .f64 0])).toArray) w:=by
 have hz:=i0k V 4 [Value.int .i64 5,.int .u64 0,.slice none 0 0,.string { data:=#[] },.bool false,.int .u8 0,.int .u8 0,.int .u8 0,.int .u8 0,.int .u8 0,.int .u8 0,.int .u8 0,.int .u8 0,.int .u8 0,.int .u8 0,.int .u8 0,.int .u8 0,.int .u8 0,.int .u8 0,.int .u8 0,.int .u8 0,.int .i64 0,.float .f64 0] (by rw[h];decide)
 rw[h] at hz
 have e:([Value.int .i64 5,.int .u64 0,.slice none 0 0,.string { data:=#[] },.bool false,.int .u8 0,.int .u8 0,.int .u8 0,.int .u8 0,.int .u8 0,.int .u8 0,.int .u8 0,.int .u8 0,.int .u8 0,.int .u8 0,.int .u8 0,.int .u8 0,.int .u8 0,.int .u8 0,.int .u8 0,.int .u8 0,.int .i64 0,.float .f64 0].take 4++V++[Value.int .i64 5,.int .u64 0,.slice none 0 0,.string { data:=#[] },.bool false,.int .u8 0,.int .u8 0,.int .u8 0,.int .u8 0,.int .u8 0,.int .u8 0,.int .u8 0,.int .u8 0,.int .u8 0,.int .u8 0,.int .u8 0,.int .u8 0,.int .u8 0,.int .u8 0,.int .u8 0,.int .u8 0,.int .i64 0,.float .f64 0].drop (4+18))=[Value.int .i64 5,.int .u64 0,.slice none 0 0,.string { data:=#[] }]++(V++[Value.float .f64 0]):=by
  show ([Value.int .i64 5,.int .u64 0,.slice none 0 0,.string { data:=#[] }]++V)++[Value.float .f64 0]=_
  rw[List.append_assoc]
 rw[e,show (4:Nat)=4+0 from rfl,←z0y] at hz
 clear e
 go_simp
theorem d1Y (P:Nat→Prop) (h0:P 0) (h1:P 1) (h2:P 2) (h3:P 3) (h4:P 4) (h5:P 5):∀j,j < 6→P j:=by
 intro j h
 have:j=0∨j=1∨j=2∨j=3∨j=4∨j=5:=by omega
 rcases this with rfl | rfl | rfl | rfl | rfl | rfl<;>assumption
theorem y0c (X:Nat→List Value) (h:∀j,j < 6→(X j).length=23):∃R:List Value,R.length=138∧(∀w,(Instr.buildSlice 98 6 #[(0,.agg (X 0).toArray),(1,.agg (X 1).toArray),(2,.agg (X 2).toArray),(3,.agg (X 3).toArray),(4,.agg (X 4).toArray),(5,.agg (X 5).toArray)]).run prog w=.ok (.slice (some ⟨w.heap.size,0,none⟩) 6 6) (w.alloc (.cells R.toArray 72))) ∧
  ∀j,j < 6→∀i v,(X j)[i]?=some v→R[j*23+i]?=some v:=by
 obtain⟨ie,hie,hsz⟩:∃ie,prog.info? 72=some ie∧ie.size=23:=by
  have:=c0T
  cases hi:prog.info? 72 with
  | none=>rw[hi] at this;cases this
  | some ie=>rw[hi] at this;exact⟨ie,rfl,Option.some.inj this⟩
 obtain⟨z,hz⟩:∃z,ie.zero=some z:=by
  have:(prog.info? 72).map (·.zero.isSome)=some true:=by kernel_rfl
  rw[hie] at this
  exact Option.isSome_iff_exists.1 (Option.some.inj this)
 obtain⟨r,h1,h2,h3⟩:=Great.fill_dense (s:=23) (by omega) [.agg (X 0).toArray,.agg (X 1).toArray,.agg (X 2).toArray,.agg (X 3).toArray,.agg (X 4).toArray,.agg (X 5).toArray] 0 ((Array.range (6*ie.size)).map (z.cells[· % z.cells.size]!))
  (by
   intro v hv
   simp only[List.mem_cons,List.not_mem_nil,or_false] at hv
   rcases hv with rfl | rfl | rfl | rfl | rfl | rfl<;>show (List.toArray _).size=23<;>rw[List.size_toArray]<;>exact h _ (by omega))
  (by rw[Array.size_map,Array.size_range,hsz];exact f1F _)
 rw[Array.size_map,Array.size_range,hsz] at h2
 refine⟨r.toList,by rw[Array.length_toList,h2],fun w=>?_,?_⟩
 ·rw[run_buildSlice w _ 72 6 _ r ie z underlying98 hie hz (by rw[hsz];decide) (by rw[hsz];decide) (by rw[hsz];exact hsz ▸ h1)]
 ·intro j hj i v hv
  have hi:i < 23:=by have:=(List.getElem?_eq_some_iff.1 hv).1;rw[h j hj] at this;exact this
  rw[Array.getElem?_toList,h3 (j*23+i),if_pos (by simp only[List.length_cons,List.length_nil];omega),show (j*23+i)/23 - 0=j by omega,show (j*23+i)%23=i by omega]
  have key:([.agg (X 0).toArray,.agg (X 1).toArray,.agg (X 2).toArray,.agg (X 3).toArray,.agg (X 4).toArray,.agg (X 5).toArray]:List Value)[j]?=some (.agg (X j).toArray) :=
   d1Y (fun j=>([.agg (X 0).toArray,.agg (X 1).toArray,.agg (X 2).toArray,.agg (X 3).toArray,.agg (X 4).toArray,.agg (X 5).toArray]:List Value)[j]?=some (.agg (X j).toArray)) rfl rfl rfl rfl rfl rfl j hj
  rw[key]
  show (X j).toArray[i]?=some v
  rw[List.getElem?_toArray];exact hv
@[go_sem] theorem x0Q {P:Program} {w:World} {a:Addr} (k:FloatKind) (b:Nat) (m:Mode):(store a (.float k b) m).run P w=stored P w a (.float k b) m:=run_store P w a _ m rfl
theorem r0k (s:List UInt8) (hs:s.length≤100000) (w:World) (hE:EnvX w):∃ps:List (List UInt8),c0o s=(if c0Y ps=true then some ps else none)∧(∀p∈ps,p.length≤s.length)∧ps.length≤33 ∧
  Calls prog 102 #[.string (bstr s),.string ⟨#[44]⟩,.int .i64 33] w fun e w'=>∃A c,e=.returned (.slice A ps.length c)∧Sl w' A c (a0F ps)∧(∀g,g < w.heap.size→∀a,A=some a→a.block≠g)∧Below w.heap.size w w':=by
 obtain⟨m,hm⟩:=hE
 have h:=Tryz.strings_SplitN (bstr s) (bstr [44]) 33 m w (by rw[a0c];omega) hm (f1F 1) (by omega) (by omega)
 rw[a0c] at h
 obtain⟨ps,e1,e2,e3,e4⟩:=p0y s
 rw[e1,List.length_map] at h
 refine⟨ps,e2,e3,by omega,h.mono ?_⟩
 rintro e w' ⟨rfl,rfl⟩
 have e5:Lib.cellsOf (ps.map bstr) (min 33 (s.length+1))=(a0F ps++List.replicate (min 33 (s.length+1) - ps.length) (Value.string ByteArray.empty)).toArray:=by
  unfold Lib.cellsOf a0F
  rw[List.map_map,List.length_map];rfl
 rw[e5]
 exact⟨_,_,rfl,(d0c (t:=9) _ rfl (min 33 (s.length+1)) (by rw[List.length_append,a0w,List.length_replicate];omega)).pre,(fun g hg a ha=>by cases ha;exact Nat.ne_of_gt hg),(Below.refl _ w).alloc (f1F _) _⟩
theorem u0R (s:List UInt8) (hs:s.length≤2100) (w:World) (hE:EnvX w):Calls prog 68 #[.string (bstr s)] w (j0q (c0o s) w):=by
 have hz:=a0c s
 obtain⟨ps,hv,hp,hlen,hsp⟩:=r0k s (by omega) w hE
 have hsp:=f1D hsp
 have hri:=f1D (fun A c w'=>a1W ps (fun p hq=>by have:=hp p hq;omega) (by omega) A c w')
 have HV:=f1D hv
 generalize c0o s=V at *
 clear hE hs hlen hv hp
 cases hr:c0Y ps with
 | true =>
  have HW:=f1D (HV.out.trans (if_pos hr))
  rw[hr] at hri
  clear HV hr
  go_enter func68,ntmps68
  go_wp2_with (first
   | (go_at_call 102;refine hsp.out.mono ?_;rintro e w1 ⟨A,c,rfl,hsl,hap,hb1⟩;have hap:=f1D hap)
   | (go_at_call 103;refine (hri.out A c w1 hsl).mono ?_;rintro e w' ⟨rfl,hq⟩;have hsl:=hsl.later (f1F _) hq;have hb2:=hb1.trans (hq.mono hb1.size)))
  go_ret2
  exact⟨A,c,by rw[HW.out];rfl,by rw[HW.out];exact hsl,hap.out,hb2⟩
 | false =>
  have HW:=f1D (HV.out.trans (if_neg (by rw[hr];decide)))
  rw[hr] at hri
  clear HV hr
  go_enter func68,ntmps68
  go_wp2_with (first
   | (go_at_call 102;refine hsp.out.mono ?_;rintro e w1 ⟨A,c,rfl,hsl,hap,hb1⟩;have hap:=f1D hap)
   | (go_at_call 103;refine (hri.out A c w1 hsl).mono ?_;rintro e w' ⟨rfl,hq⟩;have hb2:=hb1.trans (hq.mono hb1.size)))
  go_ret2
  exact⟨none,0,by rw[HW.out];rfl,by rw[HW.out];exact c0q _,fun g _ a ha=>(by cases ha),hb2⟩
theorem h0T {α:Type} (o:Option α) (z:α) (f:α→Prd) (x:Prd) (h:o.map f=some x):f (o.getD z)=x:=by
 cases o with
 | none=>cases h
 | some a=>exact Option.some.inj h
theorem f0i (q:Prd) (ho:q.Ok) (hn:q.names=[]) (h0:0≤q.kind) (h7:q.kind≤7) (hp:q.path.length≤4000) (w:World):f0N w q none 0 :=
 ⟨ho,by rw[hn];exact c0q w,by omega,by omega,hp,by rw[hn];show (0:Nat)≤4000;omega⟩
def j0p (o:Option Prd) (w:World) (e:Ending) (w':World):Prop :=
 ∃(q:Prd) (A:Option Addr) (c:Nat),e=.returned (.tuple #[.agg (prdV q A c).toArray,.bool o.isSome])∧f0N w' q A c∧(∀g,g < w.heap.size→∀a,A=some a→a.block≠g)∧(∀x,o=some x→q=x)∧Below w.heap.size w w'
theorem a1t (a b:List UInt8) (hb:b.length≤1000) (hpr:a=[112,97,116,104]→∀w',Calls prog 69 #[.string (bstr b)] w' fun e w''=>e=.returned (.bool (b0X b))∧Below w'.heap.size w' w'')
  (hne:a=[110,101,116]→∀w',Env w'→Calls prog 70 #[.string (bstr b)] w' fun e w''=>e=.returned (j0k (b0u b))∧Below w'.heap.size w' w'')
  (hco:a=[99,111,115,116]→∀w',EnvD w'→Calls prog 71 #[.string (bstr b)] w' fun e w''=>e=.returned (.tuple #[.float .f64 ((b0t b).getD 0),.bool (b0t b).isSome])∧Below w'.heap.size w' w'')
  (w:World) (hE:EnvQ w):Calls prog 44 #[.string (bstr a),.string (bstr b)] w (j0p (g0G a b) w):=by
 replace hpr:=f1D hpr
 replace hne:=f1D hne
 replace hco:=f1D hco
 obtain⟨Z,hZ⟩:∃Z,Z=prdV g0g none 0:=⟨_,rfl⟩
 have hZe:=hZ.trans j0G
 obtain⟨w1,hw1⟩:∃w1,w1=w.alloc (.cells Z.toArray 72):=⟨_,rfl⟩
 have r1:Row w1 w.heap.size 72 Z:=by rw[hw1];exact Row.new w _ _
 have hb1:Below w.heap.size w w1:=by rw[hw1];exact (Below.refl _ w).alloc (f1F _) _
 have HW:=f1D (hw1.trans (show w.alloc (.cells Z.toArray 72)=w.alloc (.cells [Value.int .i64 0,.int .u64 0,.slice none 0 0,.string { data:=#[] },.bool false,.int .u8 0,.int .u8 0,.int .u8 0,.int .u8 0,.int .u8 0,.int .u8 0,.int .u8 0,.int .u8 0,.int .u8 0,.int .u8 0,.int .u8 0,.int .u8 0,.int .u8 0,.int .u8 0,.int .u8 0,.int .u8 0,.int .i64 0,.float .f64 0].toArray 72) by rw[hZe]))
 have tok1:True:=trivial
 obtain⟨o,HO⟩:∃o,o=g0G a b:=⟨_,rfl⟩
 rw[←HO]
 replace HO:=f1D HO
 replace hZ:=f1D hZ
 replace hZe:=f1D hZe
 have c0:w1.cell? ⟨w.heap.size,0,none⟩=some (.int .i64 0):=by rw[r1.cell,hZe.out];rfl
 have f0:=r1.free 0
 clear hw1
 go_enter func44,ntmps44
 go_upto_block 0 with (have _t:=tok1;rw[←HW.out];clear tok1)
 clear HW
 go_cut [5] (fun y wx=>∃q A c,y=.bool o.isSome∧Row wx w.heap.size 72 (prdV q A c)∧f0N wx q A c∧(∀g,g≤w.heap.size→∀a,A=some a→a.block≠g)∧(∀x,o=some x→q=x)∧Below w.heap.size w wx)
 case first =>
  replace HO:=HO.out
  by_cases e1:a=[98,101,102,111,114,101]
  ·subst e1
   have HV:g0G [98,101,102,111,114,101] b=((a0J b).map fun n=>⟨1,n,[],[],a0T,0⟩):=rfl
   rw[HV] at HO
   have b1:=(a0Q [98,101,102,111,114,101] [98,101,102,111,114,101]).trans (decide_eq_true rfl)
   have ho:(⟨1,(a0J b).getD 0,[],[],a0T,0⟩:Prd).Ok:=⟨c0a,f0G b,by show (0:Nat) < 2^64;decide⟩
   have HP:=f1D (show (a0J b).isSome=o.isSome∧∀x,o=some x→(⟨1,(a0J b).getD 0,[],[],a0T,0⟩:Prd)=x from ⟨by rw[HO,Option.isSome_map],fun x hx=>h0T (a0J b) 0 (fun n=>⟨1,n,[],[],a0T,0⟩) x (by rw[←HO];exact hx)⟩)
   have hcon:=fun w' h=>l0m b (by omega) w' h
   rw[show o0L (a0J b)=.tuple #[.int .u64 (((a0J b).getD 0:Nat):Int),.bool (a0J b).isSome] from rfl] at hcon
   have hcon:=f1D hcon
   clear HV HO
   generalize (a0J b).getD 0=n at *
   generalize (a0J b).isSome=ok at *
   generalize bstr [98,101,102,111,114,101]=S at *
   go_wp2_with (first
    | (go_at_call 67;refine (hcon.out _ (hE.next (hb1.setCell (p:=⟨w.heap.size,0,none⟩) (f1F _) (.int .i64 1))).n).mono ?_;rintro e w3 ⟨rfl,hq3⟩;have r3:=(r1.set 0 (.int .i64 1)).later hq3 (r1.set 0 (.int .i64 1)).lt;have hb3:=(hb1.setCell (p:=⟨w.heap.size,0,none⟩) (f1F _) (.int .i64 1)).trans (hq3.mono (hb1.setCell (p:=⟨w.heap.size,0,none⟩) (f1F _) (.int .i64 1)).size);have c1:w3.cell? ⟨w.heap.size,1,none⟩=some (.int .u64 0):=(by rw[r3.cell,hZe.out];rfl);have f1:=r3.free 1;clear hq3))
   go_meet
   case rel=>exact⟨(⟨1,n,[],[],a0T,0⟩:Prd),none,0,by rw[←HP.out.1],(show prdV (⟨1,n,[],[],a0T,0⟩:Prd) none 0=(Z.set 0 (.int .i64 1)).set 1 (.int .u64 (n:Int)) by rw[hZ.out];rfl) ▸ r3.set 1 _,f0i _ ho rfl (by show (0:Int)≤1;decide) (by show (1:Int)≤7;decide) (by show (0:Nat)≤4000;omega) _,fun g _ a ha=>(by cases ha),HP.out.2,hb3.setCell (p:=⟨w.heap.size,1,none⟩) (f1F _) _⟩
  by_cases e2:a=[115,105,110,99,101]
  ·subst e2
   have HV:g0G [115,105,110,99,101] b=((a0J b).map fun n=>⟨2,n,[],[],a0T,0⟩):=rfl
   rw[HV] at HO
   have b1:=(a0Q [115,105,110,99,101] [98,101,102,111,114,101]).trans (decide_eq_false (by decide))
   have b2:=(a0Q [115,105,110,99,101] [115,105,110,99,101]).trans (decide_eq_true rfl)
   have ho:(⟨2,(a0J b).getD 0,[],[],a0T,0⟩:Prd).Ok:=⟨c0a,f0G b,by show (0:Nat) < 2^64;decide⟩
   have HP:=f1D (show (a0J b).isSome=o.isSome∧∀x,o=some x→(⟨2,(a0J b).getD 0,[],[],a0T,0⟩:Prd)=x from ⟨by rw[HO,Option.isSome_map],fun x hx=>h0T (a0J b) 0 (fun n=>⟨2,n,[],[],a0T,0⟩) x (by rw[←HO];exact hx)⟩)
   have hcon:=fun w' h=>l0m b (by omega) w' h
   rw[show o0L (a0J b)=.tuple #[.int .u64 (((a0J b).getD 0:Nat):Int),.bool (a0J b).isSome] from rfl] at hcon
   have hcon:=f1D hcon
   clear HV HO
   generalize (a0J b).getD 0=n at *
   generalize (a0J b).isSome=ok at *
   generalize bstr [115,105,110,99,101]=S at *
   go_wp2_with (first
    | (go_at_call 67;refine (hcon.out _ (hE.next (hb1.setCell (p:=⟨w.heap.size,0,none⟩) (f1F _) (.int .i64 2))).n).mono ?_;rintro e w3 ⟨rfl,hq3⟩;have r3:=(r1.set 0 (.int .i64 2)).later hq3 (r1.set 0 (.int .i64 2)).lt;have hb3:=(hb1.setCell (p:=⟨w.heap.size,0,none⟩) (f1F _) (.int .i64 2)).trans (hq3.mono (hb1.setCell (p:=⟨w.heap.size,0,none⟩) (f1F _) (.int .i64 2)).size);have c1:w3.cell? ⟨w.heap.size,1,none⟩=some (.int .u64 0):=(by rw[r3.cell,hZe.out];rfl);have f1:=r3.free 1;clear hq3))
   go_meet
   case rel=>exact⟨(⟨2,n,[],[],a0T,0⟩:Prd),none,0,by rw[←HP.out.1],(show prdV (⟨2,n,[],[],a0T,0⟩:Prd) none 0=(Z.set 0 (.int .i64 2)).set 1 (.int .u64 (n:Int)) by rw[hZ.out];rfl) ▸ r3.set 1 _,f0i _ ho rfl (by show (0:Int)≤2;decide) (by show (2:Int)≤7;decide) (by show (0:Nat)≤4000;omega) _,fun g _ a ha=>(by cases ha),HP.out.2,hb3.setCell (p:=⟨w.heap.size,1,none⟩) (f1F _) _⟩
  by_cases e3:a=[111,112]
  ·subst e3
   have HV:g0G [111,112] b=((c0o b).map fun l=>⟨3,0,l,[],a0T,0⟩):=rfl
   rw[HV] at HO
   have b1:=(a0Q [111,112] [98,101,102,111,114,101]).trans (decide_eq_false (by decide))
   have b2:=(a0Q [111,112] [115,105,110,99,101]).trans (decide_eq_false (by decide))
   have b3:=(a0Q [111,112] [111,112]).trans (decide_eq_true rfl)
   have hsum:=k0x b (by omega)
   have ho:(⟨3,0,(c0o b).getD [],[],a0T,0⟩:Prd).Ok:=⟨c0a,by show (0:Nat) < 2^64;decide,by show (0:Nat) < 2^64;decide⟩
   have HP:=f1D (show (c0o b).isSome=o.isSome∧∀x,o=some x→(⟨3,0,(c0o b).getD [],[],a0T,0⟩:Prd)=x from ⟨by rw[HO,Option.isSome_map],fun x hx=>h0T (c0o b) [] (fun l=>⟨3,0,l,[],a0T,0⟩) x (by rw[←HO];exact hx)⟩)
   have hcon:=fun w' h=>u0R b (by omega) w' h
   unfold j0q at hcon
   have hcon:=f1D hcon
   clear HV HO
   generalize (c0o b).getD []=l at *
   generalize (c0o b).isSome=ok at *
   generalize bstr [111,112]=S at *
   go_wp2_with (first
    | (go_at_call 68;refine (hcon.out _ (hE.next (hb1.setCell (p:=⟨w.heap.size,0,none⟩) (f1F _) (.int .i64 3))).x).mono ?_;rintro e w3 ⟨A,c,rfl,sl3,hap,hq3⟩;have r3:=(r1.set 0 (.int .i64 3)).later hq3 (r1.set 0 (.int .i64 3)).lt;have hb3:=(hb1.setCell (p:=⟨w.heap.size,0,none⟩) (f1F _) (.int .i64 3)).trans (hq3.mono (hb1.setCell (p:=⟨w.heap.size,0,none⟩) (f1F _) (.int .i64 3)).size);have HAP:=f1D (fun g (hg:g≤w.heap.size)=>hap g (Nat.lt_of_le_of_lt hg (r1.set 0 (.int .i64 3)).lt));have SL3:=f1D sl3;clear sl3 hap;have c1:w3.cell? ⟨w.heap.size,2,none⟩=some (.slice none 0 0):=(by rw[r3.cell,hZe.out];rfl);have f1:=r3.free 2;clear hq3))
   go_meet
   case rel=>exact⟨(⟨3,0,l,[],a0T,0⟩:Prd),A,c,by rw[←HP.out.1],(show prdV (⟨3,0,l,[],a0T,0⟩:Prd) A c=(Z.set 0 (.int .i64 3)).set 2 (.slice A l.length c) by rw[hZ.out];rfl) ▸ r3.set 2 _,(show f0N w3 (⟨3,0,l,[],a0T,0⟩:Prd) A c from ⟨ho,SL3.out,by show (-9223372036854775808:Int)≤3;decide,by show (3:Int)≤9223372036854775807;decide,by show (0:Nat)≤4000;omega,hsum⟩).apart (a0q _ _ _ _) (HAP.out _ (f1F _)),HAP.out,HP.out.2,hb3.setCell (p:=⟨w.heap.size,2,none⟩) (f1F _) _⟩
  by_cases e4:a=[112,97,116,104]
  ·subst e4
   have HV:g0G [112,97,116,104] b=(if b0X b=true then some ⟨4,0,[],b,a0T,0⟩ else none):=rfl
   rw[HV] at HO
   have b1:=(a0Q [112,97,116,104] [98,101,102,111,114,101]).trans (decide_eq_false (by decide))
   have b2:=(a0Q [112,97,116,104] [115,105,110,99,101]).trans (decide_eq_false (by decide))
   have b3:=(a0Q [112,97,116,104] [111,112]).trans (decide_eq_false (by decide))
   have b4:=(a0Q [112,97,116,104] [112,97,116,104]).trans (decide_eq_true rfl)
   have ho:(⟨4,0,[],b,a0T,0⟩:Prd).Ok:=⟨c0a,by show (0:Nat) < 2^64;decide,by show (0:Nat) < 2^64;decide⟩
   have HP:=f1D (show b0X b=o.isSome∧∀x,o=some x→(⟨4,0,[],b,a0T,0⟩:Prd)=x from by
    rw[HO]
    cases b0X b with
    | true=>exact⟨rfl,fun x hx=>Option.some.inj hx⟩
    | false=>exact⟨rfl,fun x hx=>by cases hx⟩)
   have hcon:=f1D (hpr.out rfl)
   clear HV HO
   generalize b0X b=ok at *
   generalize bstr [112,97,116,104]=S at *
   go_wp2_with (first
    | (go_at_call 69;refine (hcon.out _).mono ?_;rintro e w3 ⟨rfl,hq3⟩;have r3:=(r1.set 0 (.int .i64 4)).later hq3 (r1.set 0 (.int .i64 4)).lt;have hb3:=(hb1.setCell (p:=⟨w.heap.size,0,none⟩) (f1F _) (.int .i64 4)).trans (hq3.mono (hb1.setCell (p:=⟨w.heap.size,0,none⟩) (f1F _) (.int .i64 4)).size);have c1:w3.cell? ⟨w.heap.size,3,none⟩=some (.string { data:=#[] }):=(by rw[r3.cell,hZe.out];rfl);have f1:=r3.free 3;clear hq3))
   go_meet
   case rel=>exact⟨(⟨4,0,[],b,a0T,0⟩:Prd),none,0,by rw[←HP.out.1],(show prdV (⟨4,0,[],b,a0T,0⟩:Prd) none 0=(Z.set 0 (.int .i64 4)).set 3 (.string (bstr b)) by rw[hZ.out];rfl) ▸ r3.set 3 _,f0i _ ho rfl (by show (0:Int)≤4;decide) (by show (4:Int)≤7;decide) (by show b.length≤4000;omega) _,fun g _ a ha=>(by cases ha),HP.out.2,hb3.setCell (p:=⟨w.heap.size,3,none⟩) (f1F _) _⟩
  by_cases e5:a=[110,101,116]
  ·subst e5
   have HV:g0G [110,101,116] b=((b0u b).map fun r=>⟨5,0,[],[],r,0⟩):=rfl
   rw[HV] at HO
   have b1:=(a0Q [110,101,116] [98,101,102,111,114,101]).trans (decide_eq_false (by decide))
   have b2:=(a0Q [110,101,116] [115,105,110,99,101]).trans (decide_eq_false (by decide))
   have b3:=(a0Q [110,101,116] [111,112]).trans (decide_eq_false (by decide))
   have b4:=(a0Q [110,101,116] [112,97,116,104]).trans (decide_eq_false (by decide))
   have b5:=(a0Q [110,101,116] [110,101,116]).trans (decide_eq_true rfl)
   have ho:(⟨5,0,[],[],(b0u b).getD a0T,0⟩:Prd).Ok:=g0R b _ (j0s b 4 (by omega))
   have HP:=f1D (show (b0u b).isSome=o.isSome∧∀x,o=some x→(⟨5,0,[],[],(b0u b).getD a0T,0⟩:Prd)=x from ⟨by rw[HO,Option.isSome_map],fun x hx=>h0T (b0u b) a0T (fun r=>⟨5,0,[],[],r,0⟩) x (by rw[←HO];exact hx)⟩)
   have hcon:=hne.out rfl
   rw[o0P] at hcon
   have hcon:=f1D hcon
   clear HV HO
   generalize (b0u b).isSome=ok at *
   generalize (b0u b).getD a0T=r at *
   obtain⟨N,hN⟩:∃N,N=rngV r:=⟨_,rfl⟩
   have hNl:=f1D (show N.length=18 by rw[hN];exact a0C _ ho.net.a)
   have hzN:=f1D (show (prog.info? 69).map (·.size)=some N.length by rw[hNl.out];exact c0n)
   have hN1:=f1D (show ∀v∈N,v.oneCell'=true by rw[hN];exact s0h r)
   have HN:=f1D hN
   rw[←hN] at hcon
   clear hN
   generalize bstr [110,101,116]=S at *
   have hZl:=f1D (show (Z.set 0 (.int .i64 5)).length=23 by rw[hZe.out];rfl)
   have HSP:=f1D (show splice (Z.set 0 (.int .i64 5)) 4 N=prdV (⟨5,0,[],[],r,0⟩:Prd) none 0 by unfold splice;rw[hNl.out,HN.out,hZ.out];rfl)
   go_wp2_with (first
    | (go_at_call 70;refine (hcon.out _ (hE.next (hb1.setCell (p:=⟨w.heap.size,0,none⟩) (f1F _) (.int .i64 5))).a).mono ?_;rintro e w3 ⟨rfl,hq3⟩;have r3:=(r1.set 0 (.int .i64 5)).later hq3 (r1.set 0 (.int .i64 5)).lt;have hb3:=(hb1.setCell (p:=⟨w.heap.size,0,none⟩) (f1F _) (.int .i64 5)).trans (hq3.mono (hb1.setCell (p:=⟨w.heap.size,0,none⟩) (f1F _) (.int .i64 5)).size);clear hq3)
    | ((with_reducible refine wpList_step fun K hK=>?_);refine a0R none rfl (by rfl) 69 (.tmp 49) (.tmp 47) rfl w.heap.size 4 72 _ N rfl rfl r3 (by rw[hNl.out,hZl.out];omega) hzN.out hN1.out ?_;intro w4 r4 hg4;rw[HSP.out] at r4;refine hK _ _ ?_;clear hK;have hb4:=hb3.grown hg4 hb3.size (fun k h=>by cases h;exact f1F _);clear r3 hb3 hg4))
   go_meet
   case rel=>exact⟨(⟨5,0,[],[],r,0⟩:Prd),none,0,by rw[←HP.out.1],r4,f0i _ ho rfl (by show (0:Int)≤5;decide) (by show (5:Int)≤7;decide) (by show (0:Nat)≤4000;omega) _,fun g _ a ha=>(by cases ha),HP.out.2,hb4⟩
  by_cases e6:a=[99,111,115,116]
  ·subst e6
   have HV:g0G [99,111,115,116] b=((b0t b).map fun c=>⟨6,0,[],[],a0T,c⟩):=rfl
   rw[HV] at HO
   have b1:=(a0Q [99,111,115,116] [98,101,102,111,114,101]).trans (decide_eq_false (by decide))
   have b2:=(a0Q [99,111,115,116] [115,105,110,99,101]).trans (decide_eq_false (by decide))
   have b3:=(a0Q [99,111,115,116] [111,112]).trans (decide_eq_false (by decide))
   have b4:=(a0Q [99,111,115,116] [112,97,116,104]).trans (decide_eq_false (by decide))
   have b5:=(a0Q [99,111,115,116] [110,101,116]).trans (decide_eq_false (by decide))
   have b6:=(a0Q [99,111,115,116] [99,111,115,116]).trans (decide_eq_true rfl)
   have ho:(⟨6,0,[],[],a0T,(b0t b).getD 0⟩:Prd).Ok:=g0R b _ (j0s b 5 (by omega))
   have HP:=f1D (show (b0t b).isSome=o.isSome∧∀x,o=some x→(⟨6,0,[],[],a0T,(b0t b).getD 0⟩:Prd)=x from ⟨by rw[HO,Option.isSome_map],fun x hx=>h0T (b0t b) 0 (fun c=>⟨6,0,[],[],a0T,c⟩) x (by rw[←HO];exact hx)⟩)
   have hcon:=f1D (hco.out rfl)
   clear HV HO
   generalize (b0t b).getD 0=f at *
   generalize (b0t b).isSome=ok at *
   generalize bstr [99,111,115,116]=S at *
   go_wp2_with (first
    | (go_at_call 71;refine (hcon.out _ (hE.next (hb1.setCell (p:=⟨w.heap.size,0,none⟩) (f1F _) (.int .i64 6))).d).mono ?_;rintro e w3 ⟨rfl,hq3⟩;have r3:=(r1.set 0 (.int .i64 6)).later hq3 (r1.set 0 (.int .i64 6)).lt;have hb3:=(hb1.setCell (p:=⟨w.heap.size,0,none⟩) (f1F _) (.int .i64 6)).trans (hq3.mono (hb1.setCell (p:=⟨w.heap.size,0,none⟩) (f1F _) (.int .i64 6)).size);have c1:w3.cell? ⟨w.heap.size,22,none⟩=some (.float .f64 0):=(by rw[r3.cell,hZe.out];rfl);have f1:=r3.free 22;clear hq3))
   go_meet
   case rel=>exact⟨(⟨6,0,[],[],a0T,f⟩:Prd),none,0,by rw[←HP.out.1],(show prdV (⟨6,0,[],[],a0T,f⟩:Prd) none 0=(Z.set 0 (.int .i64 6)).set 22 (.float .f64 f) by rw[hZ.out];rfl) ▸ r3.set 22 _,f0i _ ho rfl (by show (0:Int)≤6;decide) (by show (6:Int)≤7;decide) (by show (0:Nat)≤4000;omega) _,fun g _ a ha=>(by cases ha),HP.out.2,hb3.setCell (p:=⟨w.heap.size,22,none⟩) (f1F _) _⟩
  have HV:g0G a b=none:=by unfold g0G;rw[if_neg e1,if_neg e2,if_neg e3,if_neg e4,if_neg e5,if_neg e6]
  rw[HV] at HO
  have b1:=(a0Q a [98,101,102,111,114,101]).trans (decide_eq_false e1)
  have b2:=(a0Q a [115,105,110,99,101]).trans (decide_eq_false e2)
  have b3:=(a0Q a [111,112]).trans (decide_eq_false e3)
  have b4:=(a0Q a [112,97,116,104]).trans (decide_eq_false e4)
  have b5:=(a0Q a [110,101,116]).trans (decide_eq_false e5)
  have b6:=(a0Q a [99,111,115,116]).trans (decide_eq_false e6)
  clear e1 e2 e3 e4 e5 e6
  have HP:=f1D (show false=o.isSome∧∀x,o=some x→g0g=x from ⟨by rw[HO];rfl,fun x hx=>by rw[HO] at hx;cases hx⟩)
  clear HV HO
  generalize bstr a=S at *
  go_wp2
  go_meet
  case rel=>exact⟨g0g,none,0,by rw[←HP.out.1],hZ.out ▸ r1,i0O _,fun g _ a ha=>(by cases ha),HP.out.2,hb1⟩
 case rest =>
 obtain⟨q,A,c,rfl,r4,hpa,hap,hv,hb4⟩:=hcut
 have HAP:=f1D hap
 have HPA:=f1D hpa
 have HVV:=f1D hv
 obtain⟨V,hV⟩:∃V,V=prdV q A c:=⟨_,rfl⟩
 rw[←hV] at r4
 have hVl:=f1D (show (prog.info? 72).map (·.size)=some V.length by rw[hV,b0f _ hpa.ok.net.a];exact c0T)
 have hzV:=f1D (show (prog.info? 72).map (·.size)=some V.toArray.size by rw[List.size_toArray];exact hVl.out)
 have hV1:=f1D (show V.toArray.all (·.oneCell')=true by rw[hV];exact d0W _ _ _)
 have HV:=f1D hV
 have Q4:=f1D (show wc.heap[w.heap.size]?=some (.cells V.toArray 72 (0,0)) from r4)
 have K4:=f1D (a0i r4)
 clear r4 hpa hap hv hV c0 f0 r1 hb1
 go_wp2_with (first
  | (with_reducible refine wpList_load_mid rfl 72 (.tmp 4) rfl w.heap.size 0 rfl V _ K4.out underlying72 rfl hVl.out ?_)
  | (with_reducible refine wpList_store_row rfl 72 (.tmp 4) (.tmp 59) rfl w.heap.size V.toArray rfl rfl 72 V.toArray Q4.out hzV.out rfl hV1.out ?_;refine Hid.out ?_))
 refine f1D ?_
 generalize hw8:World.setRow _ _ _=w8
 obtain⟨r8,hg8⟩:=a0y (show Row wc w.heap.size 72 V from Q4.out) hw8
 have hb8:=hb4.grown hg8 hb4.size (fun k h=>by cases h;exact f1F _)
 have R8:=f1D (show w8.heap[w.heap.size]?=some (.cells V.toArray 72 (0,0)) from r8)
 clear hw8 r8 Q4 K4
 go_wp2_with fail
 exact⟨rfl,_,a0d rfl _ _ w.heap.size 72 V.toArray (0,0) _ rfl R8.out underlying72 rfl hzV.out _ rfl,q,A,c,by rw[HV.out];rfl,HPA.out.apart hg8 (HAP.out _ (f1F _)),fun g hg=>HAP.out g (Nat.le_of_lt hg),HVV.out,hb8⟩
theorem q0F (a b:List UInt8) (hb:b.length≤1000) (w:World) (hE:EnvQ w):Calls prog 44 #[.string (bstr a),.string (bstr b)] w (j0p (g0G a b) w) :=
 a1t a b hb (fun _ w'=>t0X b (by omega) w') (fun _ w' h=>n0A b (by omega) w' h) (fun _ w' h=>s0Q b (by omega) w' h) w hE
end Go.Proofs.YtcbilopdeiapjaaGreatDoor
