import Derived.Test.YtcbilopdeiapjaaGreatDoorRgaw
import Derived.Lib.AppendIntMem
set_option maxHeartbeats 16000000
set_option maxRecDepth 100000
open Go.Proofs.Tryz
namespace Go.Proofs.YtcbilopdeiapjaaGreatDoor
open Go Go.RowKit
theorem m0C (s:List UInt8) (h:d0i s=none) (k:Nat) (hk:k+1 < s.length):¬(s.getD k 0=58∧s.getD (k+1) 0=58):=by
 induction s generalizing k with
 | nil=>simp at hk
 | cons c s ih =>
  cases s with
  | nil=>simp at hk
  | cons d s =>
   by_cases hcd:c=58∧d=58
   ·have:d0i (c :: d :: s)=some 0:=if_pos hcd
    rw[this] at h;cases h
   ·rw[f0A c d s hcd,Option.map_eq_none_iff] at h
    cases k with
    | zero=>exact hcd
    | succ k=>exact ih h k (by simpa using hk)
theorem o0M {o:Option (List Nat)} {base:Nat} {v:Value} {w:World} (h:h0r o base v w) (h4:∀l,o=some l→l.length≠4):∃A c,∃n:Nat,∃b,v=.tuple #[.slice A n c,.bool b]∧(b=true→((n:Int)==4)=false):=by
 cases o with
 | none=>exact⟨none,0,0,false,h,fun e=>by cases e⟩
 | some l =>
  obtain⟨u,rfl,ho⟩:=h
  obtain⟨A,c,rfl,-,-⟩:=Sl.of_own ho
  exact⟨A,c,l.length,true,rfl,fun _=>by rw[beq_eq_false_iff_ne];have:=h4 l rfl;omega⟩
theorem j0b (s:List UInt8) (hs:s.length≤1000) (hn4:∀l,a0B 10 3 255 46 s=some l→l.length≠4) (hf:d0i s=none) (w:World) :
  Calls prog 78 #[.string (bstr s)] w fun e w'=>e=.returned (k0D (c0s s))∧Below w.heap.size w w':=by
 have hz:=a0c s
 have hnum:=f1D (fun w'=>f0w s hs w')
 have hnum6:=f1D (fun w'=>f0x s hs w')
 have HP0:=f1D (show c0s s=match a0B 16 4 65535 58 s with | none=>none | some l=>if l.length=8∧a0Y (sixA l)=s then some (sixA l) else none by unfold c0s;rw[hf];cases a0B 16 4 65535 58 s<;>rfl)
 have HC:=f1D (m0C s hf)
 have r0:Row (w.alloc (.cells (adrV a0K).toArray 67)) w.heap.size 67 (adrV a0K):=Row.new w _ _
 have hb0:Below w.heap.size w (w.alloc (.cells (adrV a0K).toArray 67)):=(Below.refl _ w).alloc (f1F _) _
 clear hf
 go_enter func78,ntmps78
 go_upto_region 2 with (go_at_call 114;refine (hnum.out _).mono ?_;rintro e w3 ⟨v3,rfl,hv3,hb3⟩;obtain⟨A0,c0,n0,b0,rfl,hn0⟩:=o0M hv3 hn4;have hr3:=r0.later hb3 r0.lt;have hb3:=hb0.trans (hb3.mono hb0.size);clear hv3)
 clear r0 hb0 hnum hn4
 go_cut [4,5,22] (fun _ _ y wx=>y=.bool false∧w3=wx)
 case first =>
  cases b0
  ·clear hn0
   go_wp2
   go_meet
   case rel=>exact⟨rfl,rfl⟩
  ·have h4':=hn0 rfl
   clear hn0
   go_wp2
   go_meet
   case rel=>exact⟨rfl,rfl⟩
 case rest =>
 obtain⟨rfl,rfl⟩:=hcut
 clear hn0
 go_wp2
 go_loopw [6,7] (fun v i wr=>v=.int .i64 (-1)∧∃k:Nat,k≤s.length∧i=.int .i64 k∧Row wr w.heap.size 67 (adrV a0K)∧Below w.heap.size w wr) (fun _ i _=>s.length - (intOf i).toNat)
 case atStart=>exact⟨rfl,0,by omega,rfl,hr3,hb3⟩
 case round =>
  clear hr3 hb3
  obtain⟨rfl,k,hk,rfl,hr4,hb4⟩:=hrel
  have hw1:IntKind.i64.wrap ((k:Int)+1)=(k:Int)+1:=by rw[IntKind.wrap_i64];omega
  by_cases hlt:k+1 < s.length
  ·have hlt':(k:Int)+1 < (s.length:Int):=by omega
   have hix1:=a0V s k (by omega)
   have hix2:∀w,(Instr.index 9 (.string (bstr s)) (.int .i64 ((k:Int)+1))).run prog w=.ok (.int .u8 ((s.getD (k+1) 0).toNat:Int)) w:=a0V s (k+1) hlt
   have hno:=HC.out k hlt
   generalize s.getD k 0=x at *
   generalize s.getD (k+1) 0=y at *
   by_cases hx:x=58
   ·have hy:((y.toNat:Int)==58)=false:=by
     rw[beq_eq_false_iff_ne]
     intro h
     exact hno ⟨hx,UInt8.toNat_inj.1 (by show y.toNat=58;omega)⟩
    have hxe:((x.toNat:Int)==58)=true:=by rw[hx];rfl
    clear hno hx
    go_wp2
    go_roundw
    case rel=>exact⟨rfl,k+1,by omega,by go_num,hr4,hb4⟩
    case measure=>simp[intOf];omega
   ·have hxe:((x.toNat:Int)==58)=false:=by
     rw[beq_eq_false_iff_ne]
     intro h
     exact hx (UInt8.toNat_inj.1 (by show x.toNat=58;omega))
    clear hno hx
    go_wp2
    go_roundw
    case rel=>exact⟨rfl,k+1,by omega,by go_num,hr4,hb4⟩
    case measure=>simp[intOf];omega
  ·have hge:(s.length:Int)≤(k:Int)+1:=by omega
   have hzz:=f1D (show (prog.info? 67).map (·.size)=some (adrV a0K).toArray.size by rw[b0b,List.size_toArray,a0m b0O])
   have HZ1:=f1D (show (adrV a0K).toArray.all (·.oneCell')=true from b0d (c0O _))
   cases hn6:a0B 16 4 65535 58 s with
   | none =>
    have HP:=f1D (show c0s s=none by rw[HP0.out,hn6])
    rw[hn6] at hnum6
    go_wp2_with (first
     | (go_at_call 114;refine (hnum6.out _).mono ?_;rintro e w5 ⟨v5,rfl,rfl,hb5⟩;have hr5:=hr4.later hb5 hr4.lt;have hb5:=hb4.trans (hb5.mono hb4.size);have H5:=f1D (show w5.heap[w.heap.size]?=some (.cells (adrV a0K).toArray 67 (0,0)) from hr5))
     | (with_reducible refine wpList_store_row rfl 67 (.tmp 2) (.tmp 85) rfl w.heap.size _ rfl rfl 67 (adrV a0K).toArray H5.out (by kernel_rfl) (by kernel_rfl) (by kernel_rfl) ?_;refine Hid.out ?_))
    refine f1D ?_
    generalize hw6:World.setRow _ _ _=w6
    obtain⟨r6,hg6⟩:=a0y hr5 (show World.setRow _ w.heap.size (adrV a0K).toArray=w6 from hw6)
    have hb6:=hb5.grown hg6 hb5.size (fun k h=>by cases h;exact f1F _)
    have R6:=f1D (show w6.heap[w.heap.size]?=some (.cells (adrV a0K).toArray 67 (0,0)) from r6)
    clear hw6 r6 hg6
    go_wp2_with fail
    exact⟨rfl,_,a0d rfl _ _ w.heap.size 67 (adrV a0K).toArray (0,0) _ rfl R6.out underlying67 rfl hzz.out _ rfl,by rw[HP.out];rfl,hb6⟩
   | some l =>
    rw[hn6] at hnum6
    have hm:=fun n hn=>(((b0r 16 4 65535 58 (by omega) (by omega) (.inr rfl) s l).1 hn6).2 n hn).1
    by_cases h8:l.length=8
    ·have hsx:=f1D (fun A c w' (hs:Sl w' A c (b0n l))=>s0j l h8 hm A c w' hs)
     have htx:=f1D (fun w'=>i0J (sixA l) (g0c l h8) w')
     by_cases he:a0Y (sixA l)=s
     ·have HP:=f1D (show c0s s=some (sixA l) by rw[HP0.out,hn6];exact if_pos ⟨h8,he⟩)
      have heq:((bstr (a0Y (sixA l))).toList==(bstr s).toList)=true:=by rw[c0b];exact decide_eq_true he
      have hVz:=f1D (show (prog.info? 67).map (·.size)=some (adrV (sixA l)).toArray.size by rw[b0b,List.size_toArray,a0m (g0c l h8)])
      have hVs:=f1D (show (adrV a0K).toArray.size=(adrV (sixA l)).toArray.size by rw[List.size_toArray,List.size_toArray,a0m b0O,a0m (g0c l h8)])
      have hV1:=f1D (show (adrV (sixA l)).toArray.all (·.oneCell')=true from b0d (c0O _))
      have HPV:=f1D (show k0D (c0s s)=.tuple #[.agg (adrV (sixA l)).toArray,.bool true] by rw[HP.out];rfl)
      generalize a0Y (sixA l)=X at *
      generalize adrV (sixA l)=V at *
      have tok1:True:=trivial
      clear hm he
      go_wp2_with (first
       | (go_at_call 114;refine (hnum6.out _).mono ?_;rintro e w5 ⟨v5,rfl,⟨u,rfl,hown⟩,hb5⟩;obtain⟨A,c,rfl,-,hsl⟩:=Sl.of_own hown;rw[h8];have hr5:=hr4.later hb5 hr4.lt;have hb5:=hb4.trans (hb5.mono hb4.size);clear hown)
       | (have _t:=tok1;go_at_call 116;refine (hsx.out A c _ hsl).mono ?_;rintro e w7 ⟨rfl,hb7⟩;have hr7:=hr5.later hb7 hr5.lt;have hsl7:=hsl.later (f1F _) hb7;have hb7:=hb5.trans (hb7.mono hb5.size);clear tok1)
       | (go_at_call 116;refine (hsx.out A c _ hsl8).mono ?_;rintro e w9 ⟨rfl,hb9⟩;have hr9:=hr8.later hb9 hr8.lt;have hb9:=hb8.trans (hb9.mono hb8.size);have H9:=f1D (show w9.heap[w.heap.size]?=some (.cells (adrV a0K).toArray 67 (0,0)) from hr9))
       | (go_at_call 115;refine (htx.out _).mono ?_;rintro e w8 ⟨rfl,hb8⟩;have hr8:=hr7.later hb8 hr7.lt;have hsl8:=hsl7.later (f1F _) hb8;have hb8:=hb7.trans (hb8.mono hb7.size);have H8:=f1D (show w8.heap[w.heap.size]?=some (.cells (adrV a0K).toArray 67 (0,0)) from hr8))
       | (with_reducible refine wpList_store_row rfl 67 (.tmp 2) (.tmp 87) rfl w.heap.size V.toArray rfl rfl 67 (adrV a0K).toArray H9.out hVz.out hVs.out hV1.out ?_;refine Hid.out ?_))
      refine f1D ?_
      generalize hw6:World.setRow _ _ _=w6
      obtain⟨r6,hg6⟩:=a0y hr9 (show World.setRow _ w.heap.size V.toArray=w6 from hw6)
      have hb6:=hb9.grown hg6 hb9.size (fun k h=>by cases h;exact f1F _)
      have R6:=f1D (show w6.heap[w.heap.size]?=some (.cells V.toArray 67 (0,0)) from r6)
      clear hw6 r6 hg6
      go_wp2_with fail
      exact⟨rfl,_,a0d rfl _ _ w.heap.size 67 V.toArray (0,0) _ rfl R6.out underlying67 rfl hVz.out _ rfl,by rw[HPV.out];rfl,hb6⟩
     ·have HP:=f1D (show c0s s=none by rw[HP0.out,hn6];exact if_neg (fun h=>he h.2))
      have hne:((bstr (a0Y (sixA l))).toList==(bstr s).toList)=false:=by rw[c0b];exact decide_eq_false he
      generalize a0Y (sixA l)=X at *
      generalize adrV (sixA l)=V at *
      have tok1:True:=trivial
      clear hm he
      go_wp2_with (first
       | (go_at_call 114;refine (hnum6.out _).mono ?_;rintro e w5 ⟨v5,rfl,⟨u,rfl,hown⟩,hb5⟩;obtain⟨A,c,rfl,-,hsl⟩:=Sl.of_own hown;rw[h8];have hr5:=hr4.later hb5 hr4.lt;have hb5:=hb4.trans (hb5.mono hb4.size);clear hown)
       | (have _t:=tok1;go_at_call 116;refine (hsx.out A c _ hsl).mono ?_;rintro e w7 ⟨rfl,hb7⟩;have hr7:=hr5.later hb7 hr5.lt;have hsl7:=hsl.later (f1F _) hb7;have hb7:=hb5.trans (hb7.mono hb5.size);clear tok1)
       | (go_at_call 115;refine (htx.out _).mono ?_;rintro e w8 ⟨rfl,hb8⟩;have hr8:=hr7.later hb8 hr7.lt;have hsl8:=hsl7.later (f1F _) hb8;have hb8:=hb7.trans (hb8.mono hb7.size);have H8:=f1D (show w8.heap[w.heap.size]?=some (.cells (adrV a0K).toArray 67 (0,0)) from hr8))
       | (with_reducible refine wpList_store_row rfl 67 (.tmp 2) (.tmp 85) rfl w.heap.size _ rfl rfl 67 (adrV a0K).toArray H8.out (by kernel_rfl) (by kernel_rfl) (by kernel_rfl) ?_;refine Hid.out ?_))
      refine f1D ?_
      generalize hw6:World.setRow _ _ _=w6
      obtain⟨r6,hg6⟩:=a0y hr8 (show World.setRow _ w.heap.size (adrV a0K).toArray=w6 from hw6)
      have hb6:=hb8.grown hg6 hb8.size (fun k h=>by cases h;exact f1F _)
      have R6:=f1D (show w6.heap[w.heap.size]?=some (.cells (adrV a0K).toArray 67 (0,0)) from r6)
      clear hw6 r6 hg6
      go_wp2_with fail
      exact⟨rfl,_,a0d rfl _ _ w.heap.size 67 (adrV a0K).toArray (0,0) _ rfl R6.out underlying67 rfl hzz.out _ rfl,by rw[HP.out];rfl,hb6⟩
    ·have HP:=f1D (show c0s s=none by rw[HP0.out,hn6];exact if_neg (fun h=>h8 h.1))
     have h8':((l.length:Int)==8)=false:=by rw[beq_eq_false_iff_ne];omega
     clear hm
     go_wp2_with (first
      | (go_at_call 114;refine (hnum6.out _).mono ?_;rintro e w5 ⟨v5,rfl,⟨u,rfl,hown⟩,hb5⟩;have hr5:=hr4.later hb5 hr4.lt;have hb5:=hb4.trans (hb5.mono hb4.size);have H5:=f1D (show w5.heap[w.heap.size]?=some (.cells (adrV a0K).toArray 67 (0,0)) from hr5);obtain⟨A,c,rfl,-,hsl⟩:=Sl.of_own hown;clear hown)
      | (with_reducible refine wpList_store_row rfl 67 (.tmp 2) (.tmp 85) rfl w.heap.size _ rfl rfl 67 (adrV a0K).toArray H5.out (by kernel_rfl) (by kernel_rfl) (by kernel_rfl) ?_;refine Hid.out ?_))
     refine f1D ?_
     generalize hw6:World.setRow _ _ _=w6
     obtain⟨r6,hg6⟩:=a0y hr5 (show World.setRow _ w.heap.size (adrV a0K).toArray=w6 from hw6)
     have hb6:=hb5.grown hg6 hb5.size (fun k h=>by cases h;exact f1F _)
     have R6:=f1D (show w6.heap[w.heap.size]?=some (.cells (adrV a0K).toArray 67 (0,0)) from r6)
     clear hw6 r6 hg6
     go_wp2_with fail
     exact⟨rfl,_,a0d rfl _ _ w.heap.size 67 (adrV a0K).toArray (0,0) _ rfl R6.out underlying67 rfl hzz.out _ rfl,by rw[HP.out];rfl,hb6⟩
theorem s0C (s:List UInt8) (hs:s.length≤100000) (w:World) (hE:Env w) :
  Calls prog 106 #[.string (bstr s)] w fun e w'=>e=.returned (k0D (c0f s))∧Below w.heap.size w w':=by
 have hrd:=f1D (fun w' hE=>v0j s hs w' hE)
 have hok:=n0g s
 have htx:=f1D (fun w' hE=>n0D (d0u s) hok w' hE)
 have HP:=f1D (t0Q s)
 obtain⟨V,hV⟩:∃V,V=adrV (d0u s):=⟨_,rfl⟩
 obtain⟨Z,hZ⟩:∃Z,Z=adrV a0K:=⟨_,rfl⟩
 have hVl:V.length=17:=by rw[hV];exact a0m hok
 have hZl:Z.length=17:=by rw[hZ];exact a0m b0O
 have hsz:=f1D (show (prog.info? 67).map (·.size)=some V.toArray.size by rw[b0b,List.size_toArray,hVl])
 have hszZ:=f1D (show (prog.info? 67).map (·.size)=some Z.toArray.size by rw[b0b,List.size_toArray,hZl])
 have hV1:=f1D (show V.toArray.all (·.oneCell')=true from b0d (by rw[hV];exact c0O _))
 have hZ1:=f1D (show Z.toArray.all (·.oneCell')=true from b0d (by rw[hZ];exact c0O _))
 have hVs:=f1D (show Z.toArray.size=V.toArray.size by rw[List.size_toArray,List.size_toArray,hVl,hZl])
 have HPs:=f1D (show ∀b,(b=true→a0Y (d0u s)=s)→(b=false→a0Y (d0u s)≠s)→k0D (c0f s)=.tuple #[.agg (if b then V else Z).toArray,.bool b] by
  intro b h1 h2
  rw[HP.out]
  cases b with
  | true=>rw[if_pos (h1 rfl),hV];rfl
  | false=>rw[if_neg (h2 rfl),hZ];rfl)
 rw[←hV] at hrd htx
 have htl:=c0b (a0Y (d0u s)) s
 have h17:=f1D (show 17=V.toArray.size by rw[List.size_toArray,hVl])
 obtain⟨w1,hw1⟩:∃w1,w1=w.alloc (.cells (adrV a0K).toArray 67):=⟨_,rfl⟩
 have r1:Row w1 w.heap.size 67 Z:=by rw[hw1,hZ];exact Row.new w _ _
 have hb1:Below w.heap.size w w1:=by rw[hw1];exact (Below.refl _ w).alloc (f1F _) _
 have hE1:=hE.next hb1
 by_cases hT:a0Y (d0u s)=s
 ·have HX:=f1D (show k0D (c0f s)=.tuple #[.agg V.toArray,.bool true] from HPs.out true (fun _=>hT) (fun h=>by cases h))
  rw[decide_eq_true hT] at htl
  clear hV hZ hok hE HPs HP hT hVl hZl
  generalize a0Y (d0u s)=X at *
  generalize bstr X=T at *
  generalize hSe:bstr s=S at *
  clear hSe
  go_enter func106,ntmps106
  go_wp2_with (first
   | (go_at_call 146;change Calls _ _ _ (w.alloc (.cells (adrV a0K).toArray 67)) _;rw[←hw1];clear hw1;refine (hrd.out _ hE1).mono ?_;rintro e w2 ⟨rfl,hb2⟩;have r2:=r1.later hb2 r1.lt;have hE2:=hE1.next hb2;have hb2:=hb1.trans (hb2.mono hb1.size))
   | (have _t:=hE2;refine wpList_store_row rfl 67 (.tmp 4) (.tmp 6) rfl w2.heap.size V.toArray rfl rfl 67 _ (heap_alloc_new w2 _) hsz.out h17.out hV1.out ?_;refine Hid.out ?_))
  refine f1D ?_
  generalize hw3:World.setRow _ _ _=w3
  obtain⟨r3,hb3'⟩:=a0v hw3
  have hE3:=hE2.next hb3'
  have r3b:=r2.later hb3' r2.lt
  have hb3:=hb2.trans (hb3'.mono hb2.size)
  have hlt3:=r2.lt
  have HR3:=f1D (show w3.heap[w2.heap.size]?=some (.cells V.toArray 67 (0,0)) from r3)
  clear hw3 hb3'
  have tok2:True:=trivial
  go_wp2_with (first
   | (have _t:=tok2;with_reducible refine wpList_load_row rfl 67 (.tmp 4) rfl w2.heap.size rfl 67 V.toArray (0,0) _ HR3.out underlying67 rfl hsz.out ?_;clear tok2)
   | (go_at_call 147;refine (htx.out _ hE3).mono ?_;rintro e w4 ⟨rfl,hb4⟩;have r4:=r3.later hb4 r3.lt;have r4b:=r3b.later hb4 r3b.lt;have hb4:=hb3.trans (hb4.mono hb3.size);have HR4:=f1D (show w4.heap[w2.heap.size]?=some (.cells V.toArray 67 (0,0)) from r4);have H4:=f1D (show w4.heap[w.heap.size]?=some (.cells Z.toArray 67 (0,0)) from r4b);clear r3 r3b r4 r4b)
   | (with_reducible refine wpList_load_row rfl 67 (.tmp 4) rfl w2.heap.size rfl 67 V.toArray (0,0) _ HR4.out underlying67 rfl hsz.out ?_)
   | (with_reducible refine wpList_store_row rfl 67 (.tmp 2) (.tmp 12) rfl w.heap.size V.toArray rfl rfl 67 Z.toArray H4.out hsz.out hVs.out hV1.out ?_;refine Hid.out ?_))
  refine f1D ?_
  generalize hw8:World.setRow _ _ _=w8
  obtain⟨r8,hg8⟩:=a0y (show Row w4 w.heap.size 67 Z from H4.out) hw8
  have hb8:=hb4.grown hg8 hb4.size (fun k h=>by cases h;exact f1F _)
  have R8:=f1D (show w8.heap[w.heap.size]?=some (.cells V.toArray 67 (0,0)) from r8)
  clear hw8 r8 hg8 H4 HR4
  go_wp2_with fail
  exact⟨rfl,_,a0d rfl _ _ w.heap.size 67 V.toArray (0,0) _ rfl R8.out underlying67 rfl hsz.out _ rfl,by rw[HX.out];rfl,hb8⟩
 ·have HX:=f1D (show k0D (c0f s)=.tuple #[.agg Z.toArray,.bool false] from HPs.out false (fun h=>by cases h) (fun _=>hT))
  rw[decide_eq_false hT] at htl
  have HZ:=f1D hZ
  clear hV hZ hok hE HPs HP hT hVl hZl
  generalize a0Y (d0u s)=X at *
  generalize bstr X=T at *
  generalize hSe:bstr s=S at *
  clear hSe
  go_enter func106,ntmps106
  go_wp2_with (first
   | (go_at_call 146;change Calls _ _ _ (w.alloc (.cells (adrV a0K).toArray 67)) _;rw[←hw1];clear hw1;refine (hrd.out _ hE1).mono ?_;rintro e w2 ⟨rfl,hb2⟩;have r2:=r1.later hb2 r1.lt;have hE2:=hE1.next hb2;have hb2:=hb1.trans (hb2.mono hb1.size))
   | (have _t:=hE2;refine wpList_store_row rfl 67 (.tmp 4) (.tmp 6) rfl w2.heap.size V.toArray rfl rfl 67 _ (heap_alloc_new w2 _) hsz.out h17.out hV1.out ?_;refine Hid.out ?_))
  refine f1D ?_
  generalize hw3:World.setRow _ _ _=w3
  obtain⟨r3,hb3'⟩:=a0v hw3
  have hE3:=hE2.next hb3'
  have r3b:=r2.later hb3' r2.lt
  have hb3:=hb2.trans (hb3'.mono hb2.size)
  have hlt3:=r2.lt
  have HR3:=f1D (show w3.heap[w2.heap.size]?=some (.cells V.toArray 67 (0,0)) from r3)
  clear hw3 hb3'
  have tok2:True:=trivial
  go_wp2_with (first
   | (have _t:=tok2;with_reducible refine wpList_load_row rfl 67 (.tmp 4) rfl w2.heap.size rfl 67 V.toArray (0,0) _ HR3.out underlying67 rfl hsz.out ?_;clear tok2)
   | (go_at_call 147;refine (htx.out _ hE3).mono ?_;rintro e w4 ⟨rfl,hb4⟩;have r4:=r3.later hb4 r3.lt;have r4b:=r3b.later hb4 r3b.lt;have hb4:=hb3.trans (hb4.mono hb3.size);have HR4:=f1D (show w4.heap[w2.heap.size]?=some (.cells V.toArray 67 (0,0)) from r4);have H4:=f1D (show w4.heap[w.heap.size]?=some (.cells Z.toArray 67 (0,0)) from r4b);clear r3 r3b r4 r4b)
   | (have _t:=H4;refine wpList_store_row rfl 67 (.tmp 2) (.tmp 11) rfl w.heap.size Z.toArray rfl (by rw[HZ.out];rfl) 67 Z.toArray H4.out hszZ.out rfl hZ1.out ?_;refine Hid.out ?_))
  refine f1D ?_
  generalize hw8:World.setRow _ _ _=w8
  obtain⟨r8,hg8⟩:=a0y (show Row w4 w.heap.size 67 Z from H4.out) hw8
  have hb8:=hb4.grown hg8 hb4.size (fun k h=>by cases h;exact f1F _)
  have R8:=f1D (show w8.heap[w.heap.size]?=some (.cells Z.toArray 67 (0,0)) from r8)
  clear hw8 r8 hg8 H4 HR4
  go_wp2_with fail
  exact⟨rfl,_,a0d rfl _ _ w.heap.size 67 Z.toArray (0,0) _ rfl R8.out underlying67 rfl hszZ.out _ rfl,by rw[HX.out];rfl,hb8⟩
theorem b1Y (r:Rng) (a:Adr) (h:ofOk a r.n=true):hasR r a=((a.v6==r.a.v6&&decide (topL a.b r.n.toNat=r.a.b))&&r.n==r.n):=by
 unfold hasR
 rw[h,Bool.true_and,beq_self_eq_true,Bool.and_true]
theorem y0U (r:Rng) (h:r.Ok) (a:Adr) (ha:a.Ok) (w:World) :
  Calls prog 205 #[.agg (rngV r).toArray,.agg (adrV a).toArray] w fun e w'=>e=.returned (.bool (hasR r a))∧Below w.heap.size w w':=by
 have hof:=f1D (fun w'=>b1x a ha r.n w')
 have hXo:=d1M a r.n h.lo h.hi
 obtain⟨R,hR⟩:∃R,R=rngV r:=⟨_,rfl⟩
 obtain⟨X,hX⟩:∃X,X=rngV (ofR a r.n):=⟨_,rfl⟩
 obtain⟨V2,hV2⟩:∃V2,V2=adrV a:=⟨_,rfl⟩
 have HR:=f1D (show R=adrV r.a++[Value.int .i64 r.n] by rw[hR];rfl)
 have HRl:=f1D (a0m h.a)
 have hzA:=f1D (show (prog.info? 67).map (·.size)=some V2.length by rw[hV2,a0m ha];exact b0b)
 have hzR:=f1D (show (prog.info? 69).map (·.size)=some R.length by rw[hR,a0C r h.a];exact c0n)
 have hzX:=f1D (show (prog.info? 69).map (·.size)=some X.length by rw[hX,a0C _ hXo.a];exact c0n)
 have hzX2:=f1D (show (prog.info? 69).map (·.size)=some X.toArray.size by rw[List.size_toArray];exact hzX.out)
 have h18:=f1D (show 18=X.toArray.size by rw[hX,List.size_toArray,a0C _ hXo.a])
 have hX1:=f1D (show X.toArray.all (·.oneCell')=true by rw[hX];exact d0q _)
 obtain⟨w1,hw1⟩:∃w1,w1=(w.alloc (.cells R.toArray 69)).alloc (.cells V2.toArray 67):=⟨_,rfl⟩
 obtain⟨r1,q1,hb1,-⟩:=d0Y hw1.symm
 have HW:=f1D hw1
 have hcn:=x0G HRl.out HR.out r1
 have hEq:ofOk a r.n=true→∀w,(Op.equalIn 10000 69 (.agg X.toArray) (.agg R.toArray)).run prog w=.ok (hasR r a) w:=by
  intro ho w'
  rw[hX,hR,b1b _ _ hXo.a h.a,b1Y r a ho,r0L a r.n ho];rfl
 rw[←hX,←hV2] at hof
 rw[←hR,←hV2]
 clear hR hX hV2 hw1
 have tok1:True:=trivial
 cases ho:ofOk a r.n with
 | false =>
  have HC:=f1D (show hasR r a=false by unfold hasR;rw[ho];rfl)
  rw[ho] at hof
  generalize r.n=n at *
  clear hEq ho
  go_enter func205,ntmps205
  go_wp2_with (first
   | (have _t:=tok1;rw[←HW.out];clear tok1;with_reducible refine wpList_load_mid rfl 67 (.tmp 3) rfl (w.heap.size+1) 0 rfl V2 _ (a0i q1) underlying67 rfl hzA.out ?_)
   | (go_at_call 241;refine (hof.out _).mono ?_;rintro e w2 ⟨rfl,hb2⟩;have hb2:=hb1.trans (hb2.mono hb1.size))
   | (have _t:=hb2;refine wpList_store_row rfl 69 (.tmp 5) (.tmp 12) rfl w2.heap.size X.toArray rfl rfl 69 _ (heap_alloc_new w2 _) hzX2.out h18.out hX1.out ?_;refine Hid.out ?_))
  refine f1D ?_
  generalize hw4:World.setRow _ _ _=w4
  obtain⟨-,hb4'⟩:=a0v (xs:=X) hw4
  have hb4:=hb2.trans (hb4'.mono hb2.size)
  clear hw4 hb4'
  go_wp2_with fail
  go_ret
  exact⟨by rw[HC.out];rfl,hb4⟩
 | true =>
  have hEq:=hEq ho
  rw[ho] at hof
  generalize r.n=n at *
  generalize hasR r a=D at *
  clear ho
  go_enter func205,ntmps205
  go_wp2_with (first
   | (have _t:=tok1;rw[←HW.out];clear tok1;with_reducible refine wpList_load_mid rfl 67 (.tmp 3) rfl (w.heap.size+1) 0 rfl V2 _ (a0i q1) underlying67 rfl hzA.out ?_)
   | (go_at_call 241;refine (hof.out _).mono ?_;rintro e w2 ⟨rfl,hb2⟩;have r2:=r1.later hb2 r1.lt;have hb2:=hb1.trans (hb2.mono hb1.size))
   | (have _t:=hb2;refine wpList_store_row rfl 69 (.tmp 5) (.tmp 12) rfl w2.heap.size X.toArray rfl rfl 69 _ (heap_alloc_new w2 _) hzX2.out h18.out hX1.out ?_;refine Hid.out ?_))
  refine f1D ?_
  generalize hw4:World.setRow _ _ _=w4
  obtain⟨x4,hb4'⟩:=a0v (xs:=X) hw4
  have r4:=r2.later hb4' r2.lt
  have hb4:=hb2.trans (hb4'.mono hb2.size)
  clear hw4 hb4' r1 r2 q1 hcn
  generalize w2.heap.size=g at *
  have tok2:True:=trivial
  go_wp2_with (first
   | (have _t:=tok2;refine wpList_step fun K hK=>?_;refine b0c (some 16) rfl (by rfl) 69 (.tmp 5) rfl g 0 rfl X _ (a0i x4) underlying69 rfl hzX.out ?_;refine hK _ _ ?_;clear hK tok2)
   | (refine wpList_step fun K hK=>?_;refine b0c (some 17) rfl (by rfl) 69 (.tmp 2) rfl w.heap.size 0 rfl R _ (a0i r4) underlying69 rfl hzR.out ?_;refine hK _ _ ?_;clear hK))
  go_ret
  exact⟨rfl,hb4⟩
theorem p0Q (r:Rng) (h:r.Ok) (w:World) :
  Calls prog 149 #[.agg (rngV r).toArray] w fun e w'=>e=.returned (.bool (c0k r))∧Below w.heap.size w w':=by
 have hh:=f1D (fun w'=>show Calls prog 205 #[.agg (rngV r).toArray,.agg (adrV r.a).toArray] w' fun e w''=>e=.returned (.bool (c0k r))∧Below w'.heap.size w' w'' from y0U r h r.a h.a w')
 obtain⟨R,hR⟩:∃R,R=rngV r:=⟨_,rfl⟩
 obtain⟨V,hV⟩:∃V,V=adrV r.a:=⟨_,rfl⟩
 have HR:=f1D (show R=V++[Value.int .i64 r.n] by rw[hR,hV];rfl)
 have hzV:=f1D (show (prog.info? 67).map (·.size)=some V.length by rw[hV,a0m h.a];exact b0b)
 have hzR:=f1D (show (prog.info? 69).map (·.size)=some R.length by rw[hR,a0C r h.a];exact c0n)
 obtain⟨w1,hw1⟩:∃w1,w1=w.alloc (.cells R.toArray 69):=⟨_,rfl⟩
 have r1:Row w1 w.heap.size 69 R:=by rw[hw1];exact Row.new w _ _
 have hb1:Below w.heap.size w w1:=by rw[hw1];exact (Below.refl _ w).alloc (f1F _) _
 have HW:=f1D hw1
 rw[←hR,←hV] at hh
 rw[←hR]
 clear hR hV hw1
 generalize c0k r=D at *
 have tok1:True:=trivial
 go_enter func149,ntmps149
 go_wp2_with (first
  | (have _t:=tok1;rw[←HW.out];clear tok1;with_reducible refine wpList_load_mid rfl 69 (.tmp 1) rfl w.heap.size 0 rfl R _ (a0i r1) underlying69 rfl hzR.out ?_)
  | (with_reducible refine wpList_load_mid rfl 67 (.tmp 4) rfl w.heap.size 0 rfl V _ (k0M HR.out r1) underlying67 rfl hzV.out ?_)
  | (go_at_call 205;refine (hh.out _).mono ?_;rintro e w2 ⟨rfl,hb2⟩;have hb2:=hb1.trans (hb2.mono hb1.size)))
 go_ret
 exact⟨rfl,hb2⟩
theorem z0L (n:Int) (h:0≤n):Lib.itoa n=numL 10 n.toNat:=by
 unfold Lib.itoa
 rw[if_neg (by omega),d0Q]
theorem v0a (n:Int) (h0:0≤n) (h1:n≤9223372036854775807) (w:World) (hE:Env w) :
  Calls prog 150 #[.int .i64 n] w fun e w'=>e=.returned (.string (bstr (numL 10 n.toNat)))∧Below w.heap.size w w':=by
 refine (Tryz.strconv_Itoa n (by omega) h1 w hE.pow).mono ?_
 rintro e w' ⟨rfl,k,os,rfl⟩
 exact⟨by rw[z0L n h0];rfl,Lib.below_grow _ _ (f1F _) k os⟩
def h0s (l:List UInt8):Int:=match Lib.atoiAll l with
 | .ok v=>v
 | .range=>Lib.atoiSat l
 | _=>0
theorem i0P (l:List UInt8):-9223372036854775808≤h0s l∧h0s l≤9223372036854775807:=by
 unfold h0s
 cases h:Lib.atoiAll l with
 | ok v =>
  have:=Lib.atoiAll_bounds h
  exact this
 | range =>
  have:=Lib.atoiSat_bounds l
  exact this
 | _=>show (-9223372036854775808:Int)≤0∧(0:Int)≤9223372036854775807;exact⟨by decide,by decide⟩
theorem f0O (l:List UInt8):(bstr l).data.toList=l:=rfl
theorem u0X (l:List UInt8) (hl:l.length≤100000) (w:World) (hE:Env w) :
  Calls prog 107 #[.string (bstr l)] w fun e w'=>∃ev,e=.returned (.tuple #[.int .i64 (h0s l),ev])∧Below w.heap.size w w':=by
 obtain⟨-,-,-,⟨vs,hvs,hvs2⟩,⟨vr,hvr,hvr2⟩⟩:=hE
 have hz:=a0c l
 cases h:Lib.atoiAll l with
 | ok v =>
  have ev:h0s l=v:=by unfold h0s;rw[h]
  rw[ev]
  refine (Tryz.strconv_Atoi_ok (bstr l) (by omega) v (by rw[f0O];exact h) w).mono ?_
  rintro e w' ⟨rfl,hw⟩
  refine⟨_,rfl,?_⟩
  rcases hw with rfl | ⟨t,rfl⟩
  ·exact Below.refl _ _
  ·exact Lib.bytesWorld_below _ _ _
 | range =>
  have ev:h0s l=Lib.atoiSat l:=by unfold h0s;rw[h]
  rw[ev]
  refine (Tryz.strconv_Atoi_range (bstr l) (by omega) (by rw[f0O];exact h) vr w hvr hvr2).mono ?_
  rintro e w' ⟨N,rfl,-,-,hb⟩
  exact⟨_,by rw[f0O],hb⟩
 | _ =>
  have ev:h0s l=0:=by unfold h0s;rw[h]
  rw[ev]
  refine (Tryz.strconv_Atoi_syntax (bstr l) (by omega) (by rw[f0O];exact h) vs w hvs hvs2).mono ?_
  rintro e w' ⟨N,rfl,-,-,hb⟩
  exact⟨_,rfl,hb⟩
theorem y0Z:∀n:Nat,n≤128→h0s (numL 10 n)=(n:Int):=by
 have h:∀n:Fin 129,h0s (numL 10 n.1)=(n.1:Int):=by decide +kernel
 intro n hn
 exact h ⟨n,by omega⟩
def cutR (s:List UInt8):List UInt8×List UInt8:=((Lib.cut s [47]).1,(Lib.cut s [47]).2.1)
theorem b1I (s:List UInt8):(cutR s).1.length≤s.length∧(cutR s).2.length≤s.length:=by
 unfold cutR Lib.cut
 split
 ·simp;omega
 ·simp
theorem b1H (t u:List UInt8) (h:(47:UInt8)∉t):cutR (t++47 :: u)=(t,u):=by
 have hocc:Lib.occAt (t++47 :: u) [47] t.length=true:=by
  unfold Lib.occAt
  rw[List.drop_left]
  simp[List.isPrefixOf]
 have hi:Lib.index (t++47 :: u) [47]=(t.length:Int):=by
  rcases Lib.index_spec (t++47 :: u) [47] with ⟨-,h2⟩ | ⟨i,h1,h2,h3,h4⟩
  ·have:=h2 t.length (by simp)
   rw[hocc] at this;cases this
  ·by_cases hlt:i < t.length
   ·exfalso
    unfold Lib.occAt at h3
    rw[List.drop_append_of_le_length (by omega),List.drop_eq_getElem_cons hlt] at h3
    simp only[List.cons_append,List.isPrefixOf,Bool.and_true,beq_iff_eq] at h3
    exact h (by rw[h3];exact List.getElem_mem hlt)
   ·by_cases hgt:t.length < i
    ·have:=h4 t.length hgt
     rw[hocc] at this;cases this
    ·rw[h1];omega
 unfold cutR Lib.cut
 rw[hi,if_pos (by omega)]
 simp
def zaL (s:List UInt8):Adr:=(c0f s).getD a0K
theorem b1t (s:List UInt8):(zaL s).Ok:=by
 unfold zaL
 cases h:c0f s with
 | none=>exact b0O
 | some a=>exact ((f0a s a).1 h).1
theorem c1H (s:List UInt8):∃b,k0D (c0f s)=.tuple #[.agg (adrV (zaL s)).toArray,.bool b]:=by
 unfold zaL
 cases h:c0f s with
 | none=>exact⟨false,rfl⟩
 | some a=>exact⟨true,rfl⟩
def h0j (s:List UInt8):Rng:=⟨zaL (cutR s).1,h0s (cutR s).2⟩
theorem s0b (s:List UInt8):(h0j s).Ok:=⟨b1t _,(i0P _).1,(i0P _).2⟩
theorem x0y:b0y (h0j [])≠[]:=by decide +kernel
theorem q0A (s:List UInt8):b0u s=if b0y (h0j s)=s then some (h0j s) else none:=by
 by_cases h:b0y (h0j s)=s
 ·rw[if_pos h]
  refine (f0b s (h0j s)).2 ⟨(s0b s).a,(h0g _ ?_).1,h⟩
  rw[h]
  intro e
  rw[e] at h
  exact x0y h
 ·rw[if_neg h]
  cases hp:b0u s with
  | none=>rfl
  | some r =>
   exfalso
   apply h
   obtain⟨ho,hc,ht⟩:=(f0b s r).1 hp
   obtain⟨ca,n0,n1⟩:=d0v r hc
   have e:h0j s=r:=by
    unfold h0j
    rw[←ht,i0o r hc,b1H _ _ (s0q _)]
    unfold zaL
    rw[h0D r.a ho ca,y0Z _ (by omega),Int.toNat_of_nonneg n0]
    rfl
   rw[e];exact ht
theorem u0Y (s:List UInt8) (hs:s.length≤100000) (w:World) (hE:Env w) :
  Calls prog 105 #[.string (bstr s),.string ⟨#[47]⟩] w fun e w'=>e=.returned (.tuple #[.string (bstr (cutR s).1),.string (bstr (cutR s).2),.bool (Lib.cut s [47]).2.2])∧Below w.heap.size w w':=by
 obtain⟨m,hm⟩:=hE.most
 refine (Tryz.strings_Cut (bstr s) (bstr [47]) m w (by rw[a0c];omega) hm).mono ?_
 rintro e w' ⟨rfl,n,rfl⟩
 exact⟨rfl,j0V w n⟩
theorem p0U (r:Rng) (h:r.Ok) (w:World) (hE:Env w) :
  Calls prog 108 #[.agg (rngV r).toArray] w fun e w'=>e=.returned (.string (bstr (b0y r)))∧Below w.heap.size w w':=by
 have hcr:=f1D (fun w'=>p0Q r h w')
 have htx:=f1D (fun w' hE=>n0D r.a h.a w' hE)
 have hlim:=d0v r
 obtain⟨R,hR⟩:∃R,R=rngV r:=⟨_,rfl⟩
 obtain⟨V,hV⟩:∃V,V=adrV r.a:=⟨_,rfl⟩
 have HR:=f1D (show R=V++[Value.int .i64 r.n] by rw[hR,hV];rfl)
 have hVl:=f1D (show V.length=17 by rw[hV];exact a0m h.a)
 have hzV:=f1D (show (prog.info? 67).map (·.size)=some V.length by rw[hVl.out];exact b0b)
 have hzR:=f1D (show (prog.info? 69).map (·.size)=some R.length by rw[hR,a0C r h.a];exact c0n)
 rw[←hR] at hcr ⊢
 rw[←hV] at htx
 clear hR hV
 obtain⟨w1,hw1⟩:∃w1,w1=w.alloc (.cells R.toArray 69):=⟨_,rfl⟩
 have r1:Row w1 w.heap.size 69 R:=by rw[hw1];exact Row.new w _ _
 have hb1:Below w.heap.size w w1:=by rw[hw1];exact (Below.refl _ w).alloc (f1F _) _
 have hE1:=hE.next hb1
 have HW:=f1D hw1
 clear hw1 hE
 have tok1:True:=trivial
 cases hc:c0k r with
 | false =>
  have HX:=f1D (show b0y r=[] by unfold b0y;rw[hc];rfl)
  rw[hc] at hcr
  clear hc hlim
  go_enter func108,ntmps108
  go_wp2_with (first
   | (have _t:=tok1;rw[←HW.out];clear tok1;with_reducible refine wpList_load_mid rfl 69 (.tmp 1) rfl w.heap.size 0 rfl R _ (a0i r1) underlying69 rfl hzR.out ?_)
   | (go_at_call 149;refine (hcr.out _).mono ?_;rintro e w2 ⟨rfl,hb2⟩;have hb2:=hb1.trans (hb2.mono hb1.size)))
  go_ret
  exact⟨by rw[HX.out];rfl,hb2⟩
 | true =>
  obtain⟨-,n0,n1⟩:=hlim hc
  have HX:=f1D (show b0y r=(a0Y r.a++[47])++numL 10 r.n.toNat by rw[i0o r hc];simp)
  have hnm:=f1D (fun w' hE=>v0a r.n n0 (by omega) w' hE)
  have hl1:=l0f r.a
  have hl2:=b0k 10 (by omega) 2 r.n.toNat (by omega)
  rw[hc] at hcr
  generalize a0Y r.a=A at *
  generalize numL 10 r.n.toNat=B at *
  generalize hn:r.n=n at *
  have hs1:(bstr A).size≤39:=by rw[a0c];exact hl1
  have hs2:(bstr B).size≤3:=by rw[a0c];exact hl2
  clear hc hlim n0 n1 hl1 hl2 hn
  go_enter func108,ntmps108
  go_wp2_with (first
   | (have _t:=tok1;rw[←HW.out];clear tok1;with_reducible refine wpList_load_mid rfl 69 (.tmp 1) rfl w.heap.size 0 rfl R _ (a0i r1) underlying69 rfl hzR.out ?_)
   | (go_at_call 149;refine (hcr.out _).mono ?_;rintro e w2 ⟨rfl,hb2⟩;have r2:=r1.later hb2 r1.lt;have hE2:=hE1.next hb2;have hb2:=hb1.trans (hb2.mono hb1.size)))
  refine wp_region_noPanic ?_
  refine wp_region_held_drew (S:=fun w'=>Below w2.heap.size w2 w') (by kernel_rfl) ((Below.refl _ _).drew) (fun hHeld=>?_)
  have hB:=hHeld
  refine rt 0 6 hHeld ?_
  refine rt 1 7 hHeld ?_ (hy:=by intro w hS;exact a0s 67 (.tmp 6) rfl _ 0 rfl V _ (k0M HR.out (r2.later hS r2.lt)) underlying67 rfl hzV.out)
  refine rt 4 10 hHeld ?_
  refine rt 5 11 hHeld ?_ (hy:=by intro w hS;have hcn:=x0G hVl.out HR.out (r2.later hS r2.lt);go_simp;try with_reducible rfl)
  refine rc1 2 fun K hK=>?_
  go_simp
  refine (htx.out _ (hE2.next hHeld)).mono ?_;rintro e ww22 ⟨rfl,hqw22⟩
  try go_wp2_with fail
  refine hK.out _ _ (hHeld.trans (hqw22.mono hHeld.size)) (fun hHeld'=>?_)
  clear hK K
  have hB:=a0a hB hqw22
  have hB2:Below ww22.heap.size ww22 ww22:=Below.refl _ _
  refine a0f (S':=fun w'=>Below ww22.heap.size ww22 w') (fun _ h=>(hHeld.trans (hqw22.mono hHeld.size)).trans (h.mono (hHeld.trans (hqw22.mono hHeld.size)).size)) _ _ _ _ ?_
  clear hHeld
  have hHeld:Below ww22.heap.size ww22 ww22:=Below.refl _ _
  refine rt 3 9 hHeld ?_ (hy:=by intro w hS;go_simp;rw[if_neg (by (try simp only[ByteArray.size_append]);(try simp only[show ({ data:=#[47] } : ByteArray).size=1 from rfl]);omega)])
  refine rc1 6 fun K hK=>?_
  go_simp
  refine (hnm.out _ (hE2.next hB)).mono ?_;rintro e ww26 ⟨rfl,hqw26⟩
  try go_wp2_with fail
  refine hK.out _ _ (hHeld.trans (hqw26.mono hHeld.size)) (fun hHeld'=>?_)
  clear hK K
  have hB:=a0a hB hqw26
  have hB2:=a0a hB2 hqw26
  have hB6:Below ww26.heap.size ww26 ww26:=Below.refl _ _
  refine a0f (S':=fun w'=>Below ww26.heap.size ww26 w') (fun _ h=>(hHeld.trans (hqw26.mono hHeld.size)).trans (h.mono (hHeld.trans (hqw26.mono hHeld.size)).size)) _ _ _ _ ?_
  clear hHeld
  have hHeld:Below ww26.heap.size ww26 ww26:=Below.refl _ _
  refine rt 7 13 hHeld ?_ (hy:=by intro w hS;go_simp;rw[if_neg (by (try simp only[ByteArray.size_append]);(try simp only[show ({ data:=#[47] } : ByteArray).size=1 from rfl]);omega)])
  refine rt 8 2 hHeld ?_
  refine wpAnyH_done (by kernel_rfl) ?_ _
  refine NoPanic.normal ?_
  have hbe:=hb2.trans (hB.mono hb2.size)
  clear hHeld
  go_wp2
  go_ret
  exact⟨by rw[HX.out];simp only[←a0x];rfl,hbe⟩
theorem n0A (s:List UInt8) (hs:s.length≤100000) (w:World) (hE:Env w) :
  Calls prog 70 #[.string (bstr s)] w fun e w'=>e=.returned (j0k (b0u s))∧Below w.heap.size w w':=by
 obtain⟨hl1,hl2⟩:=b1I s
 have hcut:=f1D (fun w' hE=>u0Y s hs w' hE)
 obtain⟨b,hpe⟩:=c1H (cutR s).1
 have hpa:=f1D (fun w' hE=>s0C (cutR s).1 (by omega) w' hE)
 rw[hpe] at hpa
 have hat:=f1D (fun w' hE=>u0X (cutR s).2 (by omega) w' hE)
 have hXo:=s0b s
 have htx:=f1D (fun w' hE=>p0U (h0j s) hXo w' hE)
 have HP:=f1D (q0A s)
 have hzs:=c0b (b0y (h0j s)) s
 obtain⟨Z,hZ⟩:∃Z,Z=rngV a0T:=⟨_,rfl⟩
 obtain⟨X,hX⟩:∃X,X=rngV (h0j s):=⟨_,rfl⟩
 obtain⟨V,hV⟩:∃V,V=adrV (zaL (cutR s).1):=⟨_,rfl⟩
 have hVl:=f1D (show V.length=17 by rw[hV];exact a0m (b1t _))
 have hzV:=f1D (show (prog.info? 67).map (·.size)=some V.length by rw[hVl.out];exact b0b)
 have hzV2:=f1D (show (prog.info? 67).map (·.size)=some V.toArray.size by rw[List.size_toArray];exact hzV.out)
 have h17:=f1D (show 17=V.toArray.size by rw[List.size_toArray,hVl.out])
 have hV1:=f1D (show V.toArray.all (·.oneCell')=true by rw[hV];exact n0x _)
 have hXl:=a0C _ hXo.a
 have hzX:=f1D (show (prog.info? 69).map (·.size)=some X.length by rw[hX,hXl];exact c0n)
 have hzX2:=f1D (show (prog.info? 69).map (·.size)=some X.toArray.size by rw[List.size_toArray];exact hzX.out)
 have h18:=f1D (show 18=X.toArray.size by rw[hX,List.size_toArray,hXl])
 have hX1:=f1D (show X.toArray.all (·.oneCell')=true by rw[hX];exact d0q _)
 have hzZ:=f1D (show (prog.info? 69).map (·.size)=some Z.toArray.size by rw[hZ,List.size_toArray,a0C _ b0O];exact c0n)
 have hZ1:=f1D (show Z.toArray.all (·.oneCell')=true by rw[hZ];exact d0q _)
 have hZX:=f1D (show Z.toArray.size=X.toArray.size by rw[hX,hZ,List.size_toArray,List.size_toArray,hXl,a0C _ b0O])
 have hZe:=f1D (hZ.trans i0h)
 have HXe:=f1D (show X=V++[Value.int .i64 (h0s (cutR s).2)] by rw[hX,hV];rfl)
 have HPt:=f1D (show b0y (h0j s)=s→j0k (b0u s)=.tuple #[.agg X.toArray,.bool true] by intro h;rw[HP.out,if_pos h,hX];rfl)
 have HPf:=f1D (show b0y (h0j s)≠s→j0k (b0u s)=.tuple #[.agg Z.toArray,.bool false] by intro h;rw[HP.out,if_neg h,hZ];rfl)
 obtain⟨w1,hw1⟩:∃w1,w1=w.alloc (.cells Z.toArray 69):=⟨_,rfl⟩
 have q1:Row w1 w.heap.size 69 Z:=by rw[hw1];exact Row.new w _ _
 have hb1:Below w.heap.size w w1:=by rw[hw1];exact (Below.refl _ w).alloc (f1F _) _
 have hE1:=hE.next hb1
 have HW:=f1D (show w1=w.alloc (.cells #[Value.bool false,.int .u8 0,.int .u8 0,.int .u8 0,.int .u8 0,.int .u8 0,.int .u8 0,.int .u8 0,.int .u8 0,.int .u8 0,.int .u8 0,.int .u8 0,.int .u8 0,.int .u8 0,.int .u8 0,.int .u8 0,.int .u8 0,.int .i64 0] 69) by rw[hw1,hZe.out])
 rw[←hV] at hpa
 rw[←hX] at htx
 clear hw1 hV hX hZ hE hs hl1 hl2 hpe HP hXl
 generalize h0s (cutR s).2=n at *
 generalize (Lib.cut s [47]).2.2=fd at *
 generalize bstr (cutR s).1=F at *
 generalize bstr (cutR s).2=B at *
 by_cases hT:b0y (h0j s)=s
 case pos =>
  have HX:=f1D (HPt.out hT)
  rw[decide_eq_true hT] at hzs
  clear HPt HPf hT hXo
  generalize b0y (h0j s)=tx at *
  generalize bstr tx=TX at *
  generalize bstr s=S at *
  go_enter func70,ntmps70
  go_wp2_with (first
   | (go_at_call 105;rw[←HW.out];refine (hcut.out _ hE1).mono ?_;rintro e w2 ⟨rfl,hb2⟩;have hE2:=hE1.next hb2;have q2:=q1.later hb2 q1.lt;have hb2:=hb1.trans (hb2.mono hb1.size);clear HW q1)
   | (go_at_call 106;refine (hpa.out _ hE2).mono ?_;rintro e w3 ⟨rfl,hb3⟩;have hE3:=hE2.next hb3;have q3:=q2.later hb3 q2.lt;have hb3:=hb2.trans (hb3.mono hb2.size);clear q2)
   | (have _t:=hb3;refine wpList_store_row rfl 67 (.tmp 7) (.tmp 21) rfl w3.heap.size V.toArray rfl rfl 67 _ (heap_alloc_new w3 _) hzV2.out h17.out hV1.out ?_;refine Hid.out ?_))
  refine f1D ?_
  generalize hw4:World.setRow _ _ _=w4
  obtain⟨r4,hb4'⟩:=a0v (xs:=V) hw4
  have hE4:=hE3.next hb4'
  have q4:=q3.later hb4' q3.lt
  have hb4:=hb3.trans (hb4'.mono hb3.size)
  clear hw4 hb4' q3
  generalize w3.heap.size=g at *
  go_wp2_with (first
   | (go_at_call 107;refine (hat.out _ hE4).mono ?_;rintro e w5 ⟨ev,rfl,hb5⟩;have hE5:=hE4.next hb5;have q5:=q4.later hb5 q4.lt;have r5:=r4.later hb5 r4.lt;have hb5:=hb4.trans (hb5.mono hb4.size);clear q4 r4)
   | (have _t:=hE5;with_reducible refine wpList_load_mid rfl 67 (.tmp 7) rfl g 0 rfl V _ (a0i r5) underlying67 rfl hzV.out ?_)
   | (refine b0g rfl 69 0 1 (.tmp 28) (.tmp 29) rfl (.agg V.toArray) (.int .i64 n) (.agg X.toArray) rfl rfl (by rw[HXe.out];exact g0r V n hVl.out _) ?_)
   | (have _t:=hE5;refine wpList_store_row rfl 69 (.tmp 11) (.tmp 30) rfl w5.heap.size X.toArray rfl rfl 69 _ (heap_alloc_new w5 _) hzX2.out h18.out hX1.out ?_;refine Hid.out ?_))
  refine f1D ?_
  generalize hw6:World.setRow _ _ _=w6
  obtain⟨x6,hb6'⟩:=a0v (xs:=X) hw6
  have hE6:=hE5.next hb6'
  have q6:=q5.later hb6' q5.lt
  have hb6:=hb5.trans (hb6'.mono hb5.size)
  clear hw6 hb6' q5 r5
  generalize w5.heap.size=g2 at *
  have tok2:True:=trivial
  go_wp2_with (first
   | (have _t:=tok2;with_reducible refine wpList_load_mid rfl 69 (.tmp 11) rfl g2 0 rfl X _ (a0i x6) underlying69 rfl hzX.out ?_;clear tok2)
   | (go_at_call 108;refine (htx.out _ hE6).mono ?_;rintro e w7 ⟨rfl,hb7⟩;have x7:=x6.later hb7 x6.lt;have Q7:=f1D (show w7.heap[w.heap.size]?=some (.cells Z.toArray 69 (0,0)) from q6.later hb7 q6.lt);have hb7:=hb6.trans (hb7.mono hb6.size);clear x6 q6)
   | (with_reducible refine wpList_load_mid rfl 69 (.tmp 11) rfl g2 0 rfl X _ (a0i x7) underlying69 rfl hzX.out ?_)
   | (with_reducible refine wpList_store_row rfl 69 (.tmp 2) (.tmp 36) rfl w.heap.size X.toArray rfl rfl 69 Z.toArray Q7.out hzX2.out hZX.out hX1.out ?_;refine Hid.out ?_))
  refine f1D ?_
  generalize hw8:World.setRow _ _ _=w8
  obtain⟨r8,hg8⟩:=a0y (show Row w7 w.heap.size 69 Z from Q7.out) hw8
  have hb8:=hb7.grown hg8 hb7.size (fun k h=>by cases h;exact f1F _)
  have R8:=f1D (show w8.heap[w.heap.size]?=some (.cells X.toArray 69 (0,0)) from r8)
  clear hw8 r8 hg8 Q7
  go_wp2_with fail
  exact⟨rfl,_,a0d rfl _ _ w.heap.size 69 X.toArray (0,0) _ rfl R8.out underlying69 rfl hzX2.out _ rfl,by rw[HX.out];rfl,hb8⟩
 case neg =>
  have HX:=f1D (HPf.out hT)
  rw[decide_eq_false hT] at hzs
  clear HPt HPf hT hXo
  generalize b0y (h0j s)=tx at *
  generalize bstr tx=TX at *
  generalize bstr s=S at *
  go_enter func70,ntmps70
  go_wp2_with (first
   | (go_at_call 105;rw[←HW.out];refine (hcut.out _ hE1).mono ?_;rintro e w2 ⟨rfl,hb2⟩;have hE2:=hE1.next hb2;have q2:=q1.later hb2 q1.lt;have hb2:=hb1.trans (hb2.mono hb1.size);clear HW q1)
   | (go_at_call 106;refine (hpa.out _ hE2).mono ?_;rintro e w3 ⟨rfl,hb3⟩;have hE3:=hE2.next hb3;have q3:=q2.later hb3 q2.lt;have hb3:=hb2.trans (hb3.mono hb2.size);clear q2)
   | (have _t:=hb3;refine wpList_store_row rfl 67 (.tmp 7) (.tmp 21) rfl w3.heap.size V.toArray rfl rfl 67 _ (heap_alloc_new w3 _) hzV2.out h17.out hV1.out ?_;refine Hid.out ?_))
  refine f1D ?_
  generalize hw4:World.setRow _ _ _=w4
  obtain⟨r4,hb4'⟩:=a0v (xs:=V) hw4
  have hE4:=hE3.next hb4'
  have q4:=q3.later hb4' q3.lt
  have hb4:=hb3.trans (hb4'.mono hb3.size)
  clear hw4 hb4' q3
  generalize w3.heap.size=g at *
  go_wp2_with (first
   | (go_at_call 107;refine (hat.out _ hE4).mono ?_;rintro e w5 ⟨ev,rfl,hb5⟩;have hE5:=hE4.next hb5;have q5:=q4.later hb5 q4.lt;have r5:=r4.later hb5 r4.lt;have hb5:=hb4.trans (hb5.mono hb4.size);clear q4 r4)
   | (have _t:=hE5;with_reducible refine wpList_load_mid rfl 67 (.tmp 7) rfl g 0 rfl V _ (a0i r5) underlying67 rfl hzV.out ?_)
   | (refine b0g rfl 69 0 1 (.tmp 28) (.tmp 29) rfl (.agg V.toArray) (.int .i64 n) (.agg X.toArray) rfl rfl (by rw[HXe.out];exact g0r V n hVl.out _) ?_)
   | (have _t:=hE5;refine wpList_store_row rfl 69 (.tmp 11) (.tmp 30) rfl w5.heap.size X.toArray rfl rfl 69 _ (heap_alloc_new w5 _) hzX2.out h18.out hX1.out ?_;refine Hid.out ?_))
  refine f1D ?_
  generalize hw6:World.setRow _ _ _=w6
  obtain⟨x6,hb6'⟩:=a0v (xs:=X) hw6
  have hE6:=hE5.next hb6'
  have q6:=q5.later hb6' q5.lt
  have hb6:=hb5.trans (hb6'.mono hb5.size)
  clear hw6 hb6' q5 r5
  generalize w5.heap.size=g2 at *
  have tok2:True:=trivial
  go_wp2_with (first
   | (have _t:=tok2;with_reducible refine wpList_load_mid rfl 69 (.tmp 11) rfl g2 0 rfl X _ (a0i x6) underlying69 rfl hzX.out ?_;clear tok2)
   | (go_at_call 108;refine (htx.out _ hE6).mono ?_;rintro e w7 ⟨rfl,hb7⟩;have x7:=x6.later hb7 x6.lt;have Q7:=f1D (show w7.heap[w.heap.size]?=some (.cells Z.toArray 69 (0,0)) from q6.later hb7 q6.lt);have hb7:=hb6.trans (hb7.mono hb6.size);clear x6 q6)
   | (have _t:=Q7;refine wpList_store_row rfl 69 (.tmp 2) (.tmp 35) rfl w.heap.size Z.toArray rfl (by rw[hZe.out];rfl) 69 Z.toArray Q7.out hzZ.out rfl hZ1.out ?_;refine Hid.out ?_))
  refine f1D ?_
  generalize hw8:World.setRow _ _ _=w8
  obtain⟨r8,hg8⟩:=a0y (show Row w7 w.heap.size 69 Z from Q7.out) hw8
  have hb8:=hb7.grown hg8 hb7.size (fun k h=>by cases h;exact f1F _)
  have R8:=f1D (show w8.heap[w.heap.size]?=some (.cells Z.toArray 69 (0,0)) from r8)
  clear hw8 r8 hg8 Q7
  go_wp2_with fail
  exact⟨rfl,_,a0d rfl _ _ w.heap.size 69 Z.toArray (0,0) _ rfl R8.out underlying69 rfl hzZ.out _ rfl,by rw[HX.out];rfl,hb8⟩
end Go.Proofs.YtcbilopdeiapjaaGreatDoor
