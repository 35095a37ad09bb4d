import Derived.Test.YtimdhdimhboboaaGreatDoorRbaw
import Derived.Deep.DeepCutAuto
import Derived.Test.YtimdhdimhboboaaGreatDoorRbat
import Derived.Test.YtimdhdimhboboaaGreatDoorRbap
import Derived.Test.YtimdhdimhboboaaGreatDoorRbar
import Derived.Lib.AppendIntMem
namespace Go.Proofs.YtimdhdimhboboaaGreatDoor
set_option maxRecDepth 100000
open Go Go.RowKit
theorem l0Y (s:List UInt8) (h:c0U s=none) (k:Nat) (hk:k+1 < s.length):¬(s.getD k 0=58∧s.getD (k+1) 0=58):=by
 induction s generalizing k with
 | nil=>simp at hk
 | cons c s ih =>
  cases s with
  | nil=>simp at hk
  | cons d s =>
   by_cases hcd:c=58∧d=58
   ·have:c0U (c :: d :: s)=some 0:=if_pos hcd
    rw[this] at h;cases h
   ·rw[f0u c d s hcd,Option.map_eq_none_iff] at h
    cases k with
    | zero=>exact hcd
    | succ k=>exact ih h k (by simpa using hk)
theorem o0d {o:Option (List Nat)} {base:Nat} {v:Value} {w:World} (h:h0a o base v w) (h4:∀l,o=some l→l.length≠4):∃A c,∃n:Nat,∃b,v=.tuple #[.slice A n c,.bool b]∧(b=true→((n:Int)==4)=false):=by
 cases o with
 | none=>exact⟨none,0,0,false,h,fun e=>by cases e⟩
 | some l =>
  obtain⟨u,rfl,ho⟩:=h
  obtain⟨A,c,rfl,-,-⟩:=Sl.of_own ho
  exact⟨A,c,l.length,true,rfl,fun _=>by rw[beq_eq_false_iff_ne];have:=h4 l rfl;omega⟩
set_option maxHeartbeats 2000000 in
theorem i0G (s:List UInt8) (hs:s.length≤1000) (hn4:∀l,a0v 10 3 255 46 s=some l→l.length≠4) (hf:c0U s=none) (w:World) :
  Calls Tryz.prog 77 #[.string (bstr s)] w fun e w'=>e=.returned (k0h (c0j s))∧Below w.heap.size w w':=by
 have hz:=a0f s
 have hnum:=Lib.hid (fun w'=>f0q s hs w')
 have hnum6:=Lib.hid (fun w'=>f0r s hs w')
 have HP0:=Lib.hid (show c0j s=match a0v 16 4 65535 58 s with | none=>none | some l=>if l.length=8∧a0U (sixA l)=s then some (sixA l) else none by unfold c0j;rw[hf];cases a0v 16 4 65535 58 s<;>rfl)
 have HC:=Lib.hid (l0Y s hf)
 have r0:Row (w.alloc (.cells (adrV a0G).toArray 65)) w.heap.size 65 (adrV a0G):=Row.new w _ _
 have hb0:Below w.heap.size w (w.alloc (.cells (adrV a0G).toArray 65)):=(Below.refl _ w).alloc (Nat.le_refl _) _
 clear hf
 go_enter Tryz.func77,Tryz.ntmps77
 go_upto_region 2 with (go_at_call 111;refine (hnum.out _).mono ?_;rintro e w3 ⟨v3,rfl,hv3,hb3⟩;obtain⟨A0,c0,n0,b0,rfl,hn0⟩:=o0d hv3 hn4;have hr3:=r0.later hb3 r0.lt;have hb3:=hb0.trans (hb3.mono hb0.size);clear hv3)
 clear r0 hb0 hnum hn4
 go_cut [4,5,22] (fun _ _ y wx=>y=.bool false∧w3=wx)
 case first =>
  cases b0
  ·clear hn0
   go_wp2
   go_meet
   case rel=>exact⟨rfl,rfl⟩
  ·have h4':=hn0 rfl
   clear hn0
   go_wp2
   go_meet
   case rel=>exact⟨rfl,rfl⟩
 case rest =>
 obtain⟨rfl,rfl⟩:=hcut
 clear hn0
 go_wp2
 go_loopw [6,7] (fun v i wr=>v=.int .i64 (-1)∧∃k:Nat,k≤s.length∧i=.int .i64 k∧Row wr w.heap.size 65 (adrV a0G)∧Below w.heap.size w wr) (fun _ i _=>s.length - (intOf i).toNat)
 case atStart=>exact⟨rfl,0,by omega,rfl,hr3,hb3⟩
 case round =>
  clear hr3 hb3
  obtain⟨rfl,k,hk,rfl,hr4,hb4⟩:=hrel
  have hw1:IntKind.i64.wrap ((k:Int)+1)=(k:Int)+1:=by rw[IntKind.wrap_i64];omega
  by_cases hlt:k+1 < s.length
  ·have hlt':(k:Int)+1 < (s.length:Int):=by omega
   have hix1:=a0Q s k (by omega)
   have hix2:∀w,(Instr.index 9 (.string (bstr s)) (.int .i64 ((k:Int)+1))).run Tryz.prog w=.ok (.int .u8 ((s.getD (k+1) 0).toNat:Int)) w:=a0Q s (k+1) hlt
   have hno:=HC.out k hlt
   generalize s.getD k 0=x at *
   generalize s.getD (k+1) 0=y at *
   by_cases hx:x=58
   ·have hy:((y.toNat:Int)==58)=false:=by
     rw[beq_eq_false_iff_ne]
     intro h
     exact hno ⟨hx,UInt8.toNat_inj.1 (by show y.toNat=58;omega)⟩
    have hxe:((x.toNat:Int)==58)=true:=by rw[hx];rfl
    clear hno hx
    go_wp2
    go_roundw
    case rel=>exact⟨rfl,k+1,by omega,by go_num,hr4,hb4⟩
    case measure=>simp[intOf];omega
   ·have hxe:((x.toNat:Int)==58)=false:=by
     rw[beq_eq_false_iff_ne]
     intro h
     exact hx (UInt8.toNat_inj.1 (by show x.toNat=58;omega))
    clear hno hx
    go_wp2
    go_roundw
    case rel=>exact⟨rfl,k+1,by omega,by go_num,hr4,hb4⟩
    case measure=>simp[intOf];omega
  ·have hge:(s.length:Int)≤(k:Int)+1:=by omega
   have hzz:=Lib.hid (show (Tryz.prog.info? 65).map (·.size)=some (adrV a0G).toArray.size by rw[a0W,List.size_toArray,a0l b0D])
   have HZ1:=Lib.hid (show (adrV a0G).toArray.all (·.oneCell')=true from a0Y (c0A _))
   cases hn6:a0v 16 4 65535 58 s with
   | none =>
    have HP:=Lib.hid (show c0j s=none by rw[HP0.out,hn6])
    rw[hn6] at hnum6
    go_wp2_with (first
     | (go_at_call 111;refine (hnum6.out _).mono ?_;rintro e w5 ⟨v5,rfl,rfl,hb5⟩;have hr5:=hr4.later hb5 hr4.lt;have hb5:=hb4.trans (hb5.mono hb4.size);have H5:=Lib.hid (show w5.heap[w.heap.size]?=some (.cells (adrV a0G).toArray 65 (0,0)) from hr5))
     | (with_reducible refine wpList_store_row rfl 65 (.tmp 2) (.tmp 85) rfl w.heap.size _ rfl rfl 65 (adrV a0G).toArray H5.out (by kernel_rfl) (by kernel_rfl) (by kernel_rfl) ?_;refine Hid.out ?_))
    refine Lib.hid ?_
    generalize hw6:World.setRow _ _ _=w6
    obtain⟨r6,hg6⟩:=a0z hr5 (show World.setRow _ w.heap.size (adrV a0G).toArray=w6 from hw6)
    have hb6:=hb5.grown hg6 hb5.size (fun k h=>by cases h;exact Nat.le_refl _)
    have R6:=Lib.hid (show w6.heap[w.heap.size]?=some (.cells (adrV a0G).toArray 65 (0,0)) from r6)
    clear hw6 r6 hg6
    go_wp2_with fail
    exact⟨rfl,_,a0g rfl _ _ w.heap.size 65 (adrV a0G).toArray (0,0) _ rfl R6.out Tryz.underlying65 rfl hzz.out _ rfl,by rw[HP.out];rfl,hb6⟩
   | some l =>
    rw[hn6] at hnum6
    have hm:=fun n hn=>(((b0l 16 4 65535 58 (by omega) (by omega) (.inr rfl) s l).1 hn6).2 n hn).1
    by_cases h8:l.length=8
    ·have hsx:=Lib.hid (fun A c w' (hs:Sl w' A c (b0i l))=>r0s l h8 hm A c w' hs)
     have htx:=Lib.hid (fun w'=>i0p (sixA l) (f0V l h8) w')
     by_cases he:a0U (sixA l)=s
     ·have HP:=Lib.hid (show c0j s=some (sixA l) by rw[HP0.out,hn6];exact if_pos ⟨h8,he⟩)
      have heq:((bstr (a0U (sixA l))).toList==(bstr s).toList)=true:=by rw[b0S];exact decide_eq_true he
      have hVz:=Lib.hid (show (Tryz.prog.info? 65).map (·.size)=some (adrV (sixA l)).toArray.size by rw[a0W,List.size_toArray,a0l (f0V l h8)])
      have hVs:=Lib.hid (show (adrV a0G).toArray.size=(adrV (sixA l)).toArray.size by rw[List.size_toArray,List.size_toArray,a0l b0D,a0l (f0V l h8)])
      have hV1:=Lib.hid (show (adrV (sixA l)).toArray.all (·.oneCell')=true from a0Y (c0A _))
      have HPV:=Lib.hid (show k0h (c0j s)=.tuple #[.agg (adrV (sixA l)).toArray,.bool true] by rw[HP.out];rfl)
      generalize a0U (sixA l)=X at *
      generalize adrV (sixA l)=V at *
      have tok1:True:=trivial
      clear hm he
      go_wp2_with (first
       | (go_at_call 111;refine (hnum6.out _).mono ?_;rintro e w5 ⟨v5,rfl,⟨u,rfl,hown⟩,hb5⟩;obtain⟨A,c,rfl,-,hsl⟩:=Sl.of_own hown;rw[h8];have hr5:=hr4.later hb5 hr4.lt;have hb5:=hb4.trans (hb5.mono hb4.size);clear hown)
       | (have _t:=tok1;go_at_call 113;refine (hsx.out A c _ hsl).mono ?_;rintro e w7 ⟨rfl,hb7⟩;have hr7:=hr5.later hb7 hr5.lt;have hsl7:=hsl.later (Nat.le_refl _) hb7;have hb7:=hb5.trans (hb7.mono hb5.size);clear tok1)
       | (go_at_call 113;refine (hsx.out A c _ hsl8).mono ?_;rintro e w9 ⟨rfl,hb9⟩;have hr9:=hr8.later hb9 hr8.lt;have hb9:=hb8.trans (hb9.mono hb8.size);have H9:=Lib.hid (show w9.heap[w.heap.size]?=some (.cells (adrV a0G).toArray 65 (0,0)) from hr9))
       | (go_at_call 112;refine (htx.out _).mono ?_;rintro e w8 ⟨rfl,hb8⟩;have hr8:=hr7.later hb8 hr7.lt;have hsl8:=hsl7.later (Nat.le_refl _) hb8;have hb8:=hb7.trans (hb8.mono hb7.size);have H8:=Lib.hid (show w8.heap[w.heap.size]?=some (.cells (adrV a0G).toArray 65 (0,0)) from hr8))
       | (with_reducible refine wpList_store_row rfl 65 (.tmp 2) (.tmp 87) rfl w.heap.size V.toArray rfl rfl 65 (adrV a0G).toArray H9.out hVz.out hVs.out hV1.out ?_;refine Hid.out ?_))
      refine Lib.hid ?_
      generalize hw6:World.setRow _ _ _=w6
      obtain⟨r6,hg6⟩:=a0z hr9 (show World.setRow _ w.heap.size V.toArray=w6 from hw6)
      have hb6:=hb9.grown hg6 hb9.size (fun k h=>by cases h;exact Nat.le_refl _)
      have R6:=Lib.hid (show w6.heap[w.heap.size]?=some (.cells V.toArray 65 (0,0)) from r6)
      clear hw6 r6 hg6
      go_wp2_with fail
      exact⟨rfl,_,a0g rfl _ _ w.heap.size 65 V.toArray (0,0) _ rfl R6.out Tryz.underlying65 rfl hVz.out _ rfl,by rw[HPV.out];rfl,hb6⟩
     ·have HP:=Lib.hid (show c0j s=none by rw[HP0.out,hn6];exact if_neg (fun h=>he h.2))
      have hne:((bstr (a0U (sixA l))).toList==(bstr s).toList)=false:=by rw[b0S];exact decide_eq_false he
      generalize a0U (sixA l)=X at *
      generalize adrV (sixA l)=V at *
      have tok1:True:=trivial
      clear hm he
      go_wp2_with (first
       | (go_at_call 111;refine (hnum6.out _).mono ?_;rintro e w5 ⟨v5,rfl,⟨u,rfl,hown⟩,hb5⟩;obtain⟨A,c,rfl,-,hsl⟩:=Sl.of_own hown;rw[h8];have hr5:=hr4.later hb5 hr4.lt;have hb5:=hb4.trans (hb5.mono hb4.size);clear hown)
       | (have _t:=tok1;go_at_call 113;refine (hsx.out A c _ hsl).mono ?_;rintro e w7 ⟨rfl,hb7⟩;have hr7:=hr5.later hb7 hr5.lt;have hsl7:=hsl.later (Nat.le_refl _) hb7;have hb7:=hb5.trans (hb7.mono hb5.size);clear tok1)
       | (go_at_call 112;refine (htx.out _).mono ?_;rintro e w8 ⟨rfl,hb8⟩;have hr8:=hr7.later hb8 hr7.lt;have hsl8:=hsl7.later (Nat.le_refl _) hb8;have hb8:=hb7.trans (hb8.mono hb7.size);have H8:=Lib.hid (show w8.heap[w.heap.size]?=some (.cells (adrV a0G).toArray 65 (0,0)) from hr8))
       | (with_reducible refine wpList_store_row rfl 65 (.tmp 2) (.tmp 85) rfl w.heap.size _ rfl rfl 65 (adrV a0G).toArray H8.out (by kernel_rfl) (by kernel_rfl) (by kernel_rfl) ?_;refine Hid.out ?_))
      refine Lib.hid ?_
      generalize hw6:World.setRow _ _ _=w6
      obtain⟨r6,hg6⟩:=a0z hr8 (show World.setRow _ w.heap.size (adrV a0G).toArray=w6 from hw6)
      have hb6:=hb8.grown hg6 hb8.size (fun k h=>by cases h;exact Nat.le_refl _)
      have R6:=Lib.hid (show w6.heap[w.heap.size]?=some (.cells (adrV a0G).toArray 65 (0,0)) from r6)
      clear hw6 r6 hg6
      go_wp2_with fail
      exact⟨rfl,_,a0g rfl _ _ w.heap.size 65 (adrV a0G).toArray (0,0) _ rfl R6.out Tryz.underlying65 rfl hzz.out _ rfl,by rw[HP.out];rfl,hb6⟩
    ·have HP:=Lib.hid (show c0j s=none by rw[HP0.out,hn6];exact if_neg (fun h=>h8 h.1))
     have h8':((l.length:Int)==8)=false:=by rw[beq_eq_false_iff_ne];omega
     clear hm
     go_wp2_with (first
      | (go_at_call 111;refine (hnum6.out _).mono ?_;rintro e w5 ⟨v5,rfl,⟨u,rfl,hown⟩,hb5⟩;have hr5:=hr4.later hb5 hr4.lt;have hb5:=hb4.trans (hb5.mono hb4.size);have H5:=Lib.hid (show w5.heap[w.heap.size]?=some (.cells (adrV a0G).toArray 65 (0,0)) from hr5);obtain⟨A,c,rfl,-,hsl⟩:=Sl.of_own hown;clear hown)
      | (with_reducible refine wpList_store_row rfl 65 (.tmp 2) (.tmp 85) rfl w.heap.size _ rfl rfl 65 (adrV a0G).toArray H5.out (by kernel_rfl) (by kernel_rfl) (by kernel_rfl) ?_;refine Hid.out ?_))
     refine Lib.hid ?_
     generalize hw6:World.setRow _ _ _=w6
     obtain⟨r6,hg6⟩:=a0z hr5 (show World.setRow _ w.heap.size (adrV a0G).toArray=w6 from hw6)
     have hb6:=hb5.grown hg6 hb5.size (fun k h=>by cases h;exact Nat.le_refl _)
     have R6:=Lib.hid (show w6.heap[w.heap.size]?=some (.cells (adrV a0G).toArray 65 (0,0)) from r6)
     clear hw6 r6 hg6
     go_wp2_with fail
     exact⟨rfl,_,a0g rfl _ _ w.heap.size 65 (adrV a0G).toArray (0,0) _ rfl R6.out Tryz.underlying65 rfl hzz.out _ rfl,by rw[HP.out];rfl,hb6⟩
set_option maxHeartbeats 4000000 in
theorem r0M (s:List UInt8) (hs:s.length≤100000) (w:World) (hE:Env w) :
  Calls Tryz.prog 105 #[.string (bstr s)] w fun e w'=>e=.returned (k0h (b0V s))∧Below w.heap.size w w':=by
 have hrd:=Lib.hid (fun w' hE=>u0m s hs w' hE)
 have hok:=m0z s
 have htx:=Lib.hid (fun w' hE=>m0X (d0i s) hok w' hE)
 have HP:=Lib.hid (s0V s)
 obtain⟨V,hV⟩:∃V,V=adrV (d0i s):=⟨_,rfl⟩
 obtain⟨Z,hZ⟩:∃Z,Z=adrV a0G:=⟨_,rfl⟩
 have hVl:V.length=17:=by rw[hV];exact a0l hok
 have hZl:Z.length=17:=by rw[hZ];exact a0l b0D
 have hsz:=Lib.hid (show (Tryz.prog.info? 65).map (·.size)=some V.toArray.size by rw[a0W,List.size_toArray,hVl])
 have hszZ:=Lib.hid (show (Tryz.prog.info? 65).map (·.size)=some Z.toArray.size by rw[a0W,List.size_toArray,hZl])
 have hV1:=Lib.hid (show V.toArray.all (·.oneCell')=true from a0Y (by rw[hV];exact c0A _))
 have hZ1:=Lib.hid (show Z.toArray.all (·.oneCell')=true from a0Y (by rw[hZ];exact c0A _))
 have hVs:=Lib.hid (show Z.toArray.size=V.toArray.size by rw[List.size_toArray,List.size_toArray,hVl,hZl])
 have HPs:=Lib.hid (show ∀b,(b=true→a0U (d0i s)=s)→(b=false→a0U (d0i s)≠s)→k0h (b0V s)=.tuple #[.agg (if b then V else Z).toArray,.bool b] by
  intro b h1 h2
  rw[HP.out]
  cases b with
  | true=>rw[if_pos (h1 rfl),hV];rfl
  | false=>rw[if_neg (h2 rfl),hZ];rfl)
 rw[←hV] at hrd htx
 have htl:=b0S (a0U (d0i s)) s
 have h17:=Lib.hid (show 17=V.toArray.size by rw[List.size_toArray,hVl])
 obtain⟨w1,hw1⟩:∃w1,w1=w.alloc (.cells (adrV a0G).toArray 65):=⟨_,rfl⟩
 have r1:Row w1 w.heap.size 65 Z:=by rw[hw1,hZ];exact Row.new w _ _
 have hb1:Below w.heap.size w w1:=by rw[hw1];exact (Below.refl _ w).alloc (Nat.le_refl _) _
 have hE1:=hE.next hb1
 by_cases hT:a0U (d0i s)=s
 ·have HX:=Lib.hid (show k0h (b0V s)=.tuple #[.agg V.toArray,.bool true] from HPs.out true (fun _=>hT) (fun h=>by cases h))
  rw[decide_eq_true hT] at htl
  clear hV hZ hok hE HPs HP hT hVl hZl
  generalize a0U (d0i s)=X at *
  generalize bstr X=T at *
  generalize hSe:bstr s=S at *
  clear hSe
  go_enter Tryz.func105,Tryz.ntmps105
  go_wp2_with (first
   | (go_at_call 143;change Calls _ _ _ (w.alloc (.cells (adrV a0G).toArray 65)) _;rw[←hw1];clear hw1;refine (hrd.out _ hE1).mono ?_;rintro e w2 ⟨rfl,hb2⟩;have r2:=r1.later hb2 r1.lt;have hE2:=hE1.next hb2;have hb2:=hb1.trans (hb2.mono hb1.size))
   | (have _t:=hE2;refine wpList_store_row rfl 65 (.tmp 4) (.tmp 6) rfl w2.heap.size V.toArray rfl rfl 65 _ (heap_alloc_new w2 _) hsz.out h17.out hV1.out ?_;refine Hid.out ?_))
  refine Lib.hid ?_
  generalize hw3:World.setRow _ _ _=w3
  obtain⟨r3,hb3'⟩:=a0p hw3
  have hE3:=hE2.next hb3'
  have r3b:=r2.later hb3' r2.lt
  have hb3:=hb2.trans (hb3'.mono hb2.size)
  have hlt3:=r2.lt
  have HR3:=Lib.hid (show w3.heap[w2.heap.size]?=some (.cells V.toArray 65 (0,0)) from r3)
  clear hw3 hb3'
  have tok2:True:=trivial
  go_wp2_with (first
   | (have _t:=tok2;with_reducible refine wpList_load_row rfl 65 (.tmp 4) rfl w2.heap.size rfl 65 V.toArray (0,0) _ HR3.out Tryz.underlying65 rfl hsz.out ?_;clear tok2)
   | (go_at_call 144;refine (htx.out _ hE3).mono ?_;rintro e w4 ⟨rfl,hb4⟩;have r4:=r3.later hb4 r3.lt;have r4b:=r3b.later hb4 r3b.lt;have hb4:=hb3.trans (hb4.mono hb3.size);have HR4:=Lib.hid (show w4.heap[w2.heap.size]?=some (.cells V.toArray 65 (0,0)) from r4);have H4:=Lib.hid (show w4.heap[w.heap.size]?=some (.cells Z.toArray 65 (0,0)) from r4b);clear r3 r3b r4 r4b)
   | (with_reducible refine wpList_load_row rfl 65 (.tmp 4) rfl w2.heap.size rfl 65 V.toArray (0,0) _ HR4.out Tryz.underlying65 rfl hsz.out ?_)
   | (with_reducible refine wpList_store_row rfl 65 (.tmp 2) (.tmp 12) rfl w.heap.size V.toArray rfl rfl 65 Z.toArray H4.out hsz.out hVs.out hV1.out ?_;refine Hid.out ?_))
  refine Lib.hid ?_
  generalize hw8:World.setRow _ _ _=w8
  obtain⟨r8,hg8⟩:=a0z (show Row w4 w.heap.size 65 Z from H4.out) hw8
  have hb8:=hb4.grown hg8 hb4.size (fun k h=>by cases h;exact Nat.le_refl _)
  have R8:=Lib.hid (show w8.heap[w.heap.size]?=some (.cells V.toArray 65 (0,0)) from r8)
  clear hw8 r8 hg8 H4 HR4
  go_wp2_with fail
  exact⟨rfl,_,a0g rfl _ _ w.heap.size 65 V.toArray (0,0) _ rfl R8.out Tryz.underlying65 rfl hsz.out _ rfl,by rw[HX.out];rfl,hb8⟩
 ·have HX:=Lib.hid (show k0h (b0V s)=.tuple #[.agg Z.toArray,.bool false] from HPs.out false (fun h=>by cases h) (fun _=>hT))
  rw[decide_eq_false hT] at htl
  have HZ:=Lib.hid hZ
  clear hV hZ hok hE HPs HP hT hVl hZl
  generalize a0U (d0i s)=X at *
  generalize bstr X=T at *
  generalize hSe:bstr s=S at *
  clear hSe
  go_enter Tryz.func105,Tryz.ntmps105
  go_wp2_with (first
   | (go_at_call 143;change Calls _ _ _ (w.alloc (.cells (adrV a0G).toArray 65)) _;rw[←hw1];clear hw1;refine (hrd.out _ hE1).mono ?_;rintro e w2 ⟨rfl,hb2⟩;have r2:=r1.later hb2 r1.lt;have hE2:=hE1.next hb2;have hb2:=hb1.trans (hb2.mono hb1.size))
   | (have _t:=hE2;refine wpList_store_row rfl 65 (.tmp 4) (.tmp 6) rfl w2.heap.size V.toArray rfl rfl 65 _ (heap_alloc_new w2 _) hsz.out h17.out hV1.out ?_;refine Hid.out ?_))
  refine Lib.hid ?_
  generalize hw3:World.setRow _ _ _=w3
  obtain⟨r3,hb3'⟩:=a0p hw3
  have hE3:=hE2.next hb3'
  have r3b:=r2.later hb3' r2.lt
  have hb3:=hb2.trans (hb3'.mono hb2.size)
  have hlt3:=r2.lt
  have HR3:=Lib.hid (show w3.heap[w2.heap.size]?=some (.cells V.toArray 65 (0,0)) from r3)
  clear hw3 hb3'
  have tok2:True:=trivial
  go_wp2_with (first
   | (have _t:=tok2;with_reducible refine wpList_load_row rfl 65 (.tmp 4) rfl w2.heap.size rfl 65 V.toArray (0,0) _ HR3.out Tryz.underlying65 rfl hsz.out ?_;clear tok2)
   | (go_at_call 144;refine (htx.out _ hE3).mono ?_;rintro e w4 ⟨rfl,hb4⟩;have r4:=r3.later hb4 r3.lt;have r4b:=r3b.later hb4 r3b.lt;have hb4:=hb3.trans (hb4.mono hb3.size);have HR4:=Lib.hid (show w4.heap[w2.heap.size]?=some (.cells V.toArray 65 (0,0)) from r4);have H4:=Lib.hid (show w4.heap[w.heap.size]?=some (.cells Z.toArray 65 (0,0)) from r4b);clear r3 r3b r4 r4b)
   | (have _t:=H4;refine wpList_store_row rfl 65 (.tmp 2) (.tmp 11) rfl w.heap.size Z.toArray rfl (by rw[HZ.out];rfl) 65 Z.toArray H4.out hszZ.out rfl hZ1.out ?_;refine Hid.out ?_))
  refine Lib.hid ?_
  generalize hw8:World.setRow _ _ _=w8
  obtain⟨r8,hg8⟩:=a0z (show Row w4 w.heap.size 65 Z from H4.out) hw8
  have hb8:=hb4.grown hg8 hb4.size (fun k h=>by cases h;exact Nat.le_refl _)
  have R8:=Lib.hid (show w8.heap[w.heap.size]?=some (.cells Z.toArray 65 (0,0)) from r8)
  clear hw8 r8 hg8 H4 HR4
  go_wp2_with fail
  exact⟨rfl,_,a0g rfl _ _ w.heap.size 65 Z.toArray (0,0) _ rfl R8.out Tryz.underlying65 rfl hszZ.out _ rfl,by rw[HX.out];rfl,hb8⟩
theorem a1Y (r:Rng) (a:Adr) (h:ofOk a r.n=true):hasR r a=((a.v6==r.a.v6&&decide (topL a.b r.n.toNat=r.a.b))&&r.n==r.n):=by
 unfold hasR
 rw[h,Bool.true_and,beq_self_eq_true,Bool.and_true]
set_option maxHeartbeats 4000000 in
theorem x0T (r:Rng) (h:r.Ok) (a:Adr) (ha:a.Ok) (w:World) :
  Calls Tryz.prog 197 #[.agg (rngV r).toArray,.agg (adrV a).toArray] w fun e w'=>e=.returned (.bool (hasR r a))∧Below w.heap.size w w':=by
 have hof:=Lib.hid (fun w'=>a1w a ha r.n w')
 have hXo:=c1I a r.n h.lo h.hi
 obtain⟨R,hR⟩:∃R,R=rngV r:=⟨_,rfl⟩
 obtain⟨X,hX⟩:∃X,X=rngV (ofR a r.n):=⟨_,rfl⟩
 obtain⟨V2,hV2⟩:∃V2,V2=adrV a:=⟨_,rfl⟩
 have HR:=Lib.hid (show R=adrV r.a++[Value.int .i64 r.n] by rw[hR];rfl)
 have HRl:=Lib.hid (a0l h.a)
 have hzA:=Lib.hid (show (Tryz.prog.info? 65).map (·.size)=some V2.length by rw[hV2,a0l ha];exact a0W)
 have hzR:=Lib.hid (show (Tryz.prog.info? 67).map (·.size)=some R.length by rw[hR,a0w r h.a];exact c0f)
 have hzX:=Lib.hid (show (Tryz.prog.info? 67).map (·.size)=some X.length by rw[hX,a0w _ hXo.a];exact c0f)
 have hzX2:=Lib.hid (show (Tryz.prog.info? 67).map (·.size)=some X.toArray.size by rw[List.size_toArray];exact hzX.out)
 have h18:=Lib.hid (show 18=X.toArray.size by rw[hX,List.size_toArray,a0w _ hXo.a])
 have hX1:=Lib.hid (show X.toArray.all (·.oneCell')=true by rw[hX];exact d0d _)
 obtain⟨w1,hw1⟩:∃w1,w1=(w.alloc (.cells R.toArray 67)).alloc (.cells V2.toArray 65):=⟨_,rfl⟩
 obtain⟨r1,q1,hb1,-⟩:=f0W hw1.symm
 have HW:=Lib.hid hw1
 have hcn:=w0H HRl.out HR.out r1
 have hEq:ofOk a r.n=true→∀w,(Op.equalIn 10000 67 (.agg X.toArray) (.agg R.toArray)).run Tryz.prog w=.ok (hasR r a) w:=by
  intro ho w'
  rw[hX,hR,a1b _ _ hXo.a h.a,a1Y r a ho,q0W a r.n ho];rfl
 rw[←hX,←hV2] at hof
 rw[←hR,←hV2]
 clear hR hX hV2 hw1
 have tok1:True:=trivial
 cases ho:ofOk a r.n with
 | false =>
  have HC:=Lib.hid (show hasR r a=false by unfold hasR;rw[ho];rfl)
  rw[ho] at hof
  generalize r.n=n at *
  clear hEq ho
  go_enter Tryz.func197,Tryz.ntmps197
  go_wp2_with (first
   | (have _t:=tok1;rw[←HW.out];clear tok1;with_reducible refine wpList_load_mid rfl 65 (.tmp 3) rfl (w.heap.size+1) 0 rfl V2 _ (a0m q1) Tryz.underlying65 rfl hzA.out ?_)
   | (go_at_call 229;refine (hof.out _).mono ?_;rintro e w2 ⟨rfl,hb2⟩;have hb2:=hb1.trans (hb2.mono hb1.size))
   | (have _t:=hb2;refine wpList_store_row rfl 67 (.tmp 5) (.tmp 12) rfl w2.heap.size X.toArray rfl rfl 67 _ (heap_alloc_new w2 _) hzX2.out h18.out hX1.out ?_;refine Hid.out ?_))
  refine Lib.hid ?_
  generalize hw4:World.setRow _ _ _=w4
  obtain⟨-,hb4'⟩:=a0p (xs:=X) hw4
  have hb4:=hb2.trans (hb4'.mono hb2.size)
  clear hw4 hb4'
  go_wp2_with fail
  go_ret
  exact⟨by rw[HC.out];rfl,hb4⟩
 | true =>
  have hEq:=hEq ho
  rw[ho] at hof
  generalize r.n=n at *
  generalize hasR r a=D at *
  clear ho
  go_enter Tryz.func197,Tryz.ntmps197
  go_wp2_with (first
   | (have _t:=tok1;rw[←HW.out];clear tok1;with_reducible refine wpList_load_mid rfl 65 (.tmp 3) rfl (w.heap.size+1) 0 rfl V2 _ (a0m q1) Tryz.underlying65 rfl hzA.out ?_)
   | (go_at_call 229;refine (hof.out _).mono ?_;rintro e w2 ⟨rfl,hb2⟩;have r2:=r1.later hb2 r1.lt;have hb2:=hb1.trans (hb2.mono hb1.size))
   | (have _t:=hb2;refine wpList_store_row rfl 67 (.tmp 5) (.tmp 12) rfl w2.heap.size X.toArray rfl rfl 67 _ (heap_alloc_new w2 _) hzX2.out h18.out hX1.out ?_;refine Hid.out ?_))
  refine Lib.hid ?_
  generalize hw4:World.setRow _ _ _=w4
  obtain⟨x4,hb4'⟩:=a0p (xs:=X) hw4
  have r4:=r2.later hb4' r2.lt
  have hb4:=hb2.trans (hb4'.mono hb2.size)
  clear hw4 hb4' r1 r2 q1 hcn
  generalize w2.heap.size=g at *
  have tok2:True:=trivial
  go_wp2_with (first
   | (have _t:=tok2;refine wpList_step fun K hK=>?_;refine a0X (some 16) rfl (by rfl) 67 (.tmp 5) rfl g 0 rfl X _ (a0m x4) Tryz.underlying67 rfl hzX.out ?_;refine hK _ _ ?_;clear hK tok2)
   | (refine wpList_step fun K hK=>?_;refine a0X (some 17) rfl (by rfl) 67 (.tmp 2) rfl w.heap.size 0 rfl R _ (a0m r4) Tryz.underlying67 rfl hzR.out ?_;refine hK _ _ ?_;clear hK))
  go_ret
  exact⟨rfl,hb4⟩
set_option maxHeartbeats 2000000 in
theorem o0Z (r:Rng) (h:r.Ok) (w:World) :
  Calls Tryz.prog 146 #[.agg (rngV r).toArray] w fun e w'=>e=.returned (.bool (c0b r))∧Below w.heap.size w w':=by
 have hh:=Lib.hid (fun w'=>show Calls Tryz.prog 197 #[.agg (rngV r).toArray,.agg (adrV r.a).toArray] w' fun e w''=>e=.returned (.bool (c0b r))∧Below w'.heap.size w' w'' from x0T r h r.a h.a w')
 obtain⟨R,hR⟩:∃R,R=rngV r:=⟨_,rfl⟩
 obtain⟨V,hV⟩:∃V,V=adrV r.a:=⟨_,rfl⟩
 have HR:=Lib.hid (show R=V++[Value.int .i64 r.n] by rw[hR,hV];rfl)
 have hzV:=Lib.hid (show (Tryz.prog.info? 65).map (·.size)=some V.length by rw[hV,a0l h.a];exact a0W)
 have hzR:=Lib.hid (show (Tryz.prog.info? 67).map (·.size)=some R.length by rw[hR,a0w r h.a];exact c0f)
 obtain⟨w1,hw1⟩:∃w1,w1=w.alloc (.cells R.toArray 67):=⟨_,rfl⟩
 have r1:Row w1 w.heap.size 67 R:=by rw[hw1];exact Row.new w _ _
 have hb1:Below w.heap.size w w1:=by rw[hw1];exact (Below.refl _ w).alloc (Nat.le_refl _) _
 have HW:=Lib.hid hw1
 rw[←hR,←hV] at hh
 rw[←hR]
 clear hR hV hw1
 generalize c0b r=D at *
 have tok1:True:=trivial
 go_enter Tryz.func146,Tryz.ntmps146
 go_wp2_with (first
  | (have _t:=tok1;rw[←HW.out];clear tok1;with_reducible refine wpList_load_mid rfl 67 (.tmp 1) rfl w.heap.size 0 rfl R _ (a0m r1) Tryz.underlying67 rfl hzR.out ?_)
  | (with_reducible refine wpList_load_mid rfl 65 (.tmp 4) rfl w.heap.size 0 rfl V _ (k0p HR.out r1) Tryz.underlying65 rfl hzV.out ?_)
  | (go_at_call 197;refine (hh.out _).mono ?_;rintro e w2 ⟨rfl,hb2⟩;have hb2:=hb1.trans (hb2.mono hb1.size)))
 go_ret
 exact⟨rfl,hb2⟩
theorem y0I (n:Int) (h:0≤n):Lib.itoa n=numL 10 n.toNat:=by
 unfold Lib.itoa
 rw[if_neg (by omega),d0I]
theorem u0d (n:Int) (h0:0≤n) (h1:n≤9223372036854775807) (w:World) (hE:Env w) :
  Calls Tryz.prog 147 #[.int .i64 n] w fun e w'=>e=.returned (.string (bstr (numL 10 n.toNat)))∧Below w.heap.size w w':=by
 refine (Tryz.strconv_Itoa n (by omega) h1 w hE.pow).mono ?_
 rintro e w' ⟨rfl,k,os,rfl⟩
 exact⟨by rw[y0I n h0];rfl,Lib.below_grow _ _ (Nat.le_refl _) k os⟩
def h0b (l:List UInt8):Int:=match Lib.atoiAll l with
 | .ok v=>v
 | .range=>Lib.atoiSat l
 | _=>0
theorem i0u (l:List UInt8):-9223372036854775808≤h0b l∧h0b l≤9223372036854775807:=by
 unfold h0b
 cases h:Lib.atoiAll l with
 | ok v =>
  have:=Lib.atoiAll_bounds h
  exact this
 | range =>
  have:=Lib.atoiSat_bounds l
  exact this
 | _=>show (-9223372036854775808:Int)≤0∧(0:Int)≤9223372036854775807;exact⟨by decide,by decide⟩
theorem f0J (l:List UInt8):(bstr l).data.toList=l:=rfl
theorem u0a (l:List UInt8) (hl:l.length≤100000) (w:World) (hE:Env w) :
  Calls Tryz.prog 106 #[.string (bstr l)] w fun e w'=>∃ev,e=.returned (.tuple #[.int .i64 (h0b l),ev])∧Below w.heap.size w w':=by
 obtain⟨-,-,-,⟨vs,hvs,hvs2⟩,⟨vr,hvr,hvr2⟩⟩:=hE
 have hz:=a0f l
 cases h:Lib.atoiAll l with
 | ok v =>
  have ev:h0b l=v:=by unfold h0b;rw[h]
  rw[ev]
  refine (Tryz.strconv_Atoi_ok (bstr l) (by omega) v (by rw[f0J];exact h) w).mono ?_
  rintro e w' ⟨rfl,hw⟩
  refine⟨_,rfl,?_⟩
  rcases hw with rfl | ⟨t,rfl⟩
  ·exact Below.refl _ _
  ·exact Lib.bytesWorld_below _ _ _
 | range =>
  have ev:h0b l=Lib.atoiSat l:=by unfold h0b;rw[h]
  rw[ev]
  refine (Tryz.strconv_Atoi_range (bstr l) (by omega) (by rw[f0J];exact h) vr w hvr hvr2).mono ?_
  rintro e w' ⟨N,rfl,-,-,hb⟩
  exact⟨_,by rw[f0J],hb⟩
 | _ =>
  have ev:h0b l=0:=by unfold h0b;rw[h]
  rw[ev]
  refine (Tryz.strconv_Atoi_syntax (bstr l) (by omega) (by rw[f0J];exact h) vs w hvs hvs2).mono ?_
  rintro e w' ⟨N,rfl,-,-,hb⟩
  exact⟨_,rfl,hb⟩
theorem x0Y:∀n:Nat,n≤128→h0b (numL 10 n)=(n:Int):=by
 have h:∀n:Fin 129,h0b (numL 10 n.1)=(n.1:Int):=by decide +kernel
 intro n hn
 exact h ⟨n,by omega⟩
def cutR (s:List UInt8):List UInt8×List UInt8:=((Lib.cut s [47]).1,(Lib.cut s [47]).2.1)
theorem a1J (s:List UInt8):(cutR s).1.length≤s.length∧(cutR s).2.length≤s.length:=by
 unfold cutR Lib.cut
 split
 ·simp;omega
 ·simp
theorem a1I (t u:List UInt8) (h:(47:UInt8)∉t):cutR (t++47 :: u)=(t,u):=by
 have hocc:Lib.occAt (t++47 :: u) [47] t.length=true:=by
  unfold Lib.occAt
  rw[List.drop_left]
  simp[List.isPrefixOf]
 have hi:Lib.index (t++47 :: u) [47]=(t.length:Int):=by
  rcases Lib.index_spec (t++47 :: u) [47] with ⟨-,h2⟩ | ⟨i,h1,h2,h3,h4⟩
  ·have:=h2 t.length (by simp)
   rw[hocc] at this;cases this
  ·by_cases hlt:i < t.length
   ·exfalso
    unfold Lib.occAt at h3
    rw[List.drop_append_of_le_length (by omega),List.drop_eq_getElem_cons hlt] at h3
    simp only[List.cons_append,List.isPrefixOf,Bool.and_true,beq_iff_eq] at h3
    exact h (by rw[h3];exact List.getElem_mem hlt)
   ·by_cases hgt:t.length < i
    ·have:=h4 t.length hgt
     rw[hocc] at this;cases this
    ·rw[h1];omega
 unfold cutR Lib.cut
 rw[hi,if_pos (by omega)]
 simp
def zaL (s:List UInt8):Adr:=(b0V s).getD a0G
theorem a1r (s:List UInt8):(zaL s).Ok:=by
 unfold zaL
 cases h:b0V s with
 | none=>exact b0D
 | some a=>exact ((d0S s a).1 h).1
theorem b1G (s:List UInt8):∃b,k0h (b0V s)=.tuple #[.agg (adrV (zaL s)).toArray,.bool b]:=by
 unfold zaL
 cases h:b0V s with
 | none=>exact⟨false,rfl⟩
 | some a=>exact⟨true,rfl⟩
def g0T (s:List UInt8):Rng:=⟨zaL (cutR s).1,h0b (cutR s).2⟩
theorem r0m (s:List UInt8):(g0T s).Ok:=⟨a1r _,(i0u _).1,(i0u _).2⟩
theorem w0A:b0t (g0T [])≠[]:=by decide +kernel
theorem p0J (s:List UInt8):b0p s=if b0t (g0T s)=s then some (g0T s) else none:=by
 by_cases h:b0t (g0T s)=s
 ·rw[if_pos h]
  refine (d0T s (g0T s)).2 ⟨(r0m s).a,(g0P _ ?_).1,h⟩
  rw[h]
  intro e
  rw[e] at h
  exact w0A h
 ·rw[if_neg h]
  cases hp:b0p s with
  | none=>rfl
  | some r =>
   exfalso
   apply h
   obtain⟨ho,hc,ht⟩:=(d0T s r).1 hp
   obtain⟨ca,n0,n1⟩:=d0k r hc
   have e:g0T s=r:=by
    unfold g0T
    rw[←ht,h0V r hc,a1I _ _ (r0y _)]
    unfold zaL
    rw[h0l r.a ho ca,x0Y _ (by omega),Int.toNat_of_nonneg n0]
    rfl
   rw[e];exact ht
theorem u0b (s:List UInt8) (hs:s.length≤100000) (w:World) (hE:Env w) :
  Calls Tryz.prog 104 #[.string (bstr s),.string ⟨#[47]⟩] w fun e w'=>e=.returned (.tuple #[.string (bstr (cutR s).1),.string (bstr (cutR s).2),.bool (Lib.cut s [47]).2.2])∧Below w.heap.size w w':=by
 obtain⟨m,hm⟩:=hE.most
 refine (Tryz.strings_Cut (bstr s) (bstr [47]) m w (by rw[a0f];omega) hm).mono ?_
 rintro e w' ⟨rfl,n,rfl⟩
 exact⟨rfl,j0z w n⟩
set_option maxHeartbeats 2000000 in
theorem p0c (r:Rng) (h:r.Ok) (w:World) (hE:Env w) :
  Calls Tryz.prog 107 #[.agg (rngV r).toArray] w fun e w'=>e=.returned (.string (bstr (b0t r)))∧Below w.heap.size w w':=by
 have hcr:=Lib.hid (fun w'=>o0Z r h w')
 have htx:=Lib.hid (fun w' hE=>m0X r.a h.a w' hE)
 have hlim:=d0k r
 obtain⟨R,hR⟩:∃R,R=rngV r:=⟨_,rfl⟩
 obtain⟨V,hV⟩:∃V,V=adrV r.a:=⟨_,rfl⟩
 have HR:=Lib.hid (show R=V++[Value.int .i64 r.n] by rw[hR,hV];rfl)
 have hVl:=Lib.hid (show V.length=17 by rw[hV];exact a0l h.a)
 have hzV:=Lib.hid (show (Tryz.prog.info? 65).map (·.size)=some V.length by rw[hVl.out];exact a0W)
 have hzR:=Lib.hid (show (Tryz.prog.info? 67).map (·.size)=some R.length by rw[hR,a0w r h.a];exact c0f)
 rw[←hR] at hcr ⊢
 rw[←hV] at htx
 clear hR hV
 obtain⟨w1,hw1⟩:∃w1,w1=w.alloc (.cells R.toArray 67):=⟨_,rfl⟩
 have r1:Row w1 w.heap.size 67 R:=by rw[hw1];exact Row.new w _ _
 have hb1:Below w.heap.size w w1:=by rw[hw1];exact (Below.refl _ w).alloc (Nat.le_refl _) _
 have hE1:=hE.next hb1
 have HW:=Lib.hid hw1
 clear hw1 hE
 have tok1:True:=trivial
 cases hc:c0b r with
 | false =>
  have HX:=Lib.hid (show b0t r=[] by unfold b0t;rw[hc];rfl)
  rw[hc] at hcr
  clear hc hlim
  go_enter Tryz.func107,Tryz.ntmps107
  go_wp2_with (first
   | (have _t:=tok1;rw[←HW.out];clear tok1;with_reducible refine wpList_load_mid rfl 67 (.tmp 1) rfl w.heap.size 0 rfl R _ (a0m r1) Tryz.underlying67 rfl hzR.out ?_)
   | (go_at_call 146;refine (hcr.out _).mono ?_;rintro e w2 ⟨rfl,hb2⟩;have hb2:=hb1.trans (hb2.mono hb1.size)))
  go_ret
  exact⟨by rw[HX.out];rfl,hb2⟩
 | true =>
  obtain⟨-,n0,n1⟩:=hlim hc
  have HX:=Lib.hid (show b0t r=(a0U r.a++[47])++numL 10 r.n.toNat by rw[h0V r hc];simp)
  have hnm:=Lib.hid (fun w' hE=>u0d r.n n0 (by omega) w' hE)
  have hl1:=k0H r.a
  have hl2:=b0f 10 (by omega) 2 r.n.toNat (by omega)
  rw[hc] at hcr
  generalize a0U r.a=A at *
  generalize numL 10 r.n.toNat=B at *
  generalize hn:r.n=n at *
  have hs1:(bstr A).size≤39:=by rw[a0f];exact hl1
  have hs2:(bstr B).size≤3:=by rw[a0f];exact hl2
  clear hc hlim n0 n1 hl1 hl2 hn
  go_enter Tryz.func107,Tryz.ntmps107
  go_wp2_with (first
   | (have _t:=tok1;rw[←HW.out];clear tok1;with_reducible refine wpList_load_mid rfl 67 (.tmp 1) rfl w.heap.size 0 rfl R _ (a0m r1) Tryz.underlying67 rfl hzR.out ?_)
   | (go_at_call 146;refine (hcr.out _).mono ?_;rintro e w2 ⟨rfl,hb2⟩;have r2:=r1.later hb2 r1.lt;have hE2:=hE1.next hb2;have hb2:=hb1.trans (hb2.mono hb1.size)))
  refine wp_region_noPanic ?_
  refine wp_region_held_drew (S:=fun w'=>Below w2.heap.size w2 w') (by kernel_rfl) ((Below.refl _ _).drew) (fun hHeld=>?_)
  have hB:=hHeld
  refine rt 0 6 hHeld ?_
  refine rt 1 7 hHeld ?_ (hy:=by intro w hS;exact a0A 65 (.tmp 6) rfl _ 0 rfl V _ (k0p HR.out (r2.later hS r2.lt)) Tryz.underlying65 rfl hzV.out)
  refine rt 4 10 hHeld ?_
  refine rt 5 11 hHeld ?_ (hy:=by intro w hS;have hcn:=w0H hVl.out HR.out (r2.later hS r2.lt);go_simp;try with_reducible rfl)
  refine wpAnyH_ready (rs:=[2]) (by kernel_rfl) (by simp) (AllReadyH.cons (o:=_) rfl (fun K hK=>?_) AllReadyH.nil)
  go_simp
  refine (htx.out _ (hE2.next hHeld)).mono ?_;rintro e ww22 ⟨rfl,hqw22⟩
  try go_wp2_with fail
  refine hK.out _ _ (hHeld.trans (hqw22.mono hHeld.size)) (fun hHeld'=>?_)
  clear hK K
  try (first | (rw[a0c];dsimp only[List.set]) | rw[a0d])
  have hB:=a0a hB hqw22
  have hB2:Below ww22.heap.size ww22 ww22:=Below.refl _ _
  refine a0j (S':=fun w'=>Below ww22.heap.size ww22 w') (fun _ h=>(hHeld.trans (hqw22.mono hHeld.size)).trans (h.mono (hHeld.trans (hqw22.mono hHeld.size)).size)) _ _ _ _ ?_
  clear hHeld
  have hHeld:Below ww22.heap.size ww22 ww22:=Below.refl _ _
  refine rt 3 9 hHeld ?_ (hy:=by intro w hS;go_simp;rw[if_neg (by (try simp only[ByteArray.size_append]);(try simp only[show ({ data:=#[47] } : ByteArray).size=1 from rfl]);omega)])
  refine wpAnyH_ready (rs:=[6]) (by kernel_rfl) (by simp) (AllReadyH.cons (o:=_) rfl (fun K hK=>?_) AllReadyH.nil)
  go_simp
  refine (hnm.out _ (hE2.next hB)).mono ?_;rintro e ww26 ⟨rfl,hqw26⟩
  try go_wp2_with fail
  refine hK.out _ _ (hHeld.trans (hqw26.mono hHeld.size)) (fun hHeld'=>?_)
  clear hK K
  try (first | (rw[a0c];dsimp only[List.set]) | rw[a0d])
  have hB:=a0a hB hqw26
  have hB2:=a0a hB2 hqw26
  have hB6:Below ww26.heap.size ww26 ww26:=Below.refl _ _
  refine a0j (S':=fun w'=>Below ww26.heap.size ww26 w') (fun _ h=>(hHeld.trans (hqw26.mono hHeld.size)).trans (h.mono (hHeld.trans (hqw26.mono hHeld.size)).size)) _ _ _ _ ?_
  clear hHeld
  have hHeld:Below ww26.heap.size ww26 ww26:=Below.refl _ _
  refine rt 7 13 hHeld ?_ (hy:=by intro w hS;go_simp;rw[if_neg (by (try simp only[ByteArray.size_append]);(try simp only[show ({ data:=#[47] } : ByteArray).size=1 from rfl]);omega)])
  refine rt 8 2 hHeld ?_
  refine wpAnyH_done (by kernel_rfl) ?_ _
  refine NoPanic.normal ?_
  have hbe:=hb2.trans (hB.mono hb2.size)
  clear hHeld
  go_wp2
  go_ret
  exact⟨by rw[HX.out];simp only[←a0r];rfl,hbe⟩
set_option maxHeartbeats 4000000 in
theorem m0U (s:List UInt8) (hs:s.length≤100000) (w:World) (hE:Env w) :
  Calls Tryz.prog 72 #[.string (bstr s)] w fun e w'=>e=.returned (i0N (b0p s))∧Below w.heap.size w w':=by
 obtain⟨hl1,hl2⟩:=a1J s
 have hcut:=Lib.hid (fun w' hE=>u0b s hs w' hE)
 obtain⟨b,hpe⟩:=b1G (cutR s).1
 have hpa:=Lib.hid (fun w' hE=>r0M (cutR s).1 (by omega) w' hE)
 rw[hpe] at hpa
 have hat:=Lib.hid (fun w' hE=>u0a (cutR s).2 (by omega) w' hE)
 have hXo:=r0m s
 have htx:=Lib.hid (fun w' hE=>p0c (g0T s) hXo w' hE)
 have HP:=Lib.hid (p0J s)
 have hzs:=b0S (b0t (g0T s)) s
 obtain⟨Z,hZ⟩:∃Z,Z=rngV a0P:=⟨_,rfl⟩
 obtain⟨X,hX⟩:∃X,X=rngV (g0T s):=⟨_,rfl⟩
 obtain⟨V,hV⟩:∃V,V=adrV (zaL (cutR s).1):=⟨_,rfl⟩
 have hVl:=Lib.hid (show V.length=17 by rw[hV];exact a0l (a1r _))
 have hzV:=Lib.hid (show (Tryz.prog.info? 65).map (·.size)=some V.length by rw[hVl.out];exact a0W)
 have hzV2:=Lib.hid (show (Tryz.prog.info? 65).map (·.size)=some V.toArray.size by rw[List.size_toArray];exact hzV.out)
 have h17:=Lib.hid (show 17=V.toArray.size by rw[List.size_toArray,hVl.out])
 have hV1:=Lib.hid (show V.toArray.all (·.oneCell')=true by rw[hV];exact m0R _)
 have hXl:=a0w _ hXo.a
 have hzX:=Lib.hid (show (Tryz.prog.info? 67).map (·.size)=some X.length by rw[hX,hXl];exact c0f)
 have hzX2:=Lib.hid (show (Tryz.prog.info? 67).map (·.size)=some X.toArray.size by rw[List.size_toArray];exact hzX.out)
 have h18:=Lib.hid (show 18=X.toArray.size by rw[hX,List.size_toArray,hXl])
 have hX1:=Lib.hid (show X.toArray.all (·.oneCell')=true by rw[hX];exact d0d _)
 have hzZ:=Lib.hid (show (Tryz.prog.info? 67).map (·.size)=some Z.toArray.size by rw[hZ,List.size_toArray,a0w _ b0D];exact c0f)
 have hZ1:=Lib.hid (show Z.toArray.all (·.oneCell')=true by rw[hZ];exact d0d _)
 have hZX:=Lib.hid (show Z.toArray.size=X.toArray.size by rw[hX,hZ,List.size_toArray,List.size_toArray,hXl,a0w _ b0D])
 have hZe:=Lib.hid (hZ.trans h0Q)
 have HXe:=Lib.hid (show X=V++[Value.int .i64 (h0b (cutR s).2)] by rw[hX,hV];rfl)
 have HPt:=Lib.hid (show b0t (g0T s)=s→i0N (b0p s)=.tuple #[.agg X.toArray,.bool true] by intro h;rw[HP.out,if_pos h,hX];rfl)
 have HPf:=Lib.hid (show b0t (g0T s)≠s→i0N (b0p s)=.tuple #[.agg Z.toArray,.bool false] by intro h;rw[HP.out,if_neg h,hZ];rfl)
 obtain⟨w1,hw1⟩:∃w1,w1=w.alloc (.cells Z.toArray 67):=⟨_,rfl⟩
 have q1:Row w1 w.heap.size 67 Z:=by rw[hw1];exact Row.new w _ _
 have hb1:Below w.heap.size w w1:=by rw[hw1];exact (Below.refl _ w).alloc (Nat.le_refl _) _
 have hE1:=hE.next hb1
 have HW:=Lib.hid (show w1=w.alloc (.cells #[Value.bool false,.int .u8 0,.int .u8 0,.int .u8 0,.int .u8 0,.int .u8 0,.int .u8 0,.int .u8 0,.int .u8 0,.int .u8 0,.int .u8 0,.int .u8 0,.int .u8 0,.int .u8 0,.int .u8 0,.int .u8 0,.int .u8 0,.int .i64 0] 67) by rw[hw1,hZe.out])
 rw[←hV] at hpa
 rw[←hX] at htx
 clear hw1 hV hX hZ hE hs hl1 hl2 hpe HP hXl
 generalize h0b (cutR s).2=n at *
 generalize (Lib.cut s [47]).2.2=fd at *
 generalize bstr (cutR s).1=F at *
 generalize bstr (cutR s).2=B at *
 by_cases hT:b0t (g0T s)=s
 case pos =>
  have HX:=Lib.hid (HPt.out hT)
  rw[decide_eq_true hT] at hzs
  clear HPt HPf hT hXo
  generalize b0t (g0T s)=tx at *
  generalize bstr tx=TX at *
  generalize bstr s=S at *
  go_enter Tryz.func72,Tryz.ntmps72
  go_wp2_with (first
   | (go_at_call 104;rw[←HW.out];refine (hcut.out _ hE1).mono ?_;rintro e w2 ⟨rfl,hb2⟩;have hE2:=hE1.next hb2;have q2:=q1.later hb2 q1.lt;have hb2:=hb1.trans (hb2.mono hb1.size);clear HW q1)
   | (go_at_call 105;refine (hpa.out _ hE2).mono ?_;rintro e w3 ⟨rfl,hb3⟩;have hE3:=hE2.next hb3;have q3:=q2.later hb3 q2.lt;have hb3:=hb2.trans (hb3.mono hb2.size);clear q2)
   | (have _t:=hb3;refine wpList_store_row rfl 65 (.tmp 7) (.tmp 21) rfl w3.heap.size V.toArray rfl rfl 65 _ (heap_alloc_new w3 _) hzV2.out h17.out hV1.out ?_;refine Hid.out ?_))
  refine Lib.hid ?_
  generalize hw4:World.setRow _ _ _=w4
  obtain⟨r4,hb4'⟩:=a0p (xs:=V) hw4
  have hE4:=hE3.next hb4'
  have q4:=q3.later hb4' q3.lt
  have hb4:=hb3.trans (hb4'.mono hb3.size)
  clear hw4 hb4' q3
  generalize w3.heap.size=g at *
  go_wp2_with (first
   | (go_at_call 106;refine (hat.out _ hE4).mono ?_;rintro e w5 ⟨ev,rfl,hb5⟩;have hE5:=hE4.next hb5;have q5:=q4.later hb5 q4.lt;have r5:=r4.later hb5 r4.lt;have hb5:=hb4.trans (hb5.mono hb4.size);clear q4 r4)
   | (have _t:=hE5;with_reducible refine wpList_load_mid rfl 65 (.tmp 7) rfl g 0 rfl V _ (a0m r5) Tryz.underlying65 rfl hzV.out ?_)
   | (refine b0a rfl 67 0 1 (.tmp 28) (.tmp 29) rfl (.agg V.toArray) (.int .i64 n) (.agg X.toArray) rfl rfl (by rw[HXe.out];exact g0i V n hVl.out _) ?_)
   | (have _t:=hE5;refine wpList_store_row rfl 67 (.tmp 11) (.tmp 30) rfl w5.heap.size X.toArray rfl rfl 67 _ (heap_alloc_new w5 _) hzX2.out h18.out hX1.out ?_;refine Hid.out ?_))
  refine Lib.hid ?_
  generalize hw6:World.setRow _ _ _=w6
  obtain⟨x6,hb6'⟩:=a0p (xs:=X) hw6
  have hE6:=hE5.next hb6'
  have q6:=q5.later hb6' q5.lt
  have hb6:=hb5.trans (hb6'.mono hb5.size)
  clear hw6 hb6' q5 r5
  generalize w5.heap.size=g2 at *
  have tok2:True:=trivial
  go_wp2_with (first
   | (have _t:=tok2;with_reducible refine wpList_load_mid rfl 67 (.tmp 11) rfl g2 0 rfl X _ (a0m x6) Tryz.underlying67 rfl hzX.out ?_;clear tok2)
   | (go_at_call 107;refine (htx.out _ hE6).mono ?_;rintro e w7 ⟨rfl,hb7⟩;have x7:=x6.later hb7 x6.lt;have Q7:=Lib.hid (show w7.heap[w.heap.size]?=some (.cells Z.toArray 67 (0,0)) from q6.later hb7 q6.lt);have hb7:=hb6.trans (hb7.mono hb6.size);clear x6 q6)
   | (with_reducible refine wpList_load_mid rfl 67 (.tmp 11) rfl g2 0 rfl X _ (a0m x7) Tryz.underlying67 rfl hzX.out ?_)
   | (with_reducible refine wpList_store_row rfl 67 (.tmp 2) (.tmp 36) rfl w.heap.size X.toArray rfl rfl 67 Z.toArray Q7.out hzX2.out hZX.out hX1.out ?_;refine Hid.out ?_))
  refine Lib.hid ?_
  generalize hw8:World.setRow _ _ _=w8
  obtain⟨r8,hg8⟩:=a0z (show Row w7 w.heap.size 67 Z from Q7.out) hw8
  have hb8:=hb7.grown hg8 hb7.size (fun k h=>by cases h;exact Nat.le_refl _)
  have R8:=Lib.hid (show w8.heap[w.heap.size]?=some (.cells X.toArray 67 (0,0)) from r8)
  clear hw8 r8 hg8 Q7
  go_wp2_with fail
  exact⟨rfl,_,a0g rfl _ _ w.heap.size 67 X.toArray (0,0) _ rfl R8.out Tryz.underlying67 rfl hzX2.out _ rfl,by rw[HX.out];rfl,hb8⟩
 case neg =>
  have HX:=Lib.hid (HPf.out hT)
  rw[decide_eq_false hT] at hzs
  clear HPt HPf hT hXo
  generalize b0t (g0T s)=tx at *
  generalize bstr tx=TX at *
  generalize bstr s=S at *
  go_enter Tryz.func72,Tryz.ntmps72
  go_wp2_with (first
   | (go_at_call 104;rw[←HW.out];refine (hcut.out _ hE1).mono ?_;rintro e w2 ⟨rfl,hb2⟩;have hE2:=hE1.next hb2;have q2:=q1.later hb2 q1.lt;have hb2:=hb1.trans (hb2.mono hb1.size);clear HW q1)
   | (go_at_call 105;refine (hpa.out _ hE2).mono ?_;rintro e w3 ⟨rfl,hb3⟩;have hE3:=hE2.next hb3;have q3:=q2.later hb3 q2.lt;have hb3:=hb2.trans (hb3.mono hb2.size);clear q2)
   | (have _t:=hb3;refine wpList_store_row rfl 65 (.tmp 7) (.tmp 21) rfl w3.heap.size V.toArray rfl rfl 65 _ (heap_alloc_new w3 _) hzV2.out h17.out hV1.out ?_;refine Hid.out ?_))
  refine Lib.hid ?_
  generalize hw4:World.setRow _ _ _=w4
  obtain⟨r4,hb4'⟩:=a0p (xs:=V) hw4
  have hE4:=hE3.next hb4'
  have q4:=q3.later hb4' q3.lt
  have hb4:=hb3.trans (hb4'.mono hb3.size)
  clear hw4 hb4' q3
  generalize w3.heap.size=g at *
  go_wp2_with (first
   | (go_at_call 106;refine (hat.out _ hE4).mono ?_;rintro e w5 ⟨ev,rfl,hb5⟩;have hE5:=hE4.next hb5;have q5:=q4.later hb5 q4.lt;have r5:=r4.later hb5 r4.lt;have hb5:=hb4.trans (hb5.mono hb4.size);clear q4 r4)
   | (have _t:=hE5;with_reducible refine wpList_load_mid rfl 65 (.tmp 7) rfl g 0 rfl V _ (a0m r5) Tryz.underlying65 rfl hzV.out ?_)
   | (refine b0a rfl 67 0 1 (.tmp 28) (.tmp 29) rfl (.agg V.toArray) (.int .i64 n) (.agg X.toArray) rfl rfl (by rw[HXe.out];exact g0i V n hVl.out _) ?_)
   | (have _t:=hE5;refine wpList_store_row rfl 67 (.tmp 11) (.tmp 30) rfl w5.heap.size X.toArray rfl rfl 67 _ (heap_alloc_new w5 _) hzX2.out h18.out hX1.out ?_;refine Hid.out ?_))
  refine Lib.hid ?_
  generalize hw6:World.setRow _ _ _=w6
  obtain⟨x6,hb6'⟩:=a0p (xs:=X) hw6
  have hE6:=hE5.next hb6'
  have q6:=q5.later hb6' q5.lt
  have hb6:=hb5.trans (hb6'.mono hb5.size)
  clear hw6 hb6' q5 r5
  generalize w5.heap.size=g2 at *
  have tok2:True:=trivial
  go_wp2_with (first
   | (have _t:=tok2;with_reducible refine wpList_load_mid rfl 67 (.tmp 11) rfl g2 0 rfl X _ (a0m x6) Tryz.underlying67 rfl hzX.out ?_;clear tok2)
   | (go_at_call 107;refine (htx.out _ hE6).mono ?_;rintro e w7 ⟨rfl,hb7⟩;have x7:=x6.later hb7 x6.lt;have Q7:=Lib.hid (show w7.heap[w.heap.size]?=some (.cells Z.toArray 67 (0,0)) from q6.later hb7 q6.lt);have hb7:=hb6.trans (hb7.mono hb6.size);clear x6 q6)
   | (have _t:=Q7;refine wpList_store_row rfl 67 (.tmp 2) (.tmp 35) rfl w.heap.size Z.toArray rfl (by rw[hZe.out];rfl) 67 Z.toArray Q7.out hzZ.out rfl hZ1.out ?_;refine Hid.out ?_))
  refine Lib.hid ?_
  generalize hw8:World.setRow _ _ _=w8
  obtain⟨r8,hg8⟩:=a0z (show Row w7 w.heap.size 67 Z from Q7.out) hw8
  have hb8:=hb7.grown hg8 hb7.size (fun k h=>by cases h;exact Nat.le_refl _)
  have R8:=Lib.hid (show w8.heap[w.heap.size]?=some (.cells Z.toArray 67 (0,0)) from r8)
  clear hw8 r8 hg8 Q7
  go_wp2_with fail
  exact⟨rfl,_,a0g rfl _ _ w.heap.size 67 Z.toArray (0,0) _ rfl R8.out Tryz.underlying67 rfl hzZ.out _ rfl,by rw[HX.out];rfl,hb8⟩
end Go.Proofs.YtimdhdimhboboaaGreatDoor
