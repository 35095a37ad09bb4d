import Derived.Test.YtimdhdimhboboaaGreatDoorRbbd
import Derived.Test.YtimdhdimhboboaaGreatDoorRbbe
import Derived.Test.YtimdhdimhboboaaGreatDoorRbah
namespace Go.Proofs.YtimdhdimhboboaaGreatDoor
set_option maxRecDepth 100000
open Go Go.RowKit
structure r0I (w:World) (X:List Value) (t:Tok) (A:Option Addr) (c:Nat) (wx:World):Prop where
 tok:Row wx w.heap.size 27 X
 sl:Sl wx A (c*5) (t.cavs.flatMap cavV)
 env:EnvJ wx
 bel:Below w.heap.size w wx
theorem r0I.later {w wx wy:World} {X:List Value} {t:Tok} {A:Option Addr} {c:Nat} (h:r0I w X t A c wx) (hq:Below wx.heap.size wx wy):r0I w X t A c wy :=
 ⟨h.tok.later hq h.tok.lt,h.sl.later (Nat.le_refl _) hq,h.env.next hq,h.bel.trans (hq.mono h.bel.size)⟩
theorem a1y {t:Tok} (ht:t.Ok) (s:List UInt8):(attT t s).Ok:=by
 unfold attT;split
 ·exact h0D ht (by show (0:Nat) < _;decide)
 ·exact d0p
theorem x0Z (t:Tok) (s:List UInt8):(attT t s).cavs.length≤t.cavs.length+1:=by
 unfold attT;split
 ·show (t.cavs++[b0m s]).length≤_;rw[List.length_append];exact Nat.le_refl _
 ·exact Nat.zero_le _
set_option maxHeartbeats 8000000 in
theorem v0A (t:Tok) (ht:t.Ok) (htf:t.Fit) (A:Option Addr) (c:Nat) (s:List UInt8) (w:World) (hs:Sl w A (c*5) (t.cavs.flatMap cavV)) (hE:EnvJ w) (g1:10000 < capT t) :
  Calls Tryz.prog 4 #[.agg (tokV t A c).toArray,.string (bstr s)] w fun e w'=>e=.returned (.bool true)∧Below w.heap.size w w':=by
 obtain⟨X,hX⟩:∃X,X=tokV t A c:=⟨_,rfl⟩
 have hXl:X.length=36:=by rw[hX];exact a0u ht A c
 have hzX:=Lib.hid (show (Tryz.prog.info? 27).map (·.size)=some X.length by rw[hXl];exact a0T)
 obtain⟨w1,hw1⟩:∃w1,w1=w.alloc (.cells X.toArray 27):=⟨_,rfl⟩
 have r1:Row w1 w.heap.size 27 X:=by rw[hw1];exact Row.new w _ _
 have hb1:Below w.heap.size w w1:=by rw[hw1];exact (Below.refl _ w).alloc (Nat.le_refl _) _
 have HW:=Lib.hid hw1
 have I:r0I w X t A c w1:=⟨r1,hs.later (Nat.le_refl _) hb1,hE.next hb1,hb1⟩
 have hgt:=fun w' h=>h0m t htf A c w' h
 have hsz:((bstr s).size:Int)=(s.length:Int):=by simp[bstr,ByteArray.size]
 have HX:=Lib.hid hX
 rw[←hX] at hgt
 rw[←hX]
 clear hw1 hX hXl r1 hb1
 have tok1:True:=trivial
 simp only[if_pos g1] at hgt
 have hgt:=Lib.hid hgt
 go_enter Tryz.func4,Tryz.ntmps4
 go_wp2_with (first
  | (have _t:=tok1;rw[←HW.out];clear tok1)
  | (go_at_call 6;refine (i0j _ I.env).mono ?_;rintro e w2 ⟨rfl,hq⟩;have I:=I.later hq;have K2:=Lib.hid (a0m I.tok);clear hq)
  | (with_reducible refine wpList_load_mid rfl 27 (.tmp 2) rfl w.heap.size 0 rfl X _ K2.out Tryz.underlying27 rfl hzX.out ?_)
  | (go_at_call 7;refine (hgt.out _ I.sl).mono ?_;rintro e w3 ⟨rfl,hq⟩;have I:=I.later hq;clear hq))
 go_ret
 exact⟨rfl,I.bel⟩
set_option maxHeartbeats 8000000 in
theorem v0B (t:Tok) (ht:t.Ok) (htf:t.Fit) (A:Option Addr) (c:Nat) (s:List UInt8) (w:World) (hs:Sl w A (c*5) (t.cavs.flatMap cavV)) (hE:EnvJ w) (g1:¬10000 < capT t) (g2:2000 < s.length) :
  Calls Tryz.prog 4 #[.agg (tokV t A c).toArray,.string (bstr s)] w fun e w'=>e=.returned (.bool true)∧Below w.heap.size w w':=by
 obtain⟨X,hX⟩:∃X,X=tokV t A c:=⟨_,rfl⟩
 have hXl:X.length=36:=by rw[hX];exact a0u ht A c
 have hzX:=Lib.hid (show (Tryz.prog.info? 27).map (·.size)=some X.length by rw[hXl];exact a0T)
 obtain⟨w1,hw1⟩:∃w1,w1=w.alloc (.cells X.toArray 27):=⟨_,rfl⟩
 have r1:Row w1 w.heap.size 27 X:=by rw[hw1];exact Row.new w _ _
 have hb1:Below w.heap.size w w1:=by rw[hw1];exact (Below.refl _ w).alloc (Nat.le_refl _) _
 have HW:=Lib.hid hw1
 have I:r0I w X t A c w1:=⟨r1,hs.later (Nat.le_refl _) hb1,hE.next hb1,hb1⟩
 have hgt:=fun w' h=>h0m t htf A c w' h
 have hsz:((bstr s).size:Int)=(s.length:Int):=by simp[bstr,ByteArray.size]
 have HX:=Lib.hid hX
 rw[←hX] at hgt
 rw[←hX]
 clear hw1 hX hXl r1 hb1
 have tok1:True:=trivial
 simp only[if_neg g1] at hgt
 have hgt:=Lib.hid hgt
 have g2':(2000:Int) < (s.length:Int):=by omega
 go_enter Tryz.func4,Tryz.ntmps4
 go_wp2_with (first
  | (have _t:=tok1;rw[←HW.out];clear tok1)
  | (go_at_call 6;refine (i0j _ I.env).mono ?_;rintro e w2 ⟨rfl,hq⟩;have I:=I.later hq;have K2:=Lib.hid (a0m I.tok);clear hq)
  | (with_reducible refine wpList_load_mid rfl 27 (.tmp 2) rfl w.heap.size 0 rfl X _ K2.out Tryz.underlying27 rfl hzX.out ?_)
  | (go_at_call 7;refine (hgt.out _ I.sl).mono ?_;rintro e w3 ⟨rfl,hq⟩;have I:=I.later hq;clear hq))
 go_ret
 exact⟨rfl,I.bel⟩
set_option maxHeartbeats 8000000 in
theorem p0t (t:Tok) (ht:t.Ok) (htf:t.Fit) (A:Option Addr) (c:Nat) (s:List UInt8) (w:World) (hs:Sl w A (c*5) (t.cavs.flatMap cavV)) (hE:EnvJ w) (g1:¬10000 < capT t) (g2:¬2000 < s.length) :
  Calls Tryz.prog 4 #[.agg (tokV t A c).toArray,.string (bstr s)] w fun e w'=>e=.returned (.bool true)∧Below w.heap.size w w':=by
 obtain⟨X,hX⟩:∃X,X=tokV t A c:=⟨_,rfl⟩
 have hXl:X.length=36:=by rw[hX];exact a0u ht A c
 have hzX:=Lib.hid (show (Tryz.prog.info? 27).map (·.size)=some X.length by rw[hXl];exact a0T)
 obtain⟨w1,hw1⟩:∃w1,w1=w.alloc (.cells X.toArray 27):=⟨_,rfl⟩
 have r1:Row w1 w.heap.size 27 X:=by rw[hw1];exact Row.new w _ _
 have hb1:Below w.heap.size w w1:=by rw[hw1];exact (Below.refl _ w).alloc (Nat.le_refl _) _
 have HW:=Lib.hid hw1
 have I:r0I w X t A c w1:=⟨r1,hs.later (Nat.le_refl _) hb1,hE.next hb1,hb1⟩
 have hgt:=fun w' h=>h0m t htf A c w' h
 have hsz:((bstr s).size:Int)=(s.length:Int):=by simp[bstr,ByteArray.size]
 have HX:=Lib.hid hX
 rw[←hX] at hgt
 rw[←hX]
 clear hw1 hX hXl r1 hb1
 have tok1:True:=trivial
 simp only[if_neg g1] at hgt
 have hgt:=Lib.hid hgt
 have hc:capT t≤10000:=by omega
 have hcs:capC (b0m s)≤10000:=by show s.length+0+0+1≤_;omega
 have hda:=Lib.hid (show ∀w',EnvJ w'→Sl w' A (c*5) (t.cavs.flatMap cavV)→Calls Tryz.prog 19 #[.agg X.toArray,.string (bstr s)] w' (d0z (attT t s) (i0y t s) w') by
  rw[HX.out];exact fun w' h hs=>v0w t ht s (c0x s) (fun w' h=>o0p s (by omega) w' h) (by omega) (s0f hc hcs) (g0C hc) A c w' h.tabs h.cav hs)
 have hra:=Lib.hid (show ∀w',Sl w' A (c*5) (t.cavs.flatMap cavV)→Calls Tryz.prog 20 #[.agg X.toArray,.string (bstr s)] w' (d0z (attT t s) (i0y t s) w') by
  rw[HX.out];exact fun w' hs=>z0A t ht s (by omega) (g0C hc) A c w' hs)
 have hUo:=a1y ht s
 have hUl:=x0Z t s
 have hml:=g0C hc
 have g2':¬(2000:Int) < (s.length:Int):=by omega
 generalize attT t s=U at *
 generalize i0y t s=er at *
 have hss:=Lib.hid (fun (B:Option Addr) (d:Nat) (B':Option Addr) (d':Nat) (w':World) h h'=>w0L U U hUo hUo B d B' d' w' h h' (by omega))
 simp only[decide_true] at hss
 clear hUl hml hc hcs
 unfold d0z at hda hra
 go_enter Tryz.func4,Tryz.ntmps4
 go_wp2_with (first
  | (have _t:=tok1;rw[←HW.out];clear tok1)
  | (go_at_call 6;refine (i0j _ I.env).mono ?_;rintro e w2 ⟨rfl,hq⟩;have I:=I.later hq;have K2:=Lib.hid (a0m I.tok);clear hq)
  | (with_reducible refine wpList_load_mid rfl 27 (.tmp 2) rfl w.heap.size 0 rfl X _ K2.out Tryz.underlying27 rfl hzX.out ?_)
  | (go_at_call 7;refine (hgt.out _ I.sl).mono ?_;rintro e w3 ⟨rfl,hq⟩;have I:=I.later hq;clear hq;have K2:=Lib.hid (a0m I.tok))
  | (go_at_call 19;refine (hda.out _ I.env I.sl).mono ?_;rintro e w4 ⟨B1,d1,rfl,t1,-,hq⟩;have I:=I.later hq;clear hq;have hVl:=a0u hUo B1 d1;have hzV:=Lib.hid (show (Tryz.prog.info? 27).map (·.size)=some (tokV U B1 d1).toArray.size by rw[List.size_toArray,hVl];exact a0T);have h36:=Lib.hid (show 36=(tokV U B1 d1).toArray.size by rw[List.size_toArray,hVl]);have hV1:=Lib.hid (show (tokV U B1 d1).toArray.all (·.oneCell')=true by rw[List.all_toArray,List.all_eq_true];exact b0W _ _ _);clear hVl)
  | (have _t:=h36;refine wpList_store_row rfl 27 (.tmp 5) (.tmp 23) rfl w4.heap.size (tokV U B1 d1).toArray rfl rfl 27 _ (heap_alloc_new w4 _) hzV.out (Eq.trans (by kernel_rfl) h36.out) hV1.out ?_;refine Hid.out ?_))
 refine Lib.hid ?_
 generalize hww:World.setRow _ _ _=w5
 obtain⟨q1,hq⟩:=a0p (xs:=tokV U B1 d1) hww
 have I:=I.later hq
 have t1:=t1.later (Nat.le_refl _) hq
 generalize w4.heap.size=b1 at *
 clear hww hq hzV h36 hV1 hda K2
 have K2:=Lib.hid (a0m I.tok)
 go_wp2_with (first
  | (with_reducible refine wpList_load_mid rfl 27 (.tmp 2) rfl w.heap.size 0 rfl X _ K2.out Tryz.underlying27 rfl hzX.out ?_)
  | (go_at_call 20;refine (hra.out _ I.sl).mono ?_;rintro e w6 ⟨B2,d2,rfl,t2,-,hq⟩;have I:=I.later hq;have t1:=t1.later (Nat.le_refl _) hq;have q1:=q1.later hq q1.lt;clear hq;have hVl:=a0u hUo B2 d2;have hzV:=Lib.hid (show (Tryz.prog.info? 27).map (·.size)=some (tokV U B2 d2).toArray.size by rw[List.size_toArray,hVl];exact a0T);have h36:=Lib.hid (show 36=(tokV U B2 d2).toArray.size by rw[List.size_toArray,hVl]);have hV1:=Lib.hid (show (tokV U B2 d2).toArray.all (·.oneCell')=true by rw[List.all_toArray,List.all_eq_true];exact b0W _ _ _);clear hVl)
  | (have _t:=h36;refine wpList_store_row rfl 27 (.tmp 7) (.tmp 29) rfl w6.heap.size (tokV U B2 d2).toArray rfl rfl 27 _ (heap_alloc_new w6 _) hzV.out (Eq.trans (by kernel_rfl) h36.out) hV1.out ?_;refine Hid.out ?_))
 refine Lib.hid ?_
 generalize hww:World.setRow _ _ _=w7
 obtain⟨q2,hq⟩:=a0p (xs:=tokV U B2 d2) hww
 have I:=I.later hq
 have t1:=t1.later (Nat.le_refl _) hq
 have q1:=q1.later hq q1.lt
 have t2:=t2.later (Nat.le_refl _) hq
 generalize w6.heap.size=b2 at *
 have hz1:=Lib.hid (show (Tryz.prog.info? 27).map (·.size)=some (tokV U B1 d1).length by rw[a0u hUo];exact a0T)
 have hz2:=Lib.hid (show (Tryz.prog.info? 27).map (·.size)=some (tokV U B2 d2).length by rw[a0u hUo];exact a0T)
 have hsm:=Lib.hid (hss.out B1 d1 B2 d2)
 clear hww hq hzV h36 hV1 hra K2 hss hUo
 go_wp2_with (first
  | ((with_reducible refine wpList_step fun K hK=>?_);refine a0X (some 35) rfl (by rfl) 27 (.tmp 5) rfl b1 0 rfl (tokV U B1 d1) _ (a0m q1) Tryz.underlying27 rfl hz1.out ?_;refine hK _ _ ?_;clear hK)
  | ((with_reducible refine wpList_step fun K hK=>?_);refine a0X (some 36) rfl (by rfl) 27 (.tmp 7) rfl b2 0 rfl (tokV U B2 d2) _ (a0m q2) Tryz.underlying27 rfl hz2.out ?_;refine hK _ _ ?_;clear hK)
  | (go_at_call 18;refine (hsm.out _ t1 t2).mono ?_;rintro e w8 ⟨rfl,hq⟩;have I:=I.later hq;clear hq))
 go_ret
 exact⟨by first | rfl | simp,I.bel⟩
theorem p0u (t:Tok) (ht:t.Ok) (htf:t.Fit) (A:Option Addr) (c:Nat) (s:List UInt8) (w:World) (hs:Sl w A (c*5) (t.cavs.flatMap cavV)) (hE:EnvJ w) :
  Calls Tryz.prog 4 #[.agg (tokV t A c).toArray,.string (bstr s)] w fun e w'=>e=.returned (.bool true)∧Below w.heap.size w w':=by
 by_cases g1:10000 < capT t
 ·exact v0A t ht htf A c s w hs hE g1
 by_cases g2:2000 < s.length
 ·exact v0B t ht htf A c s w hs hE g1 g2
 exact p0t t ht htf A c s w hs hE g1 g2
end Go.Proofs.YtimdhdimhboboaaGreatDoor
