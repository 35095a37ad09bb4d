import Derived.Test.YtimdhdimhboboaaGreatDoorRbag
import Derived.Test.YtimdhdimhboboaaGreatDoorRbaf
import Derived.Deep.DeepCutAuto
import Derived.Test.YtimdhdimhboboaaGreatDoorRbab
namespace Go.Proofs.YtimdhdimhboboaaGreatDoor
set_option maxRecDepth 100000
open Go Go.RowKit
def capC (c:Cav):Nat:=c.text.length+c.id.length+c.vault.length+1
def capT (t:Tok):Nat:=t.id.length+(t.cavs.map capC).sum
structure Tok.Fit (t:Tok):Prop where
 id:t.id.length≤140737488351232
 many:t.cavs.length≤9223372036854775807
 cav:∀c∈t.cavs,c.text.length≤140737488351232∧c.id.length≤140737488351232∧c.vault.length≤140737488351232
theorem u0z (cs:List Cav) (k:Nat) (c:Cav) (h:cs[k]?=some c):((cs.take (k+1)).map capC).sum=((cs.take k).map capC).sum+capC c:=by
 rw[List.take_add_one,List.map_append,List.sum_append,h];simp
theorem a1G (cs:List Cav) (k:Nat):((cs.take k).map capC).sum≤(cs.map capC).sum:=by
 have e:cs=cs.take k++cs.drop k:=(List.take_append_drop k cs).symm
 conv=>rhs;rw[e]
 rw[List.map_append,List.sum_append];omega
theorem q0A:∀cs:List Cav,cs.length≤(cs.map capC).sum
 | []=>Nat.le_refl _
 | c :: cs=>by
  have:=q0A cs
  have h:1≤capC c:=by unfold capC;omega
  rw[List.map_cons,List.sum_cons,List.length_cons];omega
set_option maxRecDepth 100000 in
set_option maxHeartbeats 2000000 in
theorem h0m (t:Tok) (hf:t.Fit) (A:Option Addr) (c:Nat) (w:World) (hs:Sl w A (c*5) (t.cavs.flatMap cavV)) :
  Calls Tryz.prog 7 #[.agg (tokV t A c).toArray] w fun e w'=>e=.returned (.int .i64 (if 10000 < capT t then 1 else 0))∧Below w.heap.size w w':=by
 have hb1:Below w.heap.size w (w.alloc (.cells (tokV t A c).toArray 27)):=(Below.refl _ _).alloc (Nat.le_refl _) _
 have hr:Row (w.alloc (.cells (tokV t A c).toArray 27)) w.heap.size 27 (tokV t A c):=Row.new w 27 _
 have hg:=g0Q t A c
 obtain⟨V,hV⟩:∃V,V=tokV t A c:=⟨_,rfl⟩
 rw[←hV] at hb1 hr hg ⊢
 clear hV
 have hc1:(w.alloc (.cells V.toArray 27)).cell? ⟨w.heap.size,1,none⟩=some (.string (bstr t.id)):=by rw[hr.cell];exact hg.2.1
 have hc2:(w.alloc (.cells V.toArray 27)).cell? ⟨w.heap.size,2,none⟩=some (.slice A t.cavs.length c):=by rw[hr.cell];exact hg.2.2.1
 have hz:=a0f t.id
 obtain⟨R,hR⟩:∃R:Int,R=if 10000 < capT t then 1 else 0:=⟨_,rfl⟩
 rw[←hR]
 have HR:=Lib.hid hR
 clear hR
 have hT:=Lib.hid (show capT t=t.id.length+(t.cavs.map capC).sum from rfl)
 obtain⟨cs,hcs⟩:∃cs,cs=t.cavs:=⟨_,rfl⟩
 have hid:=hf.id
 have hmany:=hf.many
 have hcv:=hf.cav
 rw[←hcs] at hs hT hc2 hmany hcv
 have hid2:(t.id.length:Int)≤140737488351232:=by omega
 clear hg hr hcs hf
 generalize t.id.length=n0 at *
 go_enter Tryz.func7,Tryz.ntmps7
 go_wp2_with fail
 generalize w.alloc (.cells V.toArray 27)=w1 at *
 clear hc1 hc2
 go_loopw [3,12] (fun v i wr=>∃k:Nat,k≤cs.length∧i=.int .i64 k∧v=.int .i64 ((n0+((cs.take k).map capC).sum:Nat):Int)∧(k=0∨n0+((cs.take k).map capC).sum≤10000)∧Below w.heap.size w wr) (fun _ i _=>cs.length - (intOf i).toNat)
 case atStart=>exact⟨0,by omega,rfl,by simp,.inl rfl,hb1⟩
 case round =>
  clear hb1
  obtain⟨k,hk,rfl,rfl,hsm,hb⟩:=hrel
  by_cases hlt:k < cs.length
  ·obtain⟨cv,hcq⟩:∃cv,cs[k]?=some cv:=⟨_,List.getElem?_eq_getElem hlt⟩
   obtain⟨b,o,rfl,hb0,hr0⟩:=hs.rd.get (i:=0) (by rw[b0d];omega)
   clear hb0 hr0
   have hix:=f0w (some ⟨b,o,none⟩) b o cs.length c k rfl hlt
   have hrg:=(hs.later (Nat.le_refl _) hb).thing (k:=5) (fun _ _=>rfl) k cv hcq
   have hsu:=u0z cs k cv hcq
   have hle:=a1G cs (k+1)
   have hbd:=hcv cv (List.mem_of_getElem? hcq)
   have hsm2:n0+((cs.take k).map capC).sum≤140737488361232:=by
    rcases hsm with rfl | h
    ·simp;omega
    ·omega
   have hzf:=Lib.hid (show (Tryz.prog.info? 29).map (·.size)=some (cavV cv).length from c0r)
   have hzf2:=Lib.hid (show (Tryz.prog.info? 29).map (·.size)=some (cavV cv).toArray.size from c0r)
   have hof:=Lib.hid (show (cavV cv).toArray.all (·.oneCell')=true from a0Y (fun v hv=>f0g [cv] v (by simpa using hv)))
   obtain⟨V2,hV2q⟩:∃V,V=cavV cv:=⟨_,rfl⟩
   rw[←hV2q] at hrg hzf hzf2 hof
   have hV2:=Lib.hid (show (5:Nat)=V2.toArray.size by rw[hV2q];rfl)
   have HV2:=Lib.hid hV2q
   have z1:=a0f cv.text
   have z2:=a0f cv.id
   have z3:=a0f cv.vault
   rw[show capC cv=cv.text.length+cv.id.length+cv.vault.length+1 from rfl] at hsu
   obtain⟨hbd1,hbd2,hbd3⟩:=hbd
   generalize ((cs.take k).map capC).sum=s0 at *
   obtain⟨s1,hs1q⟩:∃s1,s1=((cs.take (k+1)).map capC).sum:=⟨_,rfl⟩
   rw[←hs1q] at hsu hle
   have HS1Q:=Lib.hid hs1q
   clear hs1q
   clear hV2q hcq hsm hcv
   go_wp2_with (first
    | (with_reducible refine wpList_load_mid rfl 29 (.tmp 14) rfl b (o+k*5) rfl V2 _ hrg Tryz.underlying29 rfl hzf.out ?_)
    | (with_reducible refine wpList_store_row rfl 29 (.tmp 5) (.tmp 15) rfl wr.heap.size V2.toArray rfl rfl 29 _ (heap_alloc_new wr _) hzf2.out (Eq.trans (by kernel_rfl) hV2.out) hof.out ?_;refine Hid.out ?_))
   refine Lib.hid ?_
   generalize hw5:World.setRow _ _ _=w5
   obtain⟨r5,hb5⟩:=a0p (xs:=V2) hw5
   rw[HV2.out] at r5
   have d1:w5.cell? ⟨wr.heap.size,1,none⟩=some (.string (bstr cv.text)):=by rw[r5.cell];rfl
   have d3:w5.cell? ⟨wr.heap.size,3,none⟩=some (.string (bstr cv.id)):=by rw[r5.cell];rfl
   have d4:w5.cell? ⟨wr.heap.size,4,none⟩=some (.string (bstr cv.vault)):=by rw[r5.cell];rfl
   have hbw5:=hb.trans (hb5.mono hb.size)
   have HS1:=Lib.hid hsu
   clear hw5 r5 hb5 hrg hix
   generalize cv.text.length=q1 at *
   generalize cv.id.length=q2 at *
   generalize cv.vault.length=q3 at *
   obtain⟨N,hN⟩:∃N,N=n0+s1:=⟨_,rfl⟩
   have hsum:(n0:Int)+(s0:Int)+((q1:Int)+(q2:Int)+(q3:Int)+1)=(N:Int):=by rw[hN,hsu];omega
   have HN:=Lib.hid hN
   have hNb:(N:Int)≤9223372036854775807:=by omega
   have hq1:(q1:Int)≤140737488351232:=by omega
   have hq2:(q2:Int)≤140737488351232:=by omega
   have hq3:(q3:Int)≤140737488351232:=by omega
   have hs0:(n0:Int)+(s0:Int)≤140737488361232:=by omega
   by_cases hbig:10000 < N
   ·have hbi:(10000:Int) < (N:Int):=by omega
    clear hsu hN
    go_wp2
    go_ret
    refine⟨?_,hbw5⟩
    have h1:=hT.out
    have h2:=HN.out
    rw[HR.out,if_pos (by omega)];rfl
   ·have hbi:(N:Int)≤10000:=by omega
    clear hsu hN
    go_wp2_with fail
    go_roundw
    case rel=>exact⟨k+1,by omega,by go_num,by rw[HN.out,HS1Q.out],.inr (by rw[←HS1Q.out,←HN.out];omega),hbw5⟩
    case measure=>simp[intOf];omega
  ·obtain rfl:k=cs.length:=by omega
   rw[List.take_length] at hsm ⊢
   have hT':capT t=n0+(cs.map capC).sum:=hT.out
   generalize (cs.map capC).sum=s0 at *
   by_cases hbig:10000 < n0+s0
   ·have hbi:(10000:Int) < ((n0+s0:Nat):Int):=by omega
    have HF:=Lib.hid (HR.out.trans (if_pos (by rw[hT'];exact hbig)))
    clear hs hT' hT hsm hbig
    generalize n0+s0=N at *
    generalize cs.length=n at *
    go_wp2
    go_ret
    exact⟨by rw[HF.out];rfl,hb⟩
   ·have hbi:((n0+s0:Nat):Int)≤10000:=by omega
    have HF:=Lib.hid (HR.out.trans (if_neg (by rw[hT'];exact hbig)))
    clear hs hT' hT hsm hbig
    generalize n0+s0=N at *
    generalize cs.length=n at *
    go_wp2
    go_ret
    exact⟨by rw[HF.out];rfl,hb⟩
theorem m0H {P:Program} {w:World} {ops:Array Oper} {o:Oper} {a:Act} {K:Act→World→Prop} {Q:Exit→Act→World→Prop} {E:Prop} (dst:Option Tmp) (hdst:o.dst=dst) (hgd:Region.wanted o (yielded ops a.tmps)=true) (v:Value)
  (hrun:(execOp a.eval o).run P w=.ok (.value v) w) (h:K (a.put dst v) w):if Region.wanted o (yielded ops a.tmps)=true then Oper.wp P o a w K Q else E:=by
 subst hdst
 rw[if_pos hgd]
 unfold Oper.wp
 rw[hrun]
 exact h
theorem k0y (x:List UInt8) (w:World):(Instr.buildSlice 59 1 #[(0,.string (bstr x))]).run Tryz.prog w=.ok (.slice (some ⟨w.heap.size,0,none⟩) 1 1) (w.alloc (.cells (a0I [x]).toArray 9)):=by go_simp;rfl
theorem q0i (x y:List UInt8) (w:World):(Instr.buildSlice 59 2 #[(0,.string (bstr x)),(1,.string (bstr y))]).run Tryz.prog w=.ok (.slice (some ⟨w.heap.size,0,none⟩) 2 2) (w.alloc (.cells (a0I [x,y]).toArray 9)):=by go_simp;rfl
theorem k0G {w:World} {ops:Array Oper} {o:Oper} {a:Act} {K:Act→World→Prop} {Q:Exit→Act→World→Prop} {E:Prop} (dst:Option Tmp) (hdst:o.dst=dst) (hgd:Region.wanted o (yielded ops a.tmps)=true) (v:Value) (l:List (List UInt8))
  (hrun:(execOp a.eval o).run Tryz.prog w=.ok (.value v) (w.alloc (.cells (a0I l).toArray 9))) (hv:v=.slice (some ⟨w.heap.size,0,none⟩) l.length l.length)
  (h:∀w',Sl w' (some ⟨w.heap.size,0,none⟩) l.length (a0I l)→Below w.heap.size w w'→K (a.put dst (.slice (some ⟨w.heap.size,0,none⟩) l.length l.length)) w'):if Region.wanted o (yielded ops a.tmps)=true then Oper.wp Tryz.prog o a w K Q else E:=by
 subst hdst hv
 rw[if_pos hgd]
 unfold Oper.wp
 rw[hrun]
 refine h _ ?_ ((Below.refl _ w).alloc (Nat.le_refl _) _)
 have hr:=Row.new w 9 (a0I l)
 exact⟨Rd.row (ys:=[]) (by rw[List.append_nil];exact hr),by rw[a0B];exact Nat.le_refl _,fun h=>by cases h⟩
theorem a0R (k:List UInt8) (hk:k.length=32):(byts k).length=32:=by rw[a0b];exact hk
theorem f0F {w w1:World} {A B:List Value} {t u:TypeId} (h:(w.alloc (.cells A.toArray t)).alloc (.cells B.toArray u)=w1):Row w1 w.heap.size t A∧Row w1 (w.heap.size+1) u B∧Below w.heap.size w w1:=by
 subst h
 have h1:Row (w.alloc (.cells A.toArray t)) w.heap.size t A:=Row.new w _ _
 have hb1:Below w.heap.size w (w.alloc (.cells A.toArray t)):=(Below.refl _ w).alloc (Nat.le_refl _) _
 have hb2:Below (w.alloc (.cells A.toArray t)).heap.size (w.alloc (.cells A.toArray t)) ((w.alloc (.cells A.toArray t)).alloc (.cells B.toArray u)):=(Below.refl _ _).alloc (Nat.le_refl _) _
 have h2:Row ((w.alloc (.cells A.toArray t)).alloc (.cells B.toArray u)) (w.alloc (.cells A.toArray t)).heap.size u B:=Row.new _ _ _
 rw[World.size_alloc] at h2
 exact⟨h1.later hb2 h1.lt,h2,hb1.trans (hb2.mono hb1.size)⟩
set_option maxHeartbeats 4000000 in
theorem w0G (key:List UInt8) (hk:key.length=32) (c:Cav) (hp:c.party < 18446744073709551616) (hc:(capB c).length≤1000000) (w:World) :
  Calls Tryz.prog 13 #[.agg (byts key).toArray,.agg (cavV c).toArray] w fun e w'=>e=.returned (.agg (byts (d0l key c)).toArray)∧Below w.heap.size w w':=by
 have hKl:=a0R key hk
 have hkz:=Lib.hid (show (Tryz.prog.info? 23).map (·.size)=some (byts key).length by rw[a0C,hKl])
 obtain⟨V,hV⟩:∃V,V=byts (d0l key c):=⟨_,rfl⟩
 have hVl:V.length=32:=by rw[hV];exact a0R _ (c0N _ _ _)
 have hone:=Lib.hid (show ∀v∈V,v.oneCell'=true by rw[hV];exact a0o _)
 have hszl:=Lib.hid (show (Tryz.prog.info? 23).map (·.size)=some V.length by rw[a0C,hVl])
 have hsz2:=Lib.hid (show (Tryz.prog.info? 23).map (·.size)=some V.toArray.size by rw[a0C,List.size_toArray,hVl])
 have hfit:=Lib.hid (show 0+V.length≤(List.replicate 32 (Value.int .u8 0)).length by rw[hVl,List.length_replicate];decide)
 have HVr:=Lib.hid (show splice (List.replicate 32 (Value.int .u8 0)) 0 V=V by
  unfold splice
  rw[List.take_zero,List.nil_append,Nat.zero_add,hVl,List.drop_eq_nil_of_le (by simp),List.append_nil])
 have HV:=Lib.hid hV
 clear hV hVl hKl
 go_enter Tryz.func13,Tryz.ntmps13
 go_upto_region 1 with fail
 generalize hw1:World.alloc (World.alloc (World.alloc _ _) _) _=w1
 obtain⟨r1,r2,r3,hb1,-⟩:=o0y (C:=List.replicate 32 (Value.int .u8 0)) hw1
 clear hw1
 refine wp_region_noPanic ?_
 refine wp_region_held_drew (S:=fun w'=>Row w' w.heap.size 23 (byts key)∧Row w' (w.heap.size+1) 29 (cavV c)) (by kernel_rfl) (⟨r1.later ((Below.refl _ _).drew) r1.lt,r2.later ((Below.refl _ _).drew) r2.lt⟩) (fun hHeld=>?_)
 have hB:Below w1.heap.size w1 w1.drew:=(Below.refl _ _).drew
 refine rt 0 5 hHeld ?_ (hy:=by intro w hS;exact a0A 23 (.tmp 2) rfl _ 0 rfl (byts key) _ (a0m hS.1) Tryz.underlying23 rfl hkz.out)
 refine rt 1 6 hHeld ?_ (hy:=by intro w hS;exact a0A 29 (.tmp 3) rfl _ 0 rfl (cavV c) _ (a0m hS.2) Tryz.underlying29 rfl c0r)
 refine wpAnyH_ready (rs:=[2]) (by kernel_rfl) (by simp) (AllReadyH.cons (o:=_) rfl (fun K hK=>?_) AllReadyH.nil)
 go_simp
 refine (z0C c hp _).mono ?_;rintro e ww12 ⟨A2,d2,rfl,s2,hqw12⟩
 try go_wp2_with fail
 refine hK.out _ _ ⟨hHeld.1.later hqw12 hHeld.1.lt,hHeld.2.later hqw12 hHeld.2.lt⟩ (fun hHeld=>?_)
 clear hK K
 try (first | (rw[a0c];dsimp only[List.set]) | rw[a0d])
 have hB:=a0a hB hqw12
 have hB2:Below ww12.heap.size ww12 ww12:=Below.refl _ _
 refine wpAnyH_ready (rs:=[3]) (by kernel_rfl) (by simp) (AllReadyH.cons (o:=_) rfl (fun K hK=>?_) AllReadyH.nil)
 go_simp
 refine (w0D A2 _ d2 (cavF c) _ s2 rfl (by show (capB c).length≤_;omega)).mono ?_;rintro e ww13 ⟨v3,rfl,ho3,hqw13⟩;obtain⟨A3,c3,rfl,-,s3⟩:=Sl.of_own ho3
 try go_wp2_with fail
 refine hK.out _ _ ⟨hHeld.1.later hqw13 hHeld.1.lt,hHeld.2.later hqw13 hHeld.2.lt⟩ (fun hHeld=>?_)
 clear hK K
 try (first | (rw[a0c];dsimp only[List.set]) | rw[a0d])
 have hB:=a0a hB hqw13
 have hB2:=a0a hB2 hqw13
 have hB3:Below ww13.heap.size ww13 ww13:=Below.refl _ _
 refine wpAnyH_ready (rs:=[4]) (by kernel_rfl) (by simp) (AllReadyH.cons (o:=_) rfl (fun K hK=>?_) AllReadyH.nil)
 refine m0H (some 9) rfl (by rfl) (.string (bstr (capB c))) (by have hcv:=b0Q s3 _ rfl;unfold capB;go_simp) ?_
 refine hK.out _ _ hHeld (fun hHeld=>?_)
 clear hK K
 try (first | (rw[a0c];dsimp only[List.set]) | rw[a0d])
 refine wpAnyH_ready (rs:=[5]) (by kernel_rfl) (by simp) (AllReadyH.cons (o:=_) rfl (fun K hK=>?_) AllReadyH.nil)
 refine k0G (some 10) rfl (by rfl) _ [capB c] (by have hss:=k0y (capB c) ww13;go_simp;rfl) rfl ?_;intro ww15 s5 hqw15
 refine hK.out _ _ ⟨hHeld.1.later hqw15 hHeld.1.lt,hHeld.2.later hqw15 hHeld.2.lt⟩ (fun hHeld=>?_)
 clear hK K
 try (first | (rw[a0c];dsimp only[List.set]) | rw[a0d])
 have hB:=a0a hB hqw15
 have hB2:=a0a hB2 hqw15
 have hB3:=a0a hB3 hqw15
 have hB5:Below ww15.heap.size ww15 ww15:=Below.refl _ _
 refine wpAnyH_ready (rs:=[6]) (by kernel_rfl) (by simp) (AllReadyH.cons (o:=_) rfl (fun K hK=>?_) AllReadyH.nil)
 go_simp
 refine (z0F key hk [99,97,118,101,97,116] _ 1 1 [capB c] _ s5 rfl (by show (6+1)+(((capB c).length+1)+0)≤_;omega)).mono ?_;rintro e ww16 ⟨rfl,hqw16⟩;rw[show keyD key [99,97,118,101,97,116] [capB c]=d0l key c from rfl,←HV.out]
 try go_wp2_with fail
 refine hK.out _ _ ⟨hHeld.1.later hqw16 hHeld.1.lt,hHeld.2.later hqw16 hHeld.2.lt⟩ (fun hHeld=>?_)
 clear hK K
 try (first | (rw[a0c];dsimp only[List.set]) | rw[a0d])
 have hB:=a0a hB hqw16
 have hB2:=a0a hB2 hqw16
 have hB3:=a0a hB3 hqw16
 have hB5:=a0a hB5 hqw16
 have hB6:Below ww16.heap.size ww16 ww16:=Below.refl _ _
 refine wpAnyH_ready (rs:=[7]) (by kernel_rfl) (by simp) (AllReadyH.cons (o:=_) rfl (fun K hK=>?_) AllReadyH.nil)
 refine b0h none rfl (by rfl) 23 (.tmp 4) (.tmp 11) rfl _ 0 23 _ V rfl rfl (r3.later hB r3.lt) hfit.out hszl.out hone.out ?_;intro wf rf hgf;have hBz:=hB
 refine hK.out _ _ ⟨hHeld.1.grown hgf (by omega),hHeld.2.grown hgf (by omega)⟩ (fun hHeld=>?_)
 clear hK K
 try (first | (rw[a0c];dsimp only[List.set]) | rw[a0d])
 refine wpAnyH_done (by kernel_rfl) ?_ _
 refine NoPanic.normal ?_
 have r9:Row wf (w.heap.size+1+1) 23 V:=by rw[HVr.out] at rf;exact rf
 have hb9:=(hb1.trans (hBz.mono hb1.size)).grown hgf (Nat.le_trans hb1.size hBz.size) (fun k h=>by cases h;omega)
 have R9:=Lib.hid (show wf.heap[(w.heap.size+1+1:Nat)]?=some (.cells V.toArray 23 (0,0)) from r9)
 clear r9 hgf rf hBz hHeld hb1
 go_wp2_with (with_reducible refine bodyPost_ret (results_cell_row rfl _ _ (w.heap.size+1+1) 23 V.toArray (0,0) (.array 32 5) rfl R9.out Tryz.underlying23 rfl hsz2.out) rfl ?_)
 exact⟨by rw[HV.out],hb9⟩
theorem i0o {w w':World} {base t k n g:Nat} {v:Value} {xs:List Value} (h:w.ownsRow base t k v n xs) (hg:w.grownBy w' (some g)) (hlt:g < base):w'.ownsRow base t k v n xs:=by
 refine⟨h.1,?_⟩
 rcases h.2 with hn | ⟨g',cap,cur,rfl,hbg,hcur,rest⟩
 ·exact .inl hn
 ·exact .inr ⟨g',cap,cur,rfl,hbg,(hg.block g' (Array.getElem?_eq_some_iff.1 hcur).1 (fun e=>by have:=Option.some.inj e;omega)).trans hcur,rest⟩
theorem s0Q {w:World} {base t k n c:Nat} {A:Option Addr} {xs:List Value} (h:w.ownsRow base t k (.slice A n c) n xs):∀a,A=some a→base≤a.block:=by
 intro a ha
 subst ha
 rcases h.2 with ⟨h1,_⟩ | ⟨g,cap,cur,hv,hbg,_⟩
 ·cases h1
 ·injection hv with e1
  injection e1 with e1
  subst e1
  exact hbg
theorem x0A {w:World} {g:Nat} {t:Tok} {A:Option Addr} {c:Nat} (ht:t.Ok) (h:Row w g 27 (tokV t A c)):Sl w (some ⟨g,4,none⟩) 32 (byts t.tag):=by
 refine⟨.inr ⟨g,4,rfl,h.lt,fun i hi=>?_⟩,by rw[a0b,ht.tag];exact Nat.le_refl _,fun h=>by cases h⟩
 rw[h.cell]
 unfold tokV
 rw[List.getElem?_append_right (by show 4≤4+i;omega)]
 show (byts t.tag)[4+i - 4]?=_
 rw[Nat.add_sub_cancel_left]
theorem y0l (c:Cav):(cavF c).length≤3:=by unfold cavF;split<;>simp
theorem j0J (n:Nat):∀(fs:List Fd),(∀f∈fs,f.2.length≤n)→(c0s fs).length≤fs.length*(n+11)
 | [],_=>by simp[c0s]
 | f :: fs,h=>by
  have h1:=j0J n fs (fun g hg=>h g (List.mem_cons_of_mem _ hg))
  have h2:=h f List.mem_cons_self
  have h3:=d0a f
  have h4:=c0a f.2.length
  have e:c0s (f :: fs)=c0I f++c0s fs:=by unfold c0s;rw[List.flatMap_cons]
  rw[e,List.length_append,List.length_cons,Nat.succ_mul];omega
theorem b1d:(Tryz.prog.info? 29).map (fun i=>(i.zero,i.size,i.bytes))=some (some (.agg (cavV ⟨false,[],0,[],[]⟩).toArray),5,64):=by kernel_rfl
theorem m0g:∃i,Tryz.prog.info? 29=some i∧i.zero=some (.agg (cavV ⟨false,[],0,[],[]⟩).toArray)∧i.size=5∧i.bytes=64:=by
 have h:=b1d
 cases hq:Tryz.prog.info? 29 with
 | none=>rw[hq] at h;cases h
 | some i =>
  rw[hq] at h
  simp only[Option.map_some,Option.some.injEq,Prod.mk.injEq] at h
  exact⟨i,rfl,h.1,h.2.1,h.2.2⟩
theorem Row.kept {w w':World} {g t:Nat} {xs:List Value} {row:Option Nat} (h:Row w g t xs) (hg:w.grownBy w' row) (hne:∀k,row=some k→g≠k):Row w' g t xs:=by
 have hl:=h.lt
 unfold Row at h ⊢
 rw[hg.block g hl (fun e=>hne g e.symm rfl)];exact h
section
variable {wL w:World} {g:Nat} {t:Tok} {A:Option Addr} {c:Nat}
end
theorem ztok:tokV d0j none 0=[Value.int .u64 0,.string { data:=#[] },.slice none 0 0,.bool false,.int .u8 0,.int .u8 0,.int .u8 0,.int .u8 0,.int .u8 0,.int .u8 0,.int .u8 0,.int .u8 0,.int .u8 0,.int .u8 0,.int .u8 0,.int .u8 0,.int .u8 0,.int .u8 0,.int .u8 0,.int .u8 0,.int .u8 0,.int .u8 0,.int .u8 0,.int .u8 0,.int .u8 0,.int .u8 0,.int .u8 0,.int .u8 0,.int .u8 0,.int .u8 0,.int .u8 0,.int .u8 0,.int .u8 0,.int .u8 0,.int .u8 0,.int .u8 0]:=by kernel_rfl
def hexD (n:Nat):UInt8:=if n < 10 then UInt8.ofNat (48+n) else UInt8.ofNat (87+n)
theorem w0T (X rest:List Value) (n:Nat) (hn:X.length=n) (y z a b:Value):((X++y :: z :: rest).set n a).set (n+1) b=(X++[a,b])++rest:=by
 subst hn
 rw[List.set_append_right _ _ (Nat.le_refl _),Nat.sub_self,List.set_cons_zero,List.set_append_right _ _ (by omega),show X.length+1 - X.length=1 by omega,List.set_cons_succ,List.set_cons_zero,List.append_assoc]
 rfl
def numF:Nat→Nat→Nat→List UInt8
 | 0,_,n=>[hexD n]
 | k+1,b,n=>if n < b then [hexD n] else numF k b (n/b)++[hexD (n%b)]
def numL (b n:Nat):List UInt8:=numF n b n
theorem v0Y (b:Nat) (hb:2≤b):∀(k n:Nat),n≤k→numF k b n=numL b n:=by
 intro k
 induction k using Nat.strongRecOn with
 | _ k ih =>
  intro n hk
  cases k with
  | zero => obtain rfl : n = 0 := by omega
            rfl
  | succ k =>
   unfold numL
   cases n with
   | zero=>show (if 0 < b then [hexD 0] else _)=[hexD 0];rw[if_pos (by omega)]
   | succ n =>
    rw[numF,numF]
    by_cases h:n+1 < b
    ·rw[if_pos h,if_pos h]
    ·rw[if_neg h,if_neg h]
     have hd:(n+1)/b≤n:=by
      have:(n+1)/b < n+1:=Nat.div_lt_self (by omega) (by omega)
      omega
     rw[ih k (by omega) _ (by omega),ih n (by omega) _ hd]
theorem a0O (b n:Nat) (h:n < b):numL b n=[hexD n]:=by
 unfold numL
 cases n with
 | zero=>rfl
 | succ n=>rw[numF,if_pos h]
theorem b0k (b n:Nat) (hb:2≤b) (h:b≤n):numL b n=numL b (n/b)++[hexD (n%b)]:=by
 have hn:n=(n - 1)+1:=by omega
 have hd:n/b < n:=Nat.div_lt_self (by omega) (by omega)
 unfold numL
 rw[hn,numF,if_neg (by omega),←hn,v0Y b hb (n - 1) (n/b) (by omega)]
 rfl
theorem f0P (b n:Nat):numL b n≠[]:=by
 unfold numL
 cases n with
 | zero=>simp[numF]
 | succ n=>rw[numF];split<;>simp
theorem y0W (b n:Nat):0 < (numL b n).length:=List.length_pos_iff.2 (f0P b n)
theorem b0f (b:Nat) (hb:2≤b):∀(k n:Nat),n < b^(k+1)→(numL b n).length≤k+1:=by
 intro k
 induction k with
 | zero=>intro n h;rw[a0O b n (by simpa using h)];simp
 | succ k ih =>
  intro n h
  by_cases hs:n < b
  ·rw[a0O b n hs];simp
  ·rw[b0k b n hb (by omega),List.length_append]
   have:n/b < b^(k+1):=Nat.div_lt_of_lt_mul (by rw[Nat.pow_succ] at h;rwa [Nat.mul_comm])
   have:=ih _ this
   simp;omega
def a0S:List Nat→Nat
 | []=>0
 | n :: l=>if n=0 then a0S l+1 else 0
theorem o0V (l:List Nat):a0S l≤l.length:=by
 induction l with
 | nil=>exact Nat.le_refl _
 | cons n l ih=>rw[a0S];split<;>simp<;>omega
def b0H:List Nat→List UInt8
 | []=>[]
 | [n]=>numL 16 n
 | n :: m :: l=>numL 16 n++58 :: b0H (m :: l)
theorem s0x (l:List Nat) (n:Nat):b0H (l++[n])=(if l=[] then numL 16 n else b0H l++58 :: numL 16 n):=by
 induction l with
 | nil=>rfl
 | cons m l ih =>
  cases l with
  | nil=>rfl
  | cons q l =>
   rw[if_neg (by simp)] at ih ⊢
   show numL 16 m++58 :: b0H ((q :: l)++[n])=_
   rw[ih]
   show _=(numL 16 m++58 :: b0H (q :: l))++58 :: numL 16 n
   simp
structure Adr where
 v6:Bool
 b:List UInt8
def Adr.Ok (a:Adr):Prop:=a.b.length=16
def adrV (a:Adr):List Value:=.bool a.v6 :: byts a.b
theorem a0l {a:Adr} (h:a.Ok):(adrV a).length=17:=by unfold adrV;rw[List.length_cons,a0b,h]
theorem c0A (a:Adr):∀v∈adrV a,v.oneCell'=true:=by
 intro v hv
 rcases List.mem_cons.1 hv with rfl | hv
 ·rfl
 ·obtain⟨_,_,rfl⟩:=List.mem_map.1 hv;rfl
def b0b (a:Adr):Bool:=a.v6||(a.b.drop 4).all (·==0)
def c0d (a:Adr):List Nat:=(List.range 8).map fun i=>(a.b.getD (2*i) 0).toNat*256+(a.b.getD (2*i+1) 0).toNat
def d0A (l:List Nat):Nat:=(List.range l.length).foldl (fun best i=>if a0S (l.drop i) > a0S (l.drop best) then i else best) 0
def d0C (l:List Nat):List UInt8 :=
 let best:=d0A l
 let n:=a0S (l.drop best)
 if n < 2 then b0H l else b0H (l.take best)++58 :: 58 :: b0H (l.drop (best+n))
def a0U (a:Adr):List UInt8 :=
 if b0b a then
  if a.v6 then d0C (c0d a)
  else numL 10 (a.b.getD 0 0).toNat++46 :: numL 10 (a.b.getD 1 0).toNat++46 :: numL 10 (a.b.getD 2 0).toNat++46 :: numL 10 (a.b.getD 3 0).toNat
 else []
theorem g0D (h:Nat) (hh:h < 16) (w:World):(Instr.index 9 (.string { data:=#[48,49,50,51,52,53,54,55,56,57,97,98,99,100,101,102] }) (.int .i64 (h:Int))).run Tryz.prog w=.ok (.int .u8 ((hexD h).toNat:Int)) w:=by
 have:h=0∨h=1∨h=2∨h=3∨h=4∨h=5∨h=6∨h=7∨h=8∨h=9∨h=10∨h=11∨h=12∨h=13∨h=14∨h=15:=by omega
 clear hh
 rcases this with rfl | rfl | rfl | rfl | rfl | rfl | rfl | rfl | rfl | rfl | rfl | rfl | rfl | rfl | rfl | rfl<;>rfl
set_option maxHeartbeats 1000000 in
theorem f0D (k:Nat):∀(n:Nat) (w:World),n≤k→n≤9223372036854775807 →
  Calls Tryz.prog 155 #[.int .i64 n,.int .i64 10] w fun e w'=>e=.returned (.string (bstr (numL 10 n)))∧Below w.heap.size w w':=by
 induction k using Nat.strongRecOn with
 | _ k ih =>
  intro n w hk hm
  by_cases hlt:n < 10
  ·have hN:=Lib.hid (a0O 10 n hlt)
   have hlt':(n:Int) < 10:=by omega
   have hd:=g0D n (by omega)
   generalize hexD n=x at *
   have hsl:=k0x w [x] #[.int .u8 (x.toNat:Int)] (0,0) rfl 1 rfl
   have hcv:=b0Q hsl 1 rfl
   have hb:Below w.heap.size w (w.alloc (.cells #[.int .u8 (x.toNat:Int)] 5 (0,0))):=(Below.refl _ w).alloc (Nat.le_refl _) _
   clear hsl ih
   go_enter Tryz.func155,Tryz.ntmps155
   go_wp2_with fail
   go_ret
   exact⟨by rw[hN.out];rfl,hb⟩
  ·have hge:(10:Int)≤(n:Int):=by omega
   have hN:=Lib.hid (b0k 10 n (by omega) (by omega))
   have hq:=Lib.hid (show ∀w',Calls Tryz.prog 155 #[.int .i64 ((n:Int)/10),.int .i64 10] w' fun e w''=>e=.returned (.string (bstr (numL 10 (n/10))))∧Below w'.heap.size w' w'' from fun w'=>ih (n/10) (by omega) (n/10) w' (Nat.le_refl _) (by omega))
   have hr:=Lib.hid (show ∀w',Calls Tryz.prog 155 #[.int .i64 ((n:Int)%10),.int .i64 10] w' fun e w''=>e=.returned (.string (bstr [hexD (n%10)]))∧Below w'.heap.size w' w'' from by
    rw[←a0O 10 (n%10) (by omega)];exact fun w'=>ih (n%10) (by omega) (n%10) w' (Nat.le_refl _) (by omega))
   have hY:=b0f 10 (by omega) 62 (n/10) (by omega)
   generalize hXn:numL 10 n=X at *
   generalize numL 10 (n/10)=Y at *
   have hZ:[hexD (n%10)].length=1:=rfl
   generalize [hexD (n%10)]=Z at *
   have hl1:(bstr Y).size+(bstr Z).size≤9223372036854775807:=by rw[a0f,a0f];omega
   have hw1:IntKind.i64.wrap ((n:Int)/10)=(n:Int)/10:=by rw[IntKind.wrap_i64];omega
   have hw2:((n:Int)).tmod 10=(n:Int)%10:=Int.tmod_eq_emod_of_nonneg (by omega)
   clear ih hXn
   obtain⟨w3,rfl⟩:∃w3:World,w3=w:=⟨_,rfl⟩
   go_enter Tryz.func155,Tryz.ntmps155
   go_wp2_with fail
   refine wp_region_noPanic ?_
   refine wp_region_held_drew (S:=fun w'=>Below w3.heap.size w3 w') (by kernel_rfl) ((Below.refl _ _).drew) (fun hHeld=>?_)
   have hB:=hHeld
   refine rt 0 12 hHeld ?_
   refine rt 1 13 hHeld ?_
   refine rt 2 14 hHeld ?_
   refine rt 3 15 hHeld ?_
   refine rt 5 17 hHeld ?_
   refine rt 6 18 hHeld ?_
   refine rt 7 19 hHeld ?_
   refine rt 8 20 hHeld ?_
   refine wpAnyH_ready (rs:=[4]) (by kernel_rfl) (by simp) (AllReadyH.cons (o:=_) rfl (fun K hK=>?_) AllReadyH.nil)
   go_simp
   refine (hq.out _).mono ?_;rintro e ww34 ⟨rfl,hqw34⟩
   try go_wp2_with fail
   refine hK.out _ _ (hHeld.trans (hqw34.mono hHeld.size)) (fun hHeld'=>?_)
   clear hK K
   try (first | (rw[a0c];dsimp only[List.set]) | rw[a0d])
   have hB:=a0a hB hqw34
   have hB4:Below ww34.heap.size ww34 ww34:=Below.refl _ _
   refine a0j (S':=fun w'=>Below ww34.heap.size ww34 w') (fun _ h=>(hHeld.trans (hqw34.mono hHeld.size)).trans (h.mono (hHeld.trans (hqw34.mono hHeld.size)).size)) _ _ _ _ ?_
   clear hHeld
   have hHeld:Below ww34.heap.size ww34 ww34:=Below.refl _ _
   refine wpAnyH_ready (rs:=[9]) (by kernel_rfl) (by simp) (AllReadyH.cons (o:=_) rfl (fun K hK=>?_) AllReadyH.nil)
   go_simp
   refine (hr.out _).mono ?_;rintro e ww39 ⟨rfl,hqw39⟩
   try go_wp2_with fail
   refine hK.out _ _ (hHeld.trans (hqw39.mono hHeld.size)) (fun hHeld'=>?_)
   clear hK K
   try (first | (rw[a0c];dsimp only[List.set]) | rw[a0d])
   have hB:=a0a hB hqw39
   have hB4:=a0a hB4 hqw39
   have hB9:Below ww39.heap.size ww39 ww39:=Below.refl _ _
   refine a0j (S':=fun w'=>Below ww39.heap.size ww39 w') (fun _ h=>(hHeld.trans (hqw39.mono hHeld.size)).trans (h.mono (hHeld.trans (hqw39.mono hHeld.size)).size)) _ _ _ _ ?_
   clear hHeld
   have hHeld:Below ww39.heap.size ww39 ww39:=Below.refl _ _
   refine rt 10 22 hHeld ?_ (hy:=by intro w hS;go_simp;rw[if_neg (Nat.not_lt.2 hl1)])
   refine rt 11 4 hHeld ?_
   refine wpAnyH_done (by kernel_rfl) ?_ _
   refine NoPanic.normal ?_
   have hBe:=hB
   go_wp2
   go_ret
   exact⟨by rw[hN.out,←a0r];rfl,hBe⟩
set_option maxHeartbeats 1000000 in
theorem l0A (k:Nat):∀(n:Nat) (w:World),n≤k→n≤9223372036854775807 →
  Calls Tryz.prog 155 #[.int .i64 n,.int .i64 16] w fun e w'=>e=.returned (.string (bstr (numL 16 n)))∧Below w.heap.size w w':=by
 induction k using Nat.strongRecOn with
 | _ k ih =>
  intro n w hk hm
  by_cases hlt:n < 16
  ·have hN:=Lib.hid (a0O 16 n hlt)
   have hlt':(n:Int) < 16:=by omega
   have hd:=g0D n (by omega)
   generalize hexD n=x at *
   have hsl:=k0x w [x] #[.int .u8 (x.toNat:Int)] (0,0) rfl 1 rfl
   have hcv:=b0Q hsl 1 rfl
   have hb:Below w.heap.size w (w.alloc (.cells #[.int .u8 (x.toNat:Int)] 5 (0,0))):=(Below.refl _ w).alloc (Nat.le_refl _) _
   clear hsl ih
   go_enter Tryz.func155,Tryz.ntmps155
   go_wp2_with fail
   go_ret
   exact⟨by rw[hN.out];rfl,hb⟩
  ·have hge:(16:Int)≤(n:Int):=by omega
   have hN:=Lib.hid (b0k 16 n (by omega) (by omega))
   have hq:=Lib.hid (show ∀w',Calls Tryz.prog 155 #[.int .i64 ((n:Int)/16),.int .i64 16] w' fun e w''=>e=.returned (.string (bstr (numL 16 (n/16))))∧Below w'.heap.size w' w'' from fun w'=>ih (n/16) (by omega) (n/16) w' (Nat.le_refl _) (by omega))
   have hr:=Lib.hid (show ∀w',Calls Tryz.prog 155 #[.int .i64 ((n:Int)%16),.int .i64 16] w' fun e w''=>e=.returned (.string (bstr [hexD (n%16)]))∧Below w'.heap.size w' w'' from by
    rw[←a0O 16 (n%16) (by omega)];exact fun w'=>ih (n%16) (by omega) (n%16) w' (Nat.le_refl _) (by omega))
   have hY:=b0f 16 (by omega) 62 (n/16) (by omega)
   generalize hXn:numL 16 n=X at *
   generalize numL 16 (n/16)=Y at *
   have hZ:[hexD (n%16)].length=1:=rfl
   generalize [hexD (n%16)]=Z at *
   have hl1:(bstr Y).size+(bstr Z).size≤9223372036854775807:=by rw[a0f,a0f];omega
   have hw1:IntKind.i64.wrap ((n:Int)/16)=(n:Int)/16:=by rw[IntKind.wrap_i64];omega
   have hw2:((n:Int)).tmod 16=(n:Int)%16:=Int.tmod_eq_emod_of_nonneg (by omega)
   clear ih hXn
   obtain⟨w3,rfl⟩:∃w3:World,w3=w:=⟨_,rfl⟩
   go_enter Tryz.func155,Tryz.ntmps155
   go_wp2_with fail
   refine wp_region_noPanic ?_
   refine wp_region_held_drew (S:=fun w'=>Below w3.heap.size w3 w') (by kernel_rfl) ((Below.refl _ _).drew) (fun hHeld=>?_)
   have hB:=hHeld
   refine rt 0 12 hHeld ?_
   refine rt 1 13 hHeld ?_
   refine rt 2 14 hHeld ?_
   refine rt 3 15 hHeld ?_
   refine rt 5 17 hHeld ?_
   refine rt 6 18 hHeld ?_
   refine rt 7 19 hHeld ?_
   refine rt 8 20 hHeld ?_
   refine wpAnyH_ready (rs:=[4]) (by kernel_rfl) (by simp) (AllReadyH.cons (o:=_) rfl (fun K hK=>?_) AllReadyH.nil)
   go_simp
   refine (hq.out _).mono ?_;rintro e ww34 ⟨rfl,hqw34⟩
   try go_wp2_with fail
   refine hK.out _ _ (hHeld.trans (hqw34.mono hHeld.size)) (fun hHeld'=>?_)
   clear hK K
   try (first | (rw[a0c];dsimp only[List.set]) | rw[a0d])
   have hB:=a0a hB hqw34
   have hB4:Below ww34.heap.size ww34 ww34:=Below.refl _ _
   refine a0j (S':=fun w'=>Below ww34.heap.size ww34 w') (fun _ h=>(hHeld.trans (hqw34.mono hHeld.size)).trans (h.mono (hHeld.trans (hqw34.mono hHeld.size)).size)) _ _ _ _ ?_
   clear hHeld
   have hHeld:Below ww34.heap.size ww34 ww34:=Below.refl _ _
   refine wpAnyH_ready (rs:=[9]) (by kernel_rfl) (by simp) (AllReadyH.cons (o:=_) rfl (fun K hK=>?_) AllReadyH.nil)
   go_simp
   refine (hr.out _).mono ?_;rintro e ww39 ⟨rfl,hqw39⟩
   try go_wp2_with fail
   refine hK.out _ _ (hHeld.trans (hqw39.mono hHeld.size)) (fun hHeld'=>?_)
   clear hK K
   try (first | (rw[a0c];dsimp only[List.set]) | rw[a0d])
   have hB:=a0a hB hqw39
   have hB4:=a0a hB4 hqw39
   have hB9:Below ww39.heap.size ww39 ww39:=Below.refl _ _
   refine a0j (S':=fun w'=>Below ww39.heap.size ww39 w') (fun _ h=>(hHeld.trans (hqw39.mono hHeld.size)).trans (h.mono (hHeld.trans (hqw39.mono hHeld.size)).size)) _ _ _ _ ?_
   clear hHeld
   have hHeld:Below ww39.heap.size ww39 ww39:=Below.refl _ _
   refine rt 10 22 hHeld ?_ (hy:=by intro w hS;go_simp;rw[if_neg (Nat.not_lt.2 hl1)])
   refine rt 11 4 hHeld ?_
   refine wpAnyH_done (by kernel_rfl) ?_ _
   refine NoPanic.normal ?_
   have hBe:=hB
   go_wp2
   go_ret
   exact⟨by rw[hN.out,←a0r];rfl,hBe⟩
def b0i (l:List Nat):List Value:=l.map fun n:Nat=>.int .i64 (n:Int)
theorem b0F (l:List Nat):(b0i l).length=l.length:=by unfold b0i;simp
theorem v0i (l:List Nat) (i:Nat) (h:i < l.length):(b0i l)[i]?=some (.int .i64 (l.getD i 0:Nat)):=by unfold b0i;simp[h]
theorem d0t (l m:List Nat):b0i (l++m)=b0i l++b0i m:=by unfold b0i;simp
theorem s0t (l:List Nat) (k:Nat):b0i (l.drop k)=(b0i l).drop k:=by unfold b0i;rw[List.map_drop]
theorem s0u (l:List Nat) (k:Nat):b0i (l.take k)=(b0i l).take k:=by unfold b0i;rw[List.map_take]
theorem g0n (l:List Nat):∀v∈b0i l,v.oneCell'=true:=by
 intro v hv
 obtain⟨_,_,rfl⟩:=List.mem_map.1 hv
 rfl
theorem i0h (A:Option Addr) (b o n c k:Nat) (hA:A=some ⟨b,o,none⟩) (hk:k < n) (w:World) :
  (Instr.indexAt 158 (.slice A n c) (.int .i64 k)).run Tryz.prog w=.ok (.pointer (some ⟨b,o+k,none⟩)) w:=by
 subst hA
 have h:(k:Int) < (n:Int):=by omega
 go_simp
theorem d0X {w:World} {b o c:Nat} {l:List Nat} (h:Sl w (some ⟨b,o,none⟩) c (b0i l)) (k:Nat) (hk:k < l.length):w.cell? ⟨b,o+k,none⟩=some (.int .i64 (l.getD k 0:Nat)):=by
 obtain⟨b',o',hA,_,hc⟩:=h.rd.get (i:=k) (by rw[b0F];exact hk)
 cases hA
 rw[hc,v0i _ _ hk]
theorem x0M (l:List Nat) (k:Nat) (h:k < l.length):a0S (l.drop k)=if l.getD k 0=0 then a0S (l.drop (k+1))+1 else 0:=by
 rw[List.drop_eq_getElem_cons h,a0S,List.getD_eq_getElem?_getD,List.getElem?_eq_getElem h];rfl
theorem t0w (l:List Nat) (p:Nat) (hp:p≤l.length) (hl:l.length≤1000000) (A:Option Addr) (c:Nat) (w:World) (hs:Sl w A c (b0i l)) :
  Calls Tryz.prog 156 #[.slice A l.length c,.int .i64 p] w fun e w'=>e=.returned (.int .i64 (a0S (l.drop p):Nat))∧w=w':=by
 go_enter Tryz.func156,Tryz.ntmps156
 go_wp2
 go_loop [5] (fun i=>∃k:Nat,p+k≤l.length∧i=.int .i64 k∧k+a0S (l.drop (p+k))=a0S (l.drop p)) (fun i=>1000001 - (intOf i).toNat)
 case atStart=>exact⟨0,by omega,rfl,by simp⟩
 case round =>
  obtain⟨k,hk,rfl,hz⟩:=hrel
  have hw1:IntKind.i64.wrap ((p:Int)+(k:Int))=((p+k:Nat):Int):=by rw[IntKind.wrap_i64];omega
  by_cases hlt:p+k < l.length
  ·have hlt':((p+k:Nat):Int) < (l.length:Int):=by omega
   obtain⟨b,o,hA,-,-⟩:=hs.rd.get (i:=p+k) (by rw[b0F];exact hlt)
   have hix:=i0h A b o l.length c (p+k) hA hlt w
   have hce:=d0X (by rw[hA] at hs;exact hs) (p+k) hlt
   have hzk:=x0M l (p+k) hlt
   by_cases h0:l.getD (p+k) 0=0
   ·rw[if_pos h0] at hzk
    rw[h0] at hce
    have HZ:=Lib.hid hz
    have HK:=Lib.hid hzk
    generalize hq:p+k=q at *
    clear hz hzk h0 hs
    go_wp2
    go_round
    case rel=>exact⟨k+1,by omega,by go_num,by rw[show p+(k+1)=q+1 by omega,←HZ.out,HK.out];omega⟩
    case measure=>simp[intOf];omega
   ·rw[if_neg h0] at hzk
    have HZ:=Lib.hid hz
    have HK:=Lib.hid hzk
    have h0':((l.getD (p+k) 0:Nat):Int)≠0:=by omega
    generalize l.getD (p+k) 0=x at *
    generalize hq:p+k=q at *
    clear hz hzk h0 hs
    go_wp2
    go_ret
    exact⟨by rw[←HZ.out,HK.out];rfl,rfl⟩
  ·have hge:(l.length:Int)≤((p+k:Nat):Int):=by omega
   have HZ:=Lib.hid hz
   clear hz
   go_wp2
   go_ret
   exact⟨by rw[←HZ.out,List.drop_of_length_le (by omega)];rfl,rfl⟩
theorem j0Q (l:List Nat) (h:∀n∈l,n≤65535):(b0H l).length≤5*l.length:=by
 induction l with
 | nil=>exact Nat.le_refl _
 | cons n l ih =>
  have hn:=b0f 16 (by omega) 3 n (by have:=h n (List.mem_cons_self ..);omega)
  cases l with
  | nil=>show (numL 16 n).length≤_;simp;omega
  | cons m l =>
   have:=ih (fun q hq=>h q (List.mem_cons_of_mem _ hq))
   show (numL 16 n++58 :: b0H (m :: l)).length≤_
   simp only[List.length_append,List.length_cons] at this ⊢
   omega
theorem s0y (l:List Nat) (k:Nat) (h:k < l.length):b0H (l.take (k+1))=if k=0 then numL 16 (l.getD k 0) else b0H (l.take k)++[58]++numL 16 (l.getD k 0):=by
 have e:l.take (k+1)=l.take k++[l.getD k 0]:=by rw[List.take_add_one];simp[h]
 rw[e,s0x]
 by_cases hk:k=0
 ·rw[if_pos hk,if_pos (by rw[hk];rfl)]
 ·rw[if_neg hk,if_neg (by intro h0;have:=congrArg List.length h0;rw[List.length_take,List.length_nil] at this;omega)]
  simp
set_option maxHeartbeats 1000000 in
theorem h0n (l:List Nat) (hm:∀n∈l,n≤65535) (hl:l.length≤1000000) (A:Option Addr) (c:Nat) (w:World) (hs:Sl w A c (b0i l)) :
  Calls Tryz.prog 157 #[.slice A l.length c] w fun e w'=>e=.returned (.string (bstr (b0H l)))∧Below w.heap.size w w':=by
 go_enter Tryz.func157,Tryz.ntmps157
 go_wp2
 go_loopw [3,8] (fun v i wr=>∃k:Nat,k≤l.length∧i=.int .i64 k∧v=.string (bstr (b0H (l.take k)))∧Below w.heap.size w wr) (fun _ i _=>l.length - (intOf i).toNat)
 case atStart=>exact⟨0,by omega,rfl,rfl,Below.refl _ _⟩
 case round =>
  obtain⟨k,hk,rfl,rfl,hb⟩:=hrel
  by_cases hlt:k < l.length
  ·have hlt':(k:Int) < (l.length:Int):=by omega
   obtain⟨b,o,hA,-,-⟩:=hs.rd.get (i:=k) (by rw[b0F];exact hlt)
   have hix:=i0h A b o l.length c k hA hlt
   have hce:=d0X (by rw[hA] at hs;exact hs.later (Nat.le_refl _) hb) k hlt
   have hJ:=s0y l k hlt
   have hx:l.getD k 0≤65535:=hm _ (by rw[List.getD_eq_getElem?_getD,List.getElem?_eq_getElem hlt];exact List.getElem_mem hlt)
   have hn:=Lib.hid (fun w'=>l0A (l.getD k 0) (l.getD k 0) w' (Nat.le_refl _) (by omega))
   have hnl:=b0f 16 (by omega) 3 (l.getD k 0) (by omega)
   have hjl:=j0Q (l.take k) (fun n hn=>hm n (List.mem_of_mem_take hn))
   rw[List.length_take] at hjl
   generalize l.getD k 0=x at *
   generalize numL 16 x=X at *
   have hz:(bstr (b0H (l.take k))).size=(b0H (l.take k)).length:=a0f _
   by_cases h0:k=0
   ·rw[if_pos h0] at hJ
    have hce0:wr.cell? ⟨b,o,none⟩=some (.int .i64 (x:Nat)):=by rw[h0] at hce;exact hce
    have hpos:0 < l.length:=by omega
    have hix0:∀w,(Instr.indexAt 158 (.slice A l.length c) (.int .i64 0)).run Tryz.prog w=.ok (.pointer (some ⟨b,o,none⟩)) w:=by rw[h0] at hix;exact hix
    have HJ:=Lib.hid (show b0H (l.take (k+1))=b0H (l.take k)++X by rw[hJ,h0];rfl)
    generalize b0H (l.take k)=J at *
    have hzX:(bstr X).size=X.length:=a0f _
    clear hJ hs hA
    go_wp2_with (go_at_call 155;refine (hn.out _).mono ?_;rintro e w1 ⟨rfl,hb1⟩)
    go_roundw
    case rel=>exact⟨k+1,by omega,by rw[h0];go_num,by rw[HJ.out,←a0r],hb.trans (hb1.mono hb.size)⟩
    case measure=>simp[intOf];omega
   ·rw[if_neg h0] at hJ
    have h0':(0:Int) < (k:Int):=by omega
    have HJ:=Lib.hid hJ
    generalize b0H (l.take k)=J at *
    have hzX:(bstr X).size=X.length:=a0f _
    clear hJ hs hA
    go_wp2_with (go_at_call 155;refine (hn.out _).mono ?_;rintro e w1 ⟨rfl,hb1⟩)
    go_roundw
    case rel=>exact⟨k+1,by omega,by go_num,by rw[HJ.out,←a0r,←a0r];rfl,hb.trans (hb1.mono hb.size)⟩
    case measure=>simp[intOf];omega
  ·obtain rfl:k=l.length:=by omega
   go_wp2
   go_ret
   exact⟨by rw[List.take_length];rfl,hb⟩
theorem a0W:(Tryz.prog.info? 65).map (·.size)=some 17:=by kernel_rfl
theorem c0B {w:World} {g:Nat} {a:Adr} (h:a.Ok) (hr:Row w g 65 (adrV a)) (k:Nat) (hk:k < 16):w.cell? ⟨g,1+k,none⟩=some (.int .u8 ((a.b.getD k 0).toNat:Int)):=by
 rw[hr.cell,Nat.add_comm]
 show (byts a.b)[k]?=_
 rw[c0C _ _ (by rw[h];exact hk)]
theorem j0v {w:World} {g:Nat} {a:Adr} (hr:Row w g 65 (adrV a)):w.cell? ⟨g,0,none⟩=some (.bool a.v6):=by rw[hr.cell];rfl
theorem r0W (a:Adr) (h:a.Ok) (h6:a.v6=false) (k:Nat) (h4:4≤k) (hk:k < 16) (hb:a.b.getD k 0≠0):b0b a=false:=by
 unfold b0b
 rw[h6,Bool.false_or]
 rw[List.all_eq_false]
 refine⟨a.b.getD k 0,?_,by simpa using hb⟩
 have hl:k < a.b.length:=by rw[h];exact hk
 have e:(a.b.drop 4)[k - 4]?=some (a.b.getD k 0):=by rw[List.getElem?_drop,show 4+(k - 4)=k by omega,List.getElem?_eq_getElem hl,List.getD_eq_getElem?_getD,List.getElem?_eq_getElem hl];rfl
 exact List.mem_of_getElem? e
theorem p0i (a:Adr) (h:a.Ok) (hz:∀k,4≤k→k < 16→a.b.getD k 0=0):b0b a=true:=by
 unfold b0b
 rw[Bool.or_eq_true]
 right
 rw[List.all_eq_true]
 intro x hx
 obtain⟨k,hk⟩:=List.getElem?_of_mem hx
 rw[List.getElem?_drop] at hk
 have hl:4+k < a.b.length:=(List.getElem?_eq_some_iff.1 hk).1
 have:=hz (4+k) (by omega) (by rw[h] at hl;exact hl)
 rw[List.getD_eq_getElem?_getD,hk] at this
 simpa using this
theorem f0S (a:Adr) (h:a.Ok) (w:World) :
  Calls Tryz.prog 154 #[.agg (adrV a).toArray] w fun e w'=>e=.returned (.bool (b0b a))∧Below w.heap.size w w':=by
 obtain⟨w1,hw1⟩:∃w1,w1=w.alloc (.cells (adrV a).toArray 65):=⟨_,rfl⟩
 have hr:Row w1 w.heap.size 65 (adrV a):=by rw[hw1];exact Row.new w _ _
 have hb:Below w.heap.size w w1:=by rw[hw1];exact (Below.refl _ w).alloc (Nat.le_refl _) _
 have hc6:=j0v hr
 obtain⟨V,hV⟩:∃V,V=adrV a:=⟨_,rfl⟩
 rw[←hV] at hw1 ⊢
 clear hV
 cases h6:a.v6 with
 | true =>
  rw[h6] at hc6
  have HC:=Lib.hid (show b0b a=true by unfold b0b;rw[h6];rfl)
  clear hr
  go_enter Tryz.func154,Tryz.ntmps154
  subst hw1
  go_wp2
  go_ret
  exact⟨by rw[HC.out];rfl,hb⟩
 | false =>
  rw[h6] at hc6
  go_enter Tryz.func154,Tryz.ntmps154
  subst hw1
  go_wp2
  go_loop [3] (fun i=>∃k:Nat,4≤k∧k≤16∧i=.int .i64 k∧∀j,4≤j→j < k→a.b.getD j 0=0) (fun i=>16 - (intOf i).toNat)
  case atStart=>exact⟨4,by omega,by omega,rfl,fun j h1 h2=>by omega⟩
  case round =>
   obtain⟨k,h4,hk,rfl,hz⟩:=hrel
   by_cases hlt:k < 16
   ·have hcb:=c0B h hr k hlt
    by_cases h0:a.b.getD k 0=0
    ·have HZ:=Lib.hid (show ∀j,4≤j→j < k+1→a.b.getD j 0=0 from fun j h1 h2=>by
      by_cases e:j=k
      ·rw[e];exact h0
      ·exact hz j h1 (by omega))
     rw[h0] at hcb
     clear hz h0 hr
     go_wp2
     go_round
     case rel=>exact⟨k+1,by omega,by omega,by go_num,HZ.out⟩
     case measure=>simp[intOf];omega
    ·have HC:=Lib.hid (r0W a h h6 k h4 hlt h0)
     have h0':(((a.b.getD k 0).toNat:Int)==0)=false:=by
      rw[beq_eq_false_iff_ne]
      intro he
      exact h0 (UInt8.toNat_inj.1 (by show (a.b.getD k 0).toNat=0;omega))
     generalize a.b.getD k 0=x at *
     clear hz h0 hr
     go_wp2
     go_ret
     exact⟨by rw[HC.out];rfl,hb⟩
   ·obtain rfl:k=16:=by omega
    have HC:=Lib.hid (p0i a h hz)
    clear hz hr
    go_wp2
    go_ret
    exact⟨by rw[HC.out];rfl,hb⟩
end Go.Proofs.YtimdhdimhboboaaGreatDoor
