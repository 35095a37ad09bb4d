import Derived.Test.YtcbilopdeiapjaaGreatDoorRgak
set_option maxHeartbeats 16000000
set_option maxRecDepth 100000
open Go.Proofs.Tryz
namespace Go.Proofs.YtcbilopdeiapjaaGreatDoor
open Go Go.RowKit
theorem k0W (w:World):(Instr.buildSlice 27 0 #[]).run prog w=.ok (.slice (some ⟨w.heap.size,0,none⟩) 0 0) (w.alloc (.cells #[] 43)):=by go_simp
theorem u0x (c:Cav) (w:World):(Instr.buildSlice 27 1 #[(0,.agg (cavV c).toArray)]).run prog w=.ok (.slice (some ⟨w.heap.size,0,none⟩) 1 1) (w.alloc (.cells (cavV c).toArray 43)):=by unfold cavV;go_simp
section
variable {w:World} {ops:Array Oper} {o:Oper} {a:Act} {K:Act→World→Prop} {Q:Exit→Act→World→Prop} {E:Prop}
theorem m0h (dst:Option Tmp) (hdst:o.dst=dst) (hgd:Region.wanted o (yielded ops a.tmps)=true) (hrun:(execOp a.eval o).run prog w=.ok (.value (.slice (some ⟨w.heap.size,0,none⟩) 0 0)) (w.alloc (.cells #[] 43)))
  (h:∀b w',w'.ownsRow w.heap.size 43 5 (.slice (some ⟨b,0,none⟩) 0 0) 0 []→b < w'.heap.size→w.heap.size≤b→Below w.heap.size w w'→K (a.put dst (.slice (some ⟨b,0,none⟩) 0 0)) w'):if Region.wanted o (yielded ops a.tmps)=true then Oper.wp prog o a w K Q else E:=by
 subst hdst
 rw[if_pos hgd]
 unfold Oper.wp
 rw[hrun]
 exact h _ _ (World.ownsRow_lit w (e:=43) (size:=5) #[] 0 (f1F _) (by unfold maxLen;omega) rfl) (by rw[World.size_alloc];omega) (f1F _) ((Below.refl _ w).alloc (f1F _) _)
theorem l0b (dst:Option Tmp) (hdst:o.dst=dst) (hgd:Region.wanted o (yielded ops a.tmps)=true) (c:Cav) (hrun:(execOp a.eval o).run prog w=.ok (.value (.slice (some ⟨w.heap.size,0,none⟩) 1 1)) (w.alloc (.cells (cavV c).toArray 43)))
  (h:∀b w',Sl w' (some ⟨b,0,none⟩) (1*5) (cavV c)→b < w'.heap.size→w.heap.size≤b→Below w.heap.size w w'→K (a.put dst (.slice (some ⟨b,0,none⟩) 1 1)) w'):if Region.wanted o (yielded ops a.tmps)=true then Oper.wp prog o a w K Q else E:=by
 subst hdst
 rw[if_pos hgd]
 unfold Oper.wp
 rw[hrun]
 have hr:=Row.new w 43 (cavV c)
 exact h _ _ ⟨Rd.row (ys:=[]) (by rw[List.append_nil];exact hr),f1F _,fun h=>by cases h⟩ (by rw[World.size_alloc];omega) (f1F _) ((Below.refl _ w).alloc (f1F _) _)
theorem i0K (dst:Option Tmp) (hdst:o.dst=dst) (hgd:Region.wanted o (yielded ops a.tmps)=true) (g i:Nat) (v:Value) (hrun:(execOp a.eval o).run prog w=.ok .skip (w.setCell ⟨g,i,none⟩ v))
  (h:∀w',w'=w.setCell ⟨g,i,none⟩ v→w.grownBy w' (some g)→K (a.put dst undef) w'):if Region.wanted o (yielded ops a.tmps)=true then Oper.wp prog o a w K Q else E:=by
 subst hdst
 rw[if_pos hgd]
 unfold Oper.wp
 rw[hrun]
 exact h _ rfl (a0q _ _ _ _)
end
theorem d0N {P:Program} {ops:Array Oper} {rest:List Oper} {o:Oper} {a:Act} {w:World} {Q:Exit→Act→World→Prop} (hgd:o.guard=none) (ty:TypeId) (x y:Operand) (ho:o.op=.store ty x y)
  (g off:Nat) (t:TypeId) (cur cs:List Value) (hx:a.eval x=.pointer (some ⟨g,off,none⟩)) (hy:a.eval y=.agg cs.toArray) (hr:Row w g t cur) (hfit:off+cs.length≤cur.length) (hi:(P.info? ty).map (·.size)=some cs.length) (h1:∀v∈cs,v.oneCell'=true)
  (h:∀w',Row w' g t (splice cur off cs)→w.grownBy w' (some g)→wpList P ops Q rest (a.put o.dst undef) w'):wpList P ops Q (o :: rest) a w:=by
 refine wpList_plain hgd fun _ hK=>?_
 unfold Oper.wp execOp
 simp only[ho,hx,hy,i0j ty g off t cur cs hr hfit hi h1,Sem.run_bind,Sem.run_pure,Result.andThen_ok]
 exact hK _ _ (h _ (hr.setRow _) (d0C _ _ _))
theorem g0d {w:World} {g:Nat} {u:TypeId} {t:Tok} {A:Option Addr} {c:Nat} (h:Row w g u (tokV t A c)):w.rangeAt g 4 (byts t.tag) :=
 b0R (A:=tokH t A c) (B:=byts t.tag) (C:=[]) (by rw[List.append_nil];exact h)
theorem h0J (t:Tok) (A:Option Addr) (c:Nat) (g:List UInt8) (ht:t.Ok) (hg:g.length=32):splice (tokV t A c) 4 (byts g)=tokV { t with tag:=g } A c:=by
 unfold splice tokV
 rw[show (tokH t A c++byts t.tag).take 4=tokH t A c from rfl,a0b,hg,List.drop_eq_nil_of_le (by rw[List.length_append,a0b,ht.tag];exact f1F _),List.append_nil];rfl
theorem l0P {w:World} {b b' t k n:Nat} {v:Value} {xs:List Value} (h:w.ownsRow b t k v n xs) (hb:b'≤b):w.ownsRow b' t k v n xs:=by
 obtain⟨hl,h | ⟨g,cap,cur,rfl,hg,h⟩⟩:=h
 ·exact⟨hl,.inl h⟩
 ·exact⟨hl,.inr ⟨g,cap,cur,rfl,Nat.le_trans hb hg,h⟩⟩
theorem g0t (c:Cav):∀v∈cavV c,v.oneCell'=true:=fun v hv=>f0Q [c] v (by simpa using hv)
theorem j0L (t:Tok) (cv:Cav) (A B:Option Addr) (c d:Nat):(tokV t A c).set 2 (.slice B (t.cavs.length+1) d)=tokV { t with cavs:=t.cavs++[cv] } B d:=by
 unfold tokV tokH
 rw[show ({ t with cavs:=t.cavs++[cv] } : Tok).cavs.length=t.cavs.length+1 by simp];rfl
theorem s0k {w:World} {B:Option Addr} {d:Nat} {t:Tok} {cv:Cav} (h:Sl w B (d*5) (t.cavs.flatMap cavV++cavV cv)):Sl w B (d*5) (({ t with cavs:=t.cavs++[cv] } : Tok).cavs.flatMap cavV):=by
 show Sl w B (d*5) ((t.cavs++[cv]).flatMap cavV)
 rw[List.flatMap_append,List.flatMap_cons,List.flatMap_nil,List.append_nil];exact h
theorem a1y (t:Tok) (ht:t.Ok) (cv:Cav) (hp:cv.party < 18446744073709551616) (hcb:(capB cv).length≤1000000) (hm:t.cavs.length≤1000000) (A:Option Addr) (c:Nat) (w:World) (hs:Sl w A (c*5) (t.cavs.flatMap cavV)) :
  Calls prog 29 #[.agg (tokV t A c).toArray,.agg (cavV cv).toArray] w (b0L (addT t cv) (b0B t cv) w):=by
 obtain⟨i0,hi,hz0,hsz0,hby0⟩:=m0K
 obtain⟨Z,hZ⟩:∃Z,Z=tokV b0l none 0:=⟨_,rfl⟩
 have hZl:Z.length=36:=by rw[hZ];exact a0n b0Z none 0
 have hZe:=f1D (hZ.trans ztok)
 have hzZ:=f1D (show (prog.info? 29).map (·.size)=some Z.toArray.size by rw[List.size_toArray,hZl];exact a0I)
 have hZ1:=f1D (show Z.toArray.all (·.oneCell')=true by rw[hZ,List.all_toArray,List.all_eq_true];exact a0X _ _ _)
 obtain⟨X,hX⟩:∃X,X=tokV t A c:=⟨_,rfl⟩
 have hXl:X.length=36:=by rw[hX];exact a0n ht A c
 have hzX:=f1D (show (prog.info? 29).map (·.size)=some X.length by rw[hXl];exact a0I)
 have hzX2:=f1D (show (prog.info? 29).map (·.size)=some X.toArray.size by rw[List.size_toArray,hXl];exact a0I)
 have h36:=f1D (show 36=X.toArray.size by rw[List.size_toArray,hXl])
 have hX1:=f1D (show X.toArray.all (·.oneCell')=true by rw[hX,List.all_toArray,List.all_eq_true];exact a0X _ _ _)
 obtain⟨w1,hw1⟩:∃w1,w1=((w.alloc (.cells X.toArray 29)).alloc (.cells (cavV cv).toArray 43)).alloc (.cells Z.toArray 29):=⟨_,rfl⟩
 obtain⟨r1,r2,r3,hb1,hs1⟩:=i0i hw1.symm
 have HW:=f1D (hw1.trans (by rw[hZe.out]))
 have ts:=hs.later (f1F _) hb1
 have hc3:w1.cell? ⟨w.heap.size,3,none⟩=some (.bool t.bound):=by rw[r1.cell,hX];rfl
 have HZ:=f1D hZ
 have HX:=f1D hX
 rw[←hX]
 clear hw1 hZ hX hs
 have Q3:=f1D (show w1.heap[w.heap.size+1+1]?=some (.cells Z.toArray 29 (0,0)) from r3)
 have tok1:True:=trivial
 cases hbd:t.bound with
 | true =>
  have HE:=f1D (show b0B t cv=6 by unfold b0B;rw[if_pos hbd])
  have HG:=f1D (show addT t cv=b0l by unfold addT;rw[HE.out];rfl)
  rw[hbd] at hc3
  clear r1 r2 r3 ts hXl hZl
  generalize addT t cv=U at *
  generalize b0B t cv=er at *
  go_enter func29,ntmps29
  go_wp2_with (first
   | (have _t:=tok1;rw[←HW.out];clear tok1)
   | (have _t:=Q3;refine wpList_store_row rfl 29 (.tmp 4) (.tmp 9) rfl (w.heap.size+1+1) Z.toArray rfl (by rw[hZe.out];rfl) 29 Z.toArray Q3.out hzZ.out rfl hZ1.out ?_;refine Hid.out ?_))
  refine f1D ?_
  generalize hw8:World.setRow _ _ _=w8
  obtain⟨r8,hg8⟩:=a0y (show Row w1 (w.heap.size+1+1) 29 Z from Q3.out) hw8
  have hb8:=hb1.grown hg8 hb1.size (fun k h=>by cases h;omega)
  have R8:=f1D (show w8.heap[w.heap.size+1+1]?=some (.cells Z.toArray 29 (0,0)) from r8)
  clear hw8 r8 Q3
  go_wp2_with fail
  exact⟨rfl,_,a0d rfl _ _ (w.heap.size+1+1) 29 Z.toArray (0,0) _ rfl R8.out underlying29 rfl hzZ.out _ rfl,none,0,by rw[HE.out,HG.out,HZ.out];rfl,by rw[HG.out];exact c0x _,(fun a h=>by cases h),hb8⟩
 | false =>
  rw[hbd] at hc3
  have R1:=f1D (show w1.heap[w.heap.size]?=some (.cells X.toArray 29 (0,0)) from r1)
  have Hnx:=f1D (x0F t.tag ht.tag cv hp hcb)
  have hZX:=f1D (show Z.toArray.size=X.toArray.size by rw[List.size_toArray,List.size_toArray,hZl,hXl])
  have n1:0+t.cavs.length≤maxLen:=by unfold maxLen;omega
  have n2:(0+t.cavs.length)*64≤140737488355328:=by omega
  have m1:t.cavs.length+1≤maxLen:=by unfold maxLen;omega
  have m2:(t.cavs.length+1)*64≤140737488355328:=by omega
  have HS1:=f1D hs1
  clear hs1
  go_enter func29,ntmps29
  go_wp2_with (first
   | (have _t:=tok1;rw[←HW.out];clear tok1)
   | (with_reducible refine wpList_load_row rfl 29 (.tmp 2) rfl w.heap.size rfl 29 X.toArray (0,0) _ R1.out underlying29 rfl hzX2.out ?_)
   | (refine wpList_store_row rfl 29 (.tmp 6) (.tmp 10) rfl w1.heap.size X.toArray rfl rfl 29 _ (heap_alloc_new _ _) hzX2.out h36.out hX1.out ?_;refine Hid.out ?_))
  refine f1D ?_
  generalize hw2:World.setRow _ _ _=w2
  have hw2':(w1.alloc (.cells Z.toArray 29)).setRow w1.heap.size X.toArray=w2:=by rw[hZe.out];exact hw2
  obtain⟨r6,hg6⟩:=a0y (Row.new w1 29 Z) hw2'
  have hba:=(Below.refl _ w1).alloc (f1F _) (.cells Z.toArray 29)
  have hb12:=hba.grown hg6 hba.size (fun k h=>by cases h;exact f1F _)
  have r1:=r1.later hb12 r1.lt
  have r2:=r2.later hb12 r2.lt
  have r3:=r3.later hb12 r3.lt
  have ts:=ts.later (f1F _) hb12
  have hbw:=hb1.trans (hb12.mono hb1.size)
  have hs1:=HS1.out
  clear hw2 hw2' hg6 hba hb12 hb1 R1 HW hc3 Q3 HS1
  generalize hG0:w.heap.size=g0 at r1 r2 r3 hs1 hbw ⊢
  generalize hG6:w1.heap.size=g6 at r6 hs1 ⊢
  have hlt6:g0+2 < g6:=by omega
  clear hs1
  go_upto_region 4 with fail
  go_cut [6] (fun p6 wx=>p6=.pointer (some ⟨g6,0,none⟩)∧∃B d,Row wx g6 29 (tokV { t with cavs:=t.cavs++[cv] } B d)∧Sl wx B (d*5) (({ t with cavs:=t.cavs++[cv] } : Tok).cavs.flatMap cavV)∧(∀a,B=some a→g6 < a.block)∧Row wx g0 29 X∧Row wx (g0+1) 43 (cavV cv)∧Row wx (g0+1+1) 29 Z∧Below g0 w wx)
  case first =>
   refine wp_region_noPanic ?_
   refine wp_region_held_drew (S:=fun w'=>Row w' g0 29 X∧Row w' (g0+1) 43 (cavV cv)) (by kernel_rfl) (⟨r1.later ((Below.refl _ _).drew) r1.lt,r2.later ((Below.refl _ _).drew) r2.lt⟩) (fun hHeld=>?_)
   have hB:Below w2.heap.size w2 w2.drew:=(Below.refl _ _).drew
   refine rt 1 12 hHeld ?_
   refine rt 2 13 hHeld ?_ (hy:=by intro w hS;have hc:w.cell? ⟨g0,2,none⟩=some (.slice A t.cavs.length c):=by { rw[hS.1.cell,HX.out];rfl };go_simp;try with_reducible rfl)
   refine rt 4 15 hHeld ?_ (hy:=by intro w hS;exact a0s 43 (.tmp 3) rfl _ 0 rfl (cavV cv) _ (a0i hS.2) underlying43 rfl c0C)
   refine rc2 0 5 (fun K hK=>?_) fun K hK=>?_
   ·refine m0h (some 11) rfl (by rfl) (by have hss:=k0W w2.drew;go_simp) ?_;intro b0 ww20 own0 h0lt h0ge hqw20;have own0:=l0P own0 (show w2.heap.size≤_ from hB.size)
    refine rk hK ⟨hHeld.1.later hqw20 hHeld.1.lt,hHeld.2.later hqw20 hHeld.2.lt⟩ fun hHeld=>?_
    clear hK K
    have hB:=a0a hB hqw20
    have hB0:Below ww20.heap.size ww20 ww20:=Below.refl _ _
    refine rc2 3 5 (fun K hK=>?_) fun K hK=>?_
    ·have ownA:=c0p own0 hB0 (f1F _);refine c0U (some 14) rfl (by rfl) (.tmp 11) (.tmp 13) 27 rfl w2.heap.size 43 i0 _ 5 64 underlying27 hi hz0 hsz0 (by omega) hby0 rfl _ 0 [] rfl ownA A t.cavs.length c (t.cavs.flatMap cavV) rfl (b0P _) (ts.later (f1F _) hB) (f0Q _) n1 n2 hB.size ?_;intro v3 ww23 own3 hg3;rw[Nat.zero_add,List.nil_append] at own3;have hqw23:=(Below.refl w2.heap.size _).grown hg3 hB.size (fun j hj=>(ownA.lt j hj).1);try (have s5:=Sl.apart (s5.later (f1F _) hB5) (show World.grownBy _ _ (some b0) from hg3) (fun hx a ha=>by cases ha;show b5≠b0;omega))
     refine rk hK ⟨Row.kept hHeld.1 hg3 (fun k hk e=>by have:=(ownA.lt k hk).1;have:=r1.lt;have:=r2.lt;omega),Row.kept hHeld.2 hg3 (fun k hk e=>by have:=(ownA.lt k hk).1;have:=r1.lt;have:=r2.lt;omega)⟩ fun hHeld=>?_
     clear hK K
     have hB:=hB.trans hqw23
     clear hB0
     have hB3:Below ww23.heap.size ww23 ww23:=Below.refl _ _
     refine rc1 5 fun K hK=>?_
     refine l0b (some 16) rfl (by rfl) cv (by unfold cavV;go_simp) ?_;intro b5 ww25 s5 h5lt h5ge hqw25
     refine rk hK ⟨hHeld.1.later hqw25 hHeld.1.lt,hHeld.2.later hqw25 hHeld.2.lt⟩ fun hHeld=>?_
     clear hK K
     have hB:=a0a hB hqw25
     have hB3:=a0a hB3 hqw25
     have hB5:Below ww25.heap.size ww25 ww25:=Below.refl _ _
     refine rc1 6 fun K hK=>?_
     have ownB:=c0p own3 hB3 (f1F _);refine c0U (some 17) rfl (by rfl) (.tmp 14) (.tmp 16) 27 rfl w2.heap.size 43 i0 _ 5 64 underlying27 hi hz0 hsz0 (by omega) hby0 rfl _ t.cavs.length (t.cavs.flatMap cavV) rfl ownB (some ⟨b5,0,none⟩) 1 1 (cavV cv) rfl rfl (by first | exact s5 | exact s5.later (f1F _) hB5) (g0t cv) m1 m2 hB.size ?_;intro v6 ww26 own6 hg6;have hqw26:=(Below.refl w2.heap.size _).grown hg6 hB.size (fun j hj=>(ownB.lt j hj).1);have lt6:=own6.lt;obtain⟨B,d,rfl,-,s6⟩:=Sl.of_ownk own6
     refine rk hK ⟨Row.kept hHeld.1 hg6 (fun k hk e=>by have:=(ownB.lt k hk).1;have:=r1.lt;have:=r2.lt;omega),Row.kept hHeld.2 hg6 (fun k hk e=>by have:=(ownB.lt k hk).1;have:=r1.lt;have:=r2.lt;omega)⟩ fun hHeld=>?_
     clear hK K
     have hB:=hB.trans hqw26
     clear hB3 hB5
     have hB6:Below ww26.heap.size ww26 ww26:=Below.refl _ _
     refine rt 7 18 hHeld ?_
     refine rc1 8 fun K hK=>?_
     have q6:=r6.later hB r6.lt;have q3:=r3.later hB r3.lt;have hcc:World.cell? _ ⟨g6,2,none⟩=some (.slice A t.cavs.length c):=(by rw[q6.cell,HX.out];rfl);have hff:=q6.free 2;refine i0K none rfl (by rfl) g6 2 (.slice B (t.cavs.length+1) d) (by go_simp) ?_;intro wf hwf hgf;have rf:=q6.set 2 (.slice B (t.cavs.length+1) d);rw[←hwf] at rf;have s6:=Sl.apart s6 hgf (fun hx a ha=>by have:=(lt6 a.block (by rw[ha];rfl)).1;have:=r6.lt;omega);have q3:=q3.grown hgf (by omega);have hBf:=(hbw.trans (hB.mono (Nat.le_of_lt r1.lt))).grown hgf (Nat.le_trans (Nat.le_of_lt r1.lt) hB.size) (fun k h=>by cases h;omega);clear hwf
     refine hK.out _ _ ⟨hHeld.1.grown hgf (by omega),hHeld.2.grown hgf (by omega)⟩ (fun hHeld=>?_)
     clear hK K
     rw[a0u]
     refine wpAnyH_done (by kernel_rfl) ?_ _
     refine NoPanic.normal ?_
     go_wp2_with fail
     go_meet
     case rel=>exact⟨rfl,B,d,(j0L t cv A B c d) ▸ (HX.out ▸ rf),s0k s6,(fun a ha=>by have:=(lt6 a.block (by rw[ha];rfl)).1;have:=r6.lt;omega),hHeld.1,hHeld.2,q3,hBf⟩
    ·refine l0b (some 16) rfl (by rfl) cv (by unfold cavV;go_simp) ?_;intro b5 ww25 s5 h5lt h5ge hqw25
     refine rk hK ⟨hHeld.1.later hqw25 hHeld.1.lt,hHeld.2.later hqw25 hHeld.2.lt⟩ fun hHeld=>?_
     clear hK K
     have hB:=a0a hB hqw25
     have hB0:=a0a hB0 hqw25
     have hB5:Below ww25.heap.size ww25 ww25:=Below.refl _ _
     refine rc1 3 fun K hK=>?_
     have ownA:=c0p own0 hB0 (f1F _);refine c0U (some 14) rfl (by rfl) (.tmp 11) (.tmp 13) 27 rfl w2.heap.size 43 i0 _ 5 64 underlying27 hi hz0 hsz0 (by omega) hby0 rfl _ 0 [] rfl ownA A t.cavs.length c (t.cavs.flatMap cavV) rfl (b0P _) (ts.later (f1F _) hB) (f0Q _) n1 n2 hB.size ?_;intro v3 ww23 own3 hg3;rw[Nat.zero_add,List.nil_append] at own3;have hqw23:=(Below.refl w2.heap.size _).grown hg3 hB.size (fun j hj=>(ownA.lt j hj).1);try (have s5:=Sl.apart (s5.later (f1F _) hB5) (show World.grownBy _ _ (some b0) from hg3) (fun hx a ha=>by cases ha;show b5≠b0;omega))
     refine rk hK ⟨Row.kept hHeld.1 hg3 (fun k hk e=>by have:=(ownA.lt k hk).1;have:=r1.lt;have:=r2.lt;omega),Row.kept hHeld.2 hg3 (fun k hk e=>by have:=(ownA.lt k hk).1;have:=r1.lt;have:=r2.lt;omega)⟩ fun hHeld=>?_
     clear hK K
     have hB:=hB.trans hqw23
     clear hB0 hB5
     have hB3:Below ww23.heap.size ww23 ww23:=Below.refl _ _
     refine rc1 6 fun K hK=>?_
     have ownB:=c0p own3 hB3 (f1F _);refine c0U (some 17) rfl (by rfl) (.tmp 14) (.tmp 16) 27 rfl w2.heap.size 43 i0 _ 5 64 underlying27 hi hz0 hsz0 (by omega) hby0 rfl _ t.cavs.length (t.cavs.flatMap cavV) rfl ownB (some ⟨b5,0,none⟩) 1 1 (cavV cv) rfl rfl (by first | exact s5 | exact s5.later (f1F _) hB5) (g0t cv) m1 m2 hB.size ?_;intro v6 ww26 own6 hg6;have hqw26:=(Below.refl w2.heap.size _).grown hg6 hB.size (fun j hj=>(ownB.lt j hj).1);have lt6:=own6.lt;obtain⟨B,d,rfl,-,s6⟩:=Sl.of_ownk own6
     refine rk hK ⟨Row.kept hHeld.1 hg6 (fun k hk e=>by have:=(ownB.lt k hk).1;have:=r1.lt;have:=r2.lt;omega),Row.kept hHeld.2 hg6 (fun k hk e=>by have:=(ownB.lt k hk).1;have:=r1.lt;have:=r2.lt;omega)⟩ fun hHeld=>?_
     clear hK K
     have hB:=hB.trans hqw26
     clear hB3
     have hB6:Below ww26.heap.size ww26 ww26:=Below.refl _ _
     refine rt 7 18 hHeld ?_
     refine rc1 8 fun K hK=>?_
     have q6:=r6.later hB r6.lt;have q3:=r3.later hB r3.lt;have hcc:World.cell? _ ⟨g6,2,none⟩=some (.slice A t.cavs.length c):=(by rw[q6.cell,HX.out];rfl);have hff:=q6.free 2;refine i0K none rfl (by rfl) g6 2 (.slice B (t.cavs.length+1) d) (by go_simp) ?_;intro wf hwf hgf;have rf:=q6.set 2 (.slice B (t.cavs.length+1) d);rw[←hwf] at rf;have s6:=Sl.apart s6 hgf (fun hx a ha=>by have:=(lt6 a.block (by rw[ha];rfl)).1;have:=r6.lt;omega);have q3:=q3.grown hgf (by omega);have hBf:=(hbw.trans (hB.mono (Nat.le_of_lt r1.lt))).grown hgf (Nat.le_trans (Nat.le_of_lt r1.lt) hB.size) (fun k h=>by cases h;omega);clear hwf
     refine hK.out _ _ ⟨hHeld.1.grown hgf (by omega),hHeld.2.grown hgf (by omega)⟩ (fun hHeld=>?_)
     clear hK K
     rw[a0u]
     refine wpAnyH_done (by kernel_rfl) ?_ _
     refine NoPanic.normal ?_
     go_wp2_with fail
     go_meet
     case rel=>exact⟨rfl,B,d,(j0L t cv A B c d) ▸ (HX.out ▸ rf),s0k s6,(fun a ha=>by have:=(lt6 a.block (by rw[ha];rfl)).1;have:=r6.lt;omega),hHeld.1,hHeld.2,q3,hBf⟩
   ·refine l0b (some 16) rfl (by rfl) cv (by unfold cavV;go_simp) ?_;intro b5 ww25 s5 h5lt h5ge hqw25
    refine rk hK ⟨hHeld.1.later hqw25 hHeld.1.lt,hHeld.2.later hqw25 hHeld.2.lt⟩ fun hHeld=>?_
    clear hK K
    have hB:=a0a hB hqw25
    have hB5:Below ww25.heap.size ww25 ww25:=Below.refl _ _
    refine rc1 0 fun K hK=>?_
    refine m0h (some 11) rfl (by rfl) (by have hss:=k0W ww25;go_simp) ?_;intro b0 ww20 own0 h0lt h0ge hqw20;have own0:=l0P own0 (show w2.heap.size≤_ from hB.size)
    refine rk hK ⟨hHeld.1.later hqw20 hHeld.1.lt,hHeld.2.later hqw20 hHeld.2.lt⟩ fun hHeld=>?_
    clear hK K
    have hB:=a0a hB hqw20
    have hB5:=a0a hB5 hqw20
    have hB0:Below ww20.heap.size ww20 ww20:=Below.refl _ _
    refine rc1 3 fun K hK=>?_
    have ownA:=c0p own0 hB0 (f1F _);refine c0U (some 14) rfl (by rfl) (.tmp 11) (.tmp 13) 27 rfl w2.heap.size 43 i0 _ 5 64 underlying27 hi hz0 hsz0 (by omega) hby0 rfl _ 0 [] rfl ownA A t.cavs.length c (t.cavs.flatMap cavV) rfl (b0P _) (ts.later (f1F _) hB) (f0Q _) n1 n2 hB.size ?_;intro v3 ww23 own3 hg3;rw[Nat.zero_add,List.nil_append] at own3;have hqw23:=(Below.refl w2.heap.size _).grown hg3 hB.size (fun j hj=>(ownA.lt j hj).1);try (have s5:=Sl.apart (s5.later (f1F _) hB5) (show World.grownBy _ _ (some b0) from hg3) (fun hx a ha=>by cases ha;show b5≠b0;omega))
    refine rk hK ⟨Row.kept hHeld.1 hg3 (fun k hk e=>by have:=(ownA.lt k hk).1;have:=r1.lt;have:=r2.lt;omega),Row.kept hHeld.2 hg3 (fun k hk e=>by have:=(ownA.lt k hk).1;have:=r1.lt;have:=r2.lt;omega)⟩ fun hHeld=>?_
    clear hK K
    have hB:=hB.trans hqw23
    clear hB5 hB0
    have hB3:Below ww23.heap.size ww23 ww23:=Below.refl _ _
    refine rc1 6 fun K hK=>?_
    have ownB:=c0p own3 hB3 (f1F _);refine c0U (some 17) rfl (by rfl) (.tmp 14) (.tmp 16) 27 rfl w2.heap.size 43 i0 _ 5 64 underlying27 hi hz0 hsz0 (by omega) hby0 rfl _ t.cavs.length (t.cavs.flatMap cavV) rfl ownB (some ⟨b5,0,none⟩) 1 1 (cavV cv) rfl rfl (by first | exact s5 | exact s5.later (f1F _) hB5) (g0t cv) m1 m2 hB.size ?_;intro v6 ww26 own6 hg6;have hqw26:=(Below.refl w2.heap.size _).grown hg6 hB.size (fun j hj=>(ownB.lt j hj).1);have lt6:=own6.lt;obtain⟨B,d,rfl,-,s6⟩:=Sl.of_ownk own6
    refine rk hK ⟨Row.kept hHeld.1 hg6 (fun k hk e=>by have:=(ownB.lt k hk).1;have:=r1.lt;have:=r2.lt;omega),Row.kept hHeld.2 hg6 (fun k hk e=>by have:=(ownB.lt k hk).1;have:=r1.lt;have:=r2.lt;omega)⟩ fun hHeld=>?_
    clear hK K
    have hB:=hB.trans hqw26
    clear hB3
    have hB6:Below ww26.heap.size ww26 ww26:=Below.refl _ _
    refine rt 7 18 hHeld ?_
    refine rc1 8 fun K hK=>?_
    have q6:=r6.later hB r6.lt;have q3:=r3.later hB r3.lt;have hcc:World.cell? _ ⟨g6,2,none⟩=some (.slice A t.cavs.length c):=(by rw[q6.cell,HX.out];rfl);have hff:=q6.free 2;refine i0K none rfl (by rfl) g6 2 (.slice B (t.cavs.length+1) d) (by go_simp) ?_;intro wf hwf hgf;have rf:=q6.set 2 (.slice B (t.cavs.length+1) d);rw[←hwf] at rf;have s6:=Sl.apart s6 hgf (fun hx a ha=>by have:=(lt6 a.block (by rw[ha];rfl)).1;have:=r6.lt;omega);have q3:=q3.grown hgf (by omega);have hBf:=(hbw.trans (hB.mono (Nat.le_of_lt r1.lt))).grown hgf (Nat.le_trans (Nat.le_of_lt r1.lt) hB.size) (fun k h=>by cases h;omega);clear hwf
    refine hK.out _ _ ⟨hHeld.1.grown hgf (by omega),hHeld.2.grown hgf (by omega)⟩ (fun hHeld=>?_)
    clear hK K
    rw[a0u]
    refine wpAnyH_done (by kernel_rfl) ?_ _
    refine NoPanic.normal ?_
    go_wp2_with fail
    go_meet
    case rel=>exact⟨rfl,B,d,(j0L t cv A B c d) ▸ (HX.out ▸ rf),s0k s6,(fun a ha=>by have:=(lt6 a.block (by rw[ha];rfl)).1;have:=r6.lt;omega),hHeld.1,hHeld.2,q3,hBf⟩
  case rest =>
   clear r6 r1 r2 r3 ts hbw
   obtain⟨rfl,B,d,r6,s6,hap,r1,r2,r3,hB⟩:=hcut
   subst hG0
   clear hG6 w2
   have hnl:=a0U _ (c0r t.tag cv)
   have hmo:(c0G t cv).Ok:=f0U ht hp
   have hto:({ t with cavs:=t.cavs++[cv] } : Tok).Ok:=⟨hmo.key,hmo.party,ht.tag⟩
   obtain⟨V,hV⟩:∃V,V=tokV (c0G t cv) B d:=⟨_,rfl⟩
   have hVl:V.length=36:=by rw[hV];exact a0n hmo B d
   have hput:=f1D (show splice (tokV { t with cavs:=t.cavs++[cv] } B d) 4 (byts (d0U t.tag cv))=V by rw[hV];exact h0J _ B d _ hto (c0r _ _))
   have hck:=f1D (show ∀w',Sl w' B (d*5) ((c0G t cv).cavs.flatMap cavV)→Calls prog 9 #[.agg V.toArray] w' fun e w''=>e=.returned (.bool (d0O (c0G t cv)))∧Below w'.heap.size w' w'' by rw[hV];exact fun w' h=>u0b _ B d w' h)
   have hzV:=f1D (show (prog.info? 29).map (·.size)=some V.toArray.size by rw[List.size_toArray,hVl];exact a0I)
   have hV1:=f1D (show V.toArray.all (·.oneCell')=true by rw[hV,List.all_toArray,List.all_eq_true];exact a0X _ _ _)
   have hVZ:=f1D (show Z.toArray.size=V.toArray.size by rw[List.size_toArray,List.size_toArray,hVl,hZl])
   have HV:=f1D hV
   have K1:=f1D (g0d (HX.out ▸ r1))
   have hkz:=f1D (show (prog.info? 23).map (·.size)=some (byts t.tag).length by rw[a0t,a0U _ ht.tag])
   have hnz:=f1D (show (prog.info? 23).map (·.size)=some (byts (d0U t.tag cv)).length by rw[a0t,hnl])
   have hone:=f1D (a0o (d0U t.tag cv))
   have hfit:=f1D (show 4+(byts (d0U t.tag cv)).length≤(tokV { t with cavs:=t.cavs++[cv] } B d).length by rw[hnl,a0n hto B d];exact f1F _)
   have K2:=f1D (a0i r2)
   have hsc:=f1D (show (prog.info? 43).map (·.size)=some (cavV cv).length from c0C)
   have hmore:(c0G t cv).cavs.flatMap cavV=({ t with cavs:=t.cavs++[cv] } : Tok).cavs.flatMap cavV:=rfl
   rw[←hmore] at s6
   clear hnl hto hV hVl hmore r1 r2 hXl hZl
   have HE:=f1D (show b0B t cv=if d0O (c0G t cv)=true then 0 else 1 by unfold b0B;rw[if_neg (by rw[hbd];decide)])
   have HG:=f1D (show addT t cv=if b0B t cv=0 then c0G t cv else b0l from rfl)
   generalize tokV { t with cavs:=t.cavs++[cv] } B d=Y at *
   generalize addT t cv=U at *
   generalize b0B t cv=er at *
   generalize d0U t.tag cv=nx at *
   generalize hM:c0G t cv=M at *
   generalize hcb2:d0O M=ok at *
   have hwc:=f1D hB
   go_wp2_with (first
    | (with_reducible refine wpList_load_mid rfl 23 (.tmp 19) rfl w.heap.size 4 rfl (byts t.tag) _ K1.out underlying23 rfl hkz.out ?_)
    | (with_reducible refine wpList_load_mid rfl 43 (.tmp 3) rfl (w.heap.size+1) 0 rfl (cavV cv) _ K2.out underlying43 rfl hsc.out ?_)
    | (go_at_call 52;refine (Hnx.out _).mono ?_;rintro e w4 ⟨rfl,hb4⟩;have r6:=r6.later hb4 r6.lt;have s6:=s6.later (f1F _) hb4;have r3:=r3.later hb4 r3.lt;have hB:=hB.trans (hb4.mono hB.size))
    | (have _t:=w4;refine d0N rfl 23 (.tmp 23) (.tmp 22) rfl g6 4 29 Y (byts nx) rfl rfl r6 hfit.out hnz.out hone.out ?_;intro w5 r6x hg5;refine Hid.out ?_))
   refine f1D ?_
   have r6:Row w5 g6 29 V:=by rw[hput.out] at r6x;exact r6x
   have s6:=s6.apart hg5 (fun _ a ha=>by have:=hap a ha;omega)
   have r3:=r3.grown hg5 (by omega)
   have hB:=hB.grown hg5 hB.size (fun k h=>by cases h;omega)
   have K6:=f1D (show w5.heap[g6]?=some (.cells V.toArray 29 (0,0)) from r6)
   clear r6x hg5 K1 K2 hput hfit hone hnz Hnx hkz hsc hmo hwc
   cases ok
   ·have e1:er=1:=HE.out.trans (if_neg (by decide))
    have e2:U=b0l:=by rw[HG.out,e1];rfl
    have E1:=f1D e1
    have E2:=f1D e2
    clear e1 e2 HE HG
    go_wp2_with (first
     | (with_reducible refine wpList_load_row rfl 29 (.tmp 6) rfl g6 rfl 29 V.toArray (0,0) _ K6.out underlying29 rfl hzV.out ?_)
     | (go_at_call 9;refine (hck.out _ s6).mono ?_;rintro e w6 ⟨rfl,hb6⟩;have r6:=r6.later hb6 r6.lt;have K6:=f1D (show w6.heap[g6]?=some (.cells V.toArray 29 (0,0)) from r6);have s6:=s6.later (f1F _) hb6;have r3:=r3.later hb6 r3.lt;have Q3:=f1D (show w6.heap[w.heap.size+1+1]?=some (.cells Z.toArray 29 (0,0)) from r3);have hB:=hB.trans (hb6.mono hB.size))
     | (have _t:=Q3;refine wpList_store_row rfl 29 (.tmp 4) (.tmp 27) rfl (w.heap.size+1+1) Z.toArray rfl (by rw[hZe.out];rfl) 29 Z.toArray Q3.out hzZ.out rfl hZ1.out ?_;refine Hid.out ?_))
    refine f1D ?_
    generalize hw8:World.setRow _ _ _=w8
    obtain⟨r8,hg8⟩:=a0y (show Row w6 (w.heap.size+1+1) 29 Z from Q3.out) hw8
    have hb8:=hB.grown hg8 hB.size (fun k h=>by cases h;omega)
    have R8:=f1D (show w8.heap[w.heap.size+1+1]?=some (.cells Z.toArray 29 (0,0)) from r8)
    clear hw8 r8 Q3
    go_wp2_with fail
    exact⟨rfl,_,a0d rfl _ _ (w.heap.size+1+1) 29 Z.toArray (0,0) _ rfl R8.out underlying29 rfl hzZ.out _ rfl,none,0,by rw[E2.out,E1.out,HZ.out];rfl,by rw[E2.out];exact c0x _,(fun a h=>by cases h),hb8⟩
   ·have e1:er=0:=HE.out.trans (if_pos rfl)
    have e2:U=M:=by rw[HG.out,e1];rfl
    have E1:=f1D e1
    have E2:=f1D e2
    clear e1 e2 HE HG
    go_wp2_with (first
     | (with_reducible refine wpList_load_row rfl 29 (.tmp 6) rfl g6 rfl 29 V.toArray (0,0) _ K6.out underlying29 rfl hzV.out ?_)
     | (go_at_call 9;refine (hck.out _ s6).mono ?_;rintro e w6 ⟨rfl,hb6⟩;have r6:=r6.later hb6 r6.lt;have K6:=f1D (show w6.heap[g6]?=some (.cells V.toArray 29 (0,0)) from r6);have s6:=s6.later (f1F _) hb6;have r3:=r3.later hb6 r3.lt;have Q3:=f1D (show w6.heap[w.heap.size+1+1]?=some (.cells Z.toArray 29 (0,0)) from r3);have hB:=hB.trans (hb6.mono hB.size))
     | (have _t:=Q3;refine wpList_store_row rfl 29 (.tmp 4) (.tmp 28) rfl (w.heap.size+1+1) V.toArray rfl rfl 29 Z.toArray Q3.out hzV.out hVZ.out hV1.out ?_;refine Hid.out ?_))
    refine f1D ?_
    generalize hw8:World.setRow _ _ _=w8
    obtain⟨r8,hg8⟩:=a0y (show Row w6 (w.heap.size+1+1) 29 Z from Q3.out) hw8
    have hb8:=hB.grown hg8 hB.size (fun k h=>by cases h;omega)
    have R8:=f1D (show w8.heap[w.heap.size+1+1]?=some (.cells V.toArray 29 (0,0)) from r8)
    clear hw8 r8 Q3
    go_wp2_with fail
    exact⟨rfl,_,a0d rfl _ _ (w.heap.size+1+1) 29 V.toArray (0,0) _ rfl R8.out underlying29 rfl hzV.out _ rfl,B,d,by rw[E2.out,E1.out,HV.out];rfl,by rw[E2.out];exact s6.apart hg8 (fun _ a ha=>by have:=hap a ha;omega),(fun a ha=>by have:=hap a ha;omega),hb8⟩
theorem n0n (l:List UInt8):Lib.strCells (bstr l)=byts l:=by unfold Lib.strCells bstr byts;simp
theorem l0D (A:Option Addr) (n c:Nat) (ss:List (List UInt8)) (w:World) (hs:Sl w A c (a0F ss)) (hn:n=ss.length) (hm:sumS ss≤1000000000) :
  Calls prog 38 #[.slice A n c] w (a0H (c0z ss) w):=by
 subst hn
 obtain⟨i0,hi,hz0,hz1,hz2⟩:=info_parts infoByte
 have hl1:=j0I ss
 have hown0:w.ownsRow w.heap.size 5 1 (.slice none 0 0) 0 []:=World.ownsRow_nil w _ _ _
 have hb0:=Below.refl w.heap.size w
 go_enter func38,ntmps38
 go_wp2_with fail
 go_loopw [3,8] (fun v i wr=>∃k:Nat,k≤ss.length∧i=.int .i64 k∧wr.ownsRow w.heap.size 5 1 v (c0z (ss.take k)).length (byts (c0z (ss.take k)))∧Below w.heap.size w wr) (fun _ i _=>ss.length - (intOf i).toNat)
 case atStart=>exact⟨0,by omega,rfl,hown0,hb0⟩
 case round =>
  clear hown0 hb0
  obtain⟨k,hk,rfl,hown,hb⟩:=hrel
  by_cases hlt:k < ss.length
  ·obtain⟨b,o,rfl,hb0,hr0⟩:=hs.rd.get (i:=0) (by rw[a0w];omega)
   clear hb0 hr0
   have hix:=b0w (some ⟨b,o,none⟩) b o ss.length c k rfl hlt
   have hc:=c0g (hs.later (f1F _) hb) k hlt
   have HS:=f1D (k0i ss k hlt)
   have hq1:=j0J ss (ss.getD k []) (by rw[List.getD_eq_getElem?_getD,List.getElem?_eq_getElem hlt];exact List.getElem_mem hlt)
   have hF:=o0f ss k
   have hF2:=d0T ss
   generalize ss.getD k []=q at *
   generalize c0z (ss.take k)=F at *
   have hz:=a0c q
   have n1:F.length+(b0j q.length).length≤maxLen:=by rw[b0a];unfold maxLen;omega
   have n2:(F.length+(b0j q.length).length)*1≤140737488355328:=by rw[b0a];omega
   have m1:F.length+(b0j q.length).length+(bstr q).size≤maxLen:=by rw[b0a,hz];unfold maxLen;omega
   have m2:F.length+(b0j q.length).length+(bstr q).size≤140737488355328:=by rw[b0a,hz];omega
   have hql:(q.length:Int)≤1000000000:=by omega
   have hnum:=i0G q.length
   have HL8:=f1D (show (b0j q.length).length=(byts (b0j q.length)).length from (a0b _).symm)
   have HP:=f1D (show t0R q=b0j q.length++q from rfl)
   have hbs:=hb.size
   clear hq1 hF hF2
   generalize b0j q.length=e8 at *
   go_wp2_with (first
    | (go_at_call 61;refine (hnum _).mono ?_;rintro e w1 ⟨v1,rfl,hown1,hb1⟩;obtain⟨A1,c1,rfl,_,hsl1⟩:=Sl.of_own hown1;have hownF:=a0D hown hb1 (f1F _);have hbw1:=hb.trans (hb1.mono hbs);clear hown1)
    | (at_builtin;refine a0j rfl (.tmp 12) (.tmp 16) 61 rfl w.heap.size 5 i0 _ 1 underlying61 hi hz0 hz1 hz2 rfl _ F.length (byts F) rfl hownF A1 e8.length c1 (byts e8) rfl HL8.out hsl1 (a0o _) n1 n2 hbw1.size ?_;intro v2 w2 hown2 hg2;have hbw2:Below w.heap.size w w2:=hbw1.grown hg2 hbw1.size (fun k hk=>(hownF.lt k hk).1);clear hg2 hownF hsl1)
    | (at_builtin;refine Lib.wpList_append_own_string _ rfl (.tmp 18) (.tmp 19) 61 9 rfl w.heap.size 5 i0 underlying61 underlying9 hi hz0 hz1 hz2 _ (F.length+e8.length) (byts F++byts e8) rfl hown2 (bstr q) rfl m1 m2 hbw2.size ?_;intro v4 w4 hown4 hg4 _h4;have hbw4:Below w.heap.size w w4:=hbw2.grown hg4 hbw2.size (fun k hk=>(hown2.lt k hk).1)))
   go_roundw
   case rel =>
    refine⟨k+1,by omega,by go_num,?_,hbw4⟩
    rw[HS.out,HP.out]
    have e1:byts F++byts e8++byts q=byts (F++(e8++q)):=by rw[a0h,a0h,List.append_assoc]
    have e2:F.length+e8.length+q.length=(F++(e8++q)).length:=by simp only[List.length_append];omega
    rw[n0n,e1,hz,e2] at hown4
    exact hown4
   case measure=>simp[intOf];omega
  ·obtain rfl:k=ss.length:=by omega
   rw[List.take_length] at hown
   clear hlt hk hs
   generalize ss.length=n at *
   go_wp2
   go_ret
   exact⟨_,rfl,hown,hb⟩
structure Macd (w:World) (g gi go:Nat) (k l:List UInt8):Prop where
 row:Row w g 144 [.pointer (some ⟨gi,0,none⟩),.pointer (some ⟨go,0,none⟩)]
 din:Dgt w gi (xorL 54 (keyL k)++l)
 dout:Dgt w go (xorL 92 (keyL k))
 gi_lt:gi < g
 go_lt:go < g
 ne:gi≠go
theorem Macd.lt {w:World} {g gi go:Nat} {k l:List UInt8} (h:Macd w g gi go k l):g < w.heap.size:=h.row.lt
def b1u (k:List UInt8) (w:World) (e:Ending) (w':World):Prop :=
 ∃g gi go,e=.returned (.pointer (some ⟨g,0,none⟩))∧w.heap.size≤gi∧w.heap.size≤go∧Macd w' g gi go k []∧Below w.heap.size w w'
theorem z0S (A:Option Addr) (n c:Nat) (k:List UInt8) (w:World) (hT:Tabs w) (hs:Sl w A c (byts k)) (hn:n=k.length) (hm:k.length≤2305843009213693952) :
  Calls prog 58 #[.slice A n c] w (b1u k w):=by
 have hKl:=c0J k
 obtain⟨V,hVq⟩:∃V,V=byts (keyL k):=⟨_,rfl⟩
 have hVl:V.length=64:=by rw[hVq,a0b,hKl]
 have hone:=f1D (b0d (show ∀v∈V,v.oneCell'=true by rw[hVq];exact a0o _))
 have hsz:=f1D (show (prog.info? 139).map (·.size)=some V.toArray.size by rw[n0l,List.size_toArray,hVl])
 have hszV:=f1D (show (prog.info? 139).map (·.size)=some V.length by rw[n0l,hVl])
 have h64:=f1D (show 64=V.toArray.size by rw[List.size_toArray,hVl])
 have hw:=f1D (show Calls prog 91 #[.slice A n c] w fun e w'=>e=.returned (.agg V.toArray)∧Below w.heap.size w w' by rw[hVq];exact y0G A n c k w hT hs hn hm)
 have hb54:=f1D (show ∀w,Tabs w→Calls prog 92 #[.agg V.toArray,.int .u8 54] w (j0O (xorL 54 (keyL k)) w) by rw[hVq];exact fun w h=>n0F (keyL k) hKl 54 w h)
 have hb92:=f1D (show ∀w,Tabs w→Calls prog 92 #[.agg V.toArray,.int .u8 92] w (j0O (xorL 92 (keyL k)) w) by rw[hVq];exact fun w h=>n0F (keyL k) hKl 92 w h)
 clear hVq hVl hKl hs hn hm
 go_enter func58,ntmps58
 go_wp2_with (first
  | (go_at_call 91;refine hw.out.mono ?_;rintro e w1 ⟨rfl,hb1⟩)
  | (with_reducible refine wpList_store_row rfl 139 (.tmp 3) (.tmp 5) rfl w1.heap.size V.toArray rfl rfl 139 _ (heap_alloc_new w1 _) hsz.out (Eq.trans (by kernel_rfl) h64.out) hone.out ?_;refine Hid.out ?_))
 refine f1D ?_
 generalize hw4:World.setRow _ _ _=w4
 obtain⟨r4,hb4⟩:=a0v (xs:=V) hw4
 have hbB:=hb1.trans (hb4.mono hb1.size)
 have hT4:=hT.later hbB (f1F _)
 clear hw4 hb4 hb1
 go_wp2_with fail
 refine wp_region_noPanic ?_
 refine wp_region_held_drew (S:=fun w'=>Below w4.heap.size w4 w') (by kernel_rfl) ((Below.refl _ _).drew) (fun hHeld=>?_)
 have hAll:=hHeld
 refine rt 0 6 hHeld ?_ (hy:=by intro w hS;exact a0s 139 (.tmp 3) rfl w1.heap.size 0 rfl V (.array 64 5) (a0i (r4.later hS r4.lt)) underlying139 rfl hszV.out)
 refine rt 2 8 hHeld ?_ (hy:=by intro w hS;exact a0s 139 (.tmp 3) rfl w1.heap.size 0 rfl V (.array 64 5) (a0i (r4.later hS r4.lt)) underlying139 rfl hszV.out)
 refine rc1 1 fun K hK=>?_
 go_simp
 refine (hb54.out _ (hT4.later hHeld (f1F _))).mono ?_;rintro e w5 ⟨gi,rfl,hgi,hd5,hb5⟩
 try go_wp2_with fail
 refine hK.out _ _ (a0a hHeld hb5) (fun _=>?_)
 clear hK K
 try (rw[a0l];dsimp only[List.set])
 have hAll:=a0a hAll hb5
 refine a0f (S':=fun w'=>Below w5.heap.size w5 w') (fun _ h=>a0a (a0a hHeld hb5) h) _ _ _ _ ?_
 clear hHeld
 have hHeld:Below w5.heap.size w5 w5:=Below.refl _ _
 refine rc1 3 fun K hK=>?_
 go_simp
 refine (hb92.out _ (hT4.later hAll (f1F _))).mono ?_;rintro e w6 ⟨go,rfl,hgo,hd6,hb6⟩
 try go_wp2_with fail
 refine hK.out _ _ (a0a hHeld hb6) (fun _=>?_)
 clear hK K
 try (rw[a0l];dsimp only[List.set])
 have hAll:=a0a hAll hb6
 refine a0f (S':=fun w'=>Below w6.heap.size w6 w') (fun _ h=>a0a (a0a hHeld hb6) h) _ _ _ _ ?_
 clear hHeld
 have hHeld:Below w6.heap.size w6 w6:=Below.refl _ _
 refine rt 4 10 hHeld ?_
 refine rc1 5 fun K hK=>?_
 refine b0q (some 11) rfl (by rfl) (.pointer (some ⟨w6.heap.size,0,none⟩)) (.cells #[.pointer (some ⟨gi,0,none⟩),.pointer (some ⟨go,0,none⟩)] 144) (by go_simp) ?_;intro w7 hw7 hb7
 refine hK.out _ _ (a0a hHeld hb7) (fun _=>?_)
 clear hK K
 try (rw[a0l];dsimp only[List.set])
 have hAll:=a0a hAll hb7
 refine a0f (S':=fun w'=>Below w7.heap.size w7 w') (fun _ h=>a0a (a0a hHeld hb7) h) _ _ _ _ ?_
 clear hHeld
 have hHeld:Below w7.heap.size w7 w7:=Below.refl _ _
 refine rt 6 2 hHeld ?_
 refine wpAnyH_done (by kernel_rfl) ?_ _
 refine NoPanic.normal ?_
 subst hw7
 have r7:=Row.new w6 144 [.pointer (some ⟨gi,0,none⟩),.pointer (some ⟨go,0,none⟩)]
 have hbC:=hbB.trans (hAll.mono hbB.size)
 go_wp2
 go_ret
 have q1:=hd5.lt
 have q2:=hd6.lt
 have q3:=hb6.size
 have q4:=hbB.size
 have q5:=hb5.size
 have q6:w4.drew.heap.size=w4.heap.size:=rfl
 exact⟨w6.heap.size,gi,go,rfl,by omega,by omega,⟨r7,by rw[List.append_nil];exact (hd5.later hb6 hd5.lt).later hb7 (by omega),hd6.later hb7 hd6.lt,by omega,by omega,by omega⟩,hbC⟩
theorem o0D {w:World} {g gi go:Nat} {k l:List UInt8} (h:Macd w g gi go k l):w.cell? ⟨g,0,none⟩=some (.pointer (some ⟨gi,0,none⟩))∧w.cell? ⟨g,1,none⟩=some (.pointer (some ⟨go,0,none⟩)) :=
 ⟨(h.row.cell 0).trans rfl,(h.row.cell 1).trans rfl⟩
theorem t0z (g gi go n:Nat) (k l b:List UInt8) (A:Option Addr) (c:Nat) (w:World) (hT:Cube w) (hd:Macd w g gi go k l) (hs:Sl w A c (byts b)) (hA:0 < b.length→∀a,A=some a→a.block≠gi) (hn:n=b.length) (hm:64+l.length+b.length≤4611686018427387904) :
  Calls prog 59 #[.pointer (some ⟨g,0,none⟩),.slice A n c] w fun e w'=>e=.returned (.tuple #[])∧Macd w' g gi go k (l++b)∧w.grownBy w' (some gi):=by
 have hw:=f1D (show Calls prog 93 #[.pointer (some ⟨gi,0,none⟩),.slice A n c] w fun e w'=>e=.returned (.tuple #[])∧Dgt w' gi ((xorL 54 (keyL k)++l)++b)∧w.grownBy w' (some gi) from
  n0v gi n _ b A c w hT hd.din hs hA hn (by rw[List.length_append,b0W,c0J];exact hm))
 obtain⟨c0,c1⟩:=o0D hd
 clear c1 hs hA hn hm hT
 go_enter func59,ntmps59
 go_wp2_with (go_at_call 93;refine hw.out.mono ?_;rintro e w3 ⟨rfl,hd3,hg3⟩)
 go_end0
 have q1:=hd.gi_lt
 exact⟨rfl,⟨hd.row.grown hg3 (by omega),by rw[←List.append_assoc];exact hd3,hd.dout.grown hg3 (Ne.symm hd.ne),hd.gi_lt,hd.go_lt,hd.ne⟩,hg3⟩
theorem z0U (g gi go:Nat) (k l:List UInt8) (w:World) (hT:Cube w) (hd:Macd w g gi go k l) (hm:64+l.length≤2305843009213693952) :
  Calls prog 60 #[.pointer (some ⟨g,0,none⟩)] w fun e w'=>e=.returned (.agg (byts (macL k l)).toArray)∧Below w.heap.size w w':=by
 obtain⟨KI,hKI⟩:∃KI,KI=xorL 54 (keyL k)++l:=⟨_,rfl⟩
 obtain⟨KO,hKO⟩:∃KO,KO=xorL 92 (keyL k):=⟨_,rfl⟩
 have hKIl:KI.length≤2305843009213693952:=by rw[hKI,List.length_append,b0W,c0J];exact hm
 have hKOl:KO.length=64:=by rw[hKO,b0W,c0J]
 have hdi:=hd.din
 have hdo:=hd.dout
 rw[←hKI] at hdi
 rw[←hKO] at hdo
 obtain⟨c0,c1⟩:=o0D hd
 have hgl:=hd.lt
 have hil:=hdi.lt
 have hol:=hdo.lt
 obtain⟨X,hX⟩:∃X,X=byts (shaL KI):=⟨_,rfl⟩
 have hXl:X.length=32:=by rw[hX];exact c0Z
 have honeX:=f1D (b0d (show ∀v∈X,v.oneCell'=true by rw[hX];exact a0o _))
 have hszX:=f1D (show (prog.info? 23).map (·.size)=some X.toArray.size by rw[a0t,List.size_toArray,hXl])
 have h32:=f1D (show 32=X.toArray.size by rw[List.size_toArray,hXl])
 obtain⟨V,hV⟩:∃V,V=byts (macL k l):=⟨_,rfl⟩
 have hVl:V.length=32:=by rw[hV];exact c0Z
 have honeV:=f1D (b0d (show ∀v∈V,v.oneCell'=true by rw[hV];exact a0o _))
 have hszV:=f1D (show (prog.info? 23).map (·.size)=some V.toArray.size by rw[a0t,List.size_toArray,hVl])
 have hszo:=f1D (show (List.replicate 32 (Value.int .u8 0)).toArray.size=V.toArray.size by rw[List.size_toArray,List.size_toArray,List.length_replicate,hVl])
 have hsum1:=f1D (show ∀w,Cube w→Dgt w gi KI→Calls prog 94 #[.pointer (some ⟨gi,0,none⟩)] w fun e w'=>e=.returned (.agg X.toArray)∧Below w.heap.size w w' by rw[hX];exact fun w hC hd=>n0q gi KI w hC hd hKIl)
 have hsum2:=f1D (show ∀g w,Cube w→Dgt w g (KO++shaL KI)→Calls prog 94 #[.pointer (some ⟨g,0,none⟩)] w fun e w'=>e=.returned (.agg V.toArray)∧Below w.heap.size w w' by
  intro g w hC hd
  have:=n0q g (KO++shaL KI) w hC hd (by rw[List.length_append,hKOl,c0K];decide)
  rw[hV];unfold macL;rw[←hKI,←hKO];exact this)
 have HX:=f1D hX
 have HV:=f1D hV
 have HKO:=f1D hKOl
 clear hX hXl hV hVl hKI hKO hKIl hKOl hm hd
 have tok1:True:=trivial
 have tok2:True:=trivial
 go_enter func60,ntmps60
 have hb0:=(Below.refl w.heap.size w).alloc (f1F _) (.cells (List.replicate 32 (Value.int .u8 0)).toArray 23)
 go_wp2_with (first
  | (go_at_call 94;have _t:=tok1;refine (hsum1.out _ (hT.later hb0 (f1F _)) (hdi.later hb0 hil)).mono ?_;rintro e w1 ⟨rfl,hb1⟩;have r0:=(Row.new w 23 (List.replicate 32 (.int .u8 0))).later hb1 (Row.new w 23 (List.replicate 32 (.int .u8 0))).lt;have hbA:=hb0.trans (hb1.mono hb0.size);clear tok1 hb1)
  | (with_reducible refine wpList_store_row rfl 23 (.tmp 3) (.tmp 9) rfl w1.heap.size X.toArray rfl rfl 23 _ (heap_alloc_new w1 _) hszX.out (Eq.trans (by kernel_rfl) h32.out) honeX.out ?_;refine Hid.out ?_))
 refine f1D ?_
 generalize hw4:World.setRow _ _ _=w4
 obtain⟨r4,hb4⟩:=a0v (xs:=X) hw4
 rw[HX.out] at r4
 have r0:=r0.later hb4 r0.lt
 have hbB:=hbA.trans (hb4.mono hbA.size)
 have c1':w4.cell? ⟨g,1,none⟩=some (.pointer (some ⟨go,0,none⟩)):=by rw[hbB.cell (p:=⟨g,1,none⟩) hgl];exact c1
 have hne:w.heap.size < w4.heap.size:=r0.lt
 have hrl:=r4.lt
 clear hw4 hb4 hbA hb0 c0 c1
 go_wp2_with (first
  | (go_at_call 95;refine (n0L go KO _ (hdo.later hbB hol)).mono ?_;rintro e w5 ⟨g5,rfl,hg5,hd5,hb5⟩;have r4:=r4.later hb5 r4.lt;have r0:=r0.later hb5 r0.lt;have hbC:=hbB.trans (hb5.mono hbB.size))
  | (go_at_call 93;refine (n0v g5 32 KO (shaL KI) (some ⟨w1.heap.size,0,none⟩) 32 _ (hT.later hbC (f1F _)) hd5 ⟨Rd.row (ys:=[]) (by rw[List.append_nil];exact r4),by rw[c0Z];exact f1F _,fun h=>by cases h⟩ (fun _ a ha=>by cases ha;show w1.heap.size≠g5;omega) rfl (by rw[HKO.out,c0K];decide)).mono ?_;rintro e w6 ⟨rfl,hd6,hg6⟩;have hbD:=hbC.grown hg6 hbC.size (fun k h=>by cases h;omega);have r0:=r0.grown hg6 (by omega))
  | (go_at_call 94;have _t:=tok2;refine (hsum2.out g5 _ (hT.later hbD (f1F _)) hd6).mono ?_;rintro e w7 ⟨rfl,hb7⟩;have R0:=f1D (show w7.heap[w.heap.size]?=some (.cells (List.replicate 32 (Value.int .u8 0)).toArray 23 (0,0)) from r0.later hb7 r0.lt);clear tok2)
  | ((with_reducible refine wpList_store_row rfl 23 (.tmp 2) (.tmp 19) rfl w.heap.size V.toArray rfl rfl 23 _ R0.out hszV.out hszo.out honeV.out ?_);have HG:=f1D (setRow_heap w7 w.heap.size _ V.toArray 23 (0,0) R0.out))
  | (with_reducible refine bodyPost_ret (results_cell_row rfl _ _ w.heap.size 23 V.toArray (0,0) (.array 32 5) rfl HG.out underlying23 rfl hszV.out) rfl ?_))
 exact⟨by rw[HV.out],below_setRow (hbD.trans (hb7.mono hbD.size)) (f1F _) _⟩
theorem c1q (A:Option Addr) (n c:Nat) (K:List UInt8) (B:Option Addr) (m d:Nat) (ps:List Part) (w:World) (hT:Tabs w) (hs:Sl w A c (byts K)) (hn:n=K.length) (hp:h0h w B d ps) (hmn:m=ps.length)
  (hK:K.length≤2305843009213693952) (hm:64+(flat ps).length≤2305843009213693952) (hpl:ps.length≤9223372036854775807) :
  Calls prog 37 #[.slice A n c,.slice B m d] w fun e w'=>e=.returned (.agg (byts (macL K (flat ps))).toArray)∧Below w.heap.size w w':=by
 subst hmn
 have hb0:=(Below.refl w.heap.size w).alloc (f1F _) (.cells (List.replicate 32 (Value.int .u8 0)).toArray 23)
 have hnew:=f1D (z0S A n c K _ (hT.later hb0 (f1F _)) (hs.later (f1F _) hb0) hn hK)
 have HB0:=f1D hb0
 clear hs hn hK hb0
 go_enter func37,ntmps37
 go_wp2_with (go_at_call 58;refine hnew.out.mono ?_;rintro e w1 ⟨g,gi,go,rfl,hgi,hgo,hd1,hb1⟩;have hbA:Below w.heap.size w w1:=HB0.out.trans (hb1.mono HB0.out.size);have r0:=(Row.new w 23 (List.replicate 32 (.int .u8 0))).later hb1 (Row.new w 23 (List.replicate 32 (.int .u8 0))).lt;rw[World.size_alloc] at hgi hgo;clear hb1 hnew)
 go_loopw [12] (fun i wr=>∃k:Nat,k≤ps.length∧i=.int .i64 k∧Macd wr g gi go K (flat (ps.take k))∧Row wr w.heap.size 23 (List.replicate 32 (.int .u8 0))∧Below w.heap.size w wr) (fun i _=>ps.length - (intOf i).toNat)
 case atStart=>exact⟨0,by omega,rfl,hd1,r0,hbA⟩
 case round =>
  clear hd1 r0 hbA
  obtain⟨k,hk,rfl,hd,r0,hb⟩:=hrel
  by_cases hlt:k < ps.length
  ·obtain⟨b,o,hA,_,_⟩:=hp.sl.rd.get (i:=0) (by rw[List.length_map];omega)
   have hix:=q0k B b o ps.length d k hA hlt
   have hps:=hp.later (f1F _) hb
   rw[hA] at hps
   have hck:=hps.get k hlt
   have hsk:=hps.each ps[k] (List.getElem_mem hlt)
   have hsw:=hp.each ps[k] (List.getElem_mem hlt)
   have HF:=f1D (o0a ps k hlt)
   have hfl:=v0W ps (k+1)
   rw[HF.out,List.length_append] at hfl
   unfold a1i at hck
   obtain⟨⟨Ak,ck,lk⟩,hpk⟩:∃p,p=ps[k]:=⟨_,rfl⟩
   rw[←hpk] at hck hsk hsw HF hfl
   dsimp only at hck hsk hsw HF hfl
   have hml:64+(flat (ps.take k)).length+lk.length≤4611686018427387904:=by omega
   have HA:=f1D hA
   clear hpk hps hfl hA
   go_wp2_with (go_at_call 59;refine (t0z g gi go lk.length K (flat (ps.take k)) lk Ak ck _ (hT.cu.later hb (f1F _)) hd hsk (fun h a ha=>by have:=hsw.block_lt (by rw[a0b];exact h) ha;omega) rfl hml).mono ?_;rintro e w3 ⟨rfl,hd3,hg3⟩)
   have hb3:=hb.grown hg3 hb.size (fun k h=>by cases h;omega)
   have r3:=r0.grown hg3 (by omega)
   clear hd hb r0 hg3 hck hsk hsw hix
   go_roundw
   case rel=>exact⟨k+1,by omega,by go_num,by rw[HF.out];exact hd3,r3,hb3⟩
   case measure=>simp[intOf];omega
  ·rw[r0y ps k (by omega)] at hd
   have hC:=hT.cu.later hb (f1F _)
   obtain⟨V,hVq⟩:∃V,V=byts (macL K (flat ps)):=⟨_,rfl⟩
   have hsum:=f1D (show Calls prog 60 #[.pointer (some ⟨g,0,none⟩)] wr fun e w'=>e=.returned (.agg V.toArray)∧Below wr.heap.size wr w' by rw[hVq];exact z0U g gi go K (flat ps) wr hC hd hm)
   have hVl:V.length=32:=by rw[hVq];exact c0Z
   have hone:=f1D (b0d (show ∀v∈V,v.oneCell'=true by rw[hVq];exact a0o _))
   have hsz:=f1D (show (prog.info? 23).map (·.size)=some V.toArray.size by rw[a0t,List.size_toArray,hVl])
   have hszo:=f1D (show (List.replicate 32 (Value.int .u8 0)).toArray.size=V.toArray.size by rw[List.size_toArray,List.size_toArray,List.length_replicate,hVl])
   have HV:=f1D hVq
   clear hVq hVl hC hd
   go_wp2_with (first
    | (go_at_call 60;refine hsum.out.mono ?_;rintro e w3 ⟨rfl,hb3⟩;have R0:=f1D (show w3.heap[w.heap.size]?=some (.cells (List.replicate 32 (Value.int .u8 0)).toArray 23 (0,0)) from r0.later hb3 r0.lt))
    | ((with_reducible refine wpList_store_row rfl 23 (.tmp 4) (.tmp 21) rfl w.heap.size V.toArray rfl rfl 23 _ R0.out hsz.out hszo.out hone.out ?_);have HG:=f1D (setRow_heap w3 w.heap.size _ V.toArray 23 (0,0) R0.out))
    | (with_reducible refine bodyPost_ret (results_cell_row rfl _ _ w.heap.size 23 V.toArray (0,0) (.array 32 5) rfl HG.out underlying23 rfl hsz.out) rfl ?_))
   exact⟨by rw[HV.out],below_setRow (hb.trans (hb3.mono hb.size)) (f1F _) _⟩
end Go.Proofs.YtcbilopdeiapjaaGreatDoor
