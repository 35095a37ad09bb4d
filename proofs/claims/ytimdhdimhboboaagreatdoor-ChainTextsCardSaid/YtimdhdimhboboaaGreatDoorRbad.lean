import Derived.Test.YtimdhdimhboboaaGreatDoorRbac
import Derived.Test.YtimdhdimhboboaaGreatDoorRbaa
namespace Go.Proofs.YtimdhdimhboboaaGreatDoor
set_option maxRecDepth 100000
open Go Go.RowKit
def j0s (l:List UInt8) (w:World) (e:Ending) (w':World):Prop :=
 ∃g,e=.returned (.pointer (some ⟨g,0,none⟩))∧w.heap.size≤g∧Dgt w' g l∧Below w.heap.size w w'
theorem z0N:(Tryz.prog.info? 174).map (·.size)=some 73:=by kernel_rfl
theorem u0u (w:World):(Instr.build 174 #[(0,x0j)]).run Tryz.prog w=.ok (.agg (digV S0 (List.replicate 64 0) 0).toArray) w:=by kernel_rfl
theorem m0N {P:Program} {w:World} {ops:Array Oper} {rest:List Oper} {o:Oper} {a:Act} {Q:Exit→Act→World→Prop} (hgd:o.guard=none) (t:TypeId) (x:Operand) (ho:o.op=.build t #[(0,x)])
  (v r:Value) (hx:a.eval x=v) (hrun:(Instr.build t #[(0,v)]).run P w=.ok r w) (h:wpList P ops Q rest (a.put o.dst r) w):wpList P ops Q (o :: rest) a w:=by
 refine wpList_plain hgd fun K hK=>?_
 unfold Oper.wp execOp
 simp only[ho,Sem.run_bind,Sem.run_pure,List.map_toArray,List.map_cons,List.map_nil,hx,hrun,Result.andThen_ok]
 exact hK _ _ h
theorem p0y (w:World) (hT:Tabs w) :
  Calls Tryz.prog 124 #[] w (j0s [] w):=by
 have hb:=Lib.hid u0u
 obtain⟨V,hV⟩:∃V,V=digV S0 (List.replicate 64 0) 0:=⟨_,rfl⟩
 rw[←hV] at hb
 have HV:=Lib.hid hV
 clear hV
 go_enter Tryz.func124,Tryz.ntmps124
 go_wp2_with (first
  | (go_at_call 162;refine (x0k _ hT.sq).mono ?_;rintro e w1 ⟨rfl,hbel⟩)
  | (with_reducible refine m0N rfl 174 (.tmp 1) rfl x0j _ rfl (hb.out _) ?_))
 go_ret
 refine⟨w1.heap.size,rfl,hbel.size,⟨Nat.lt_of_lt_of_le hT.cu.size hbel.size,List.replicate 64 0,b1z,?_⟩,hbel.alloc hbel.size _⟩
 have:=Row.new w1 174 V
 rw[HV.out] at this ⊢
 exact this
theorem a1N (s:St) (o:List UInt8) (m:Nat):∀v∈digV s o m,v.oneCell'=true:=by
 intro v hv
 unfold digV at hv
 rcases List.mem_append.1 hv with h | h
 ·exact d0y _ v h
 ·rcases List.mem_append.1 h with h | h
  ·exact a0o _ v h
  ·rw[List.mem_singleton] at h;subst h;rfl
theorem z0Y (w:World):(zeroValue 174).run Tryz.prog w=.ok (.agg (digV ⟨0#32,0#32,0#32,0#32,0#32,0#32,0#32,0#32⟩ (List.replicate 64 0) 0).toArray) w:=by kernel_rfl
theorem n0i (g:Nat) (l:List UInt8) (w:World) (hd:Dgt w g l) :
  Calls Tryz.prog 90 #[.pointer (some ⟨g,0,none⟩)] w (j0s l w):=by
 obtain⟨hq,o,ho,hr⟩:=hd
 obtain⟨V,hV⟩:∃V,V=digV (stK l (l.length/64)) o l.length:=⟨_,rfl⟩
 rw[←hV] at hr
 have hl:V.length=73:=by rw[hV,f0M _ _ _ ho.1]
 have R:=Lib.hid (show w.heap[g]?=some (.cells V.toArray 174 (0,0)) from hr)
 have hsz:=Lib.hid (show (Tryz.prog.info? 174).map (·.size)=some V.toArray.size by rw[z0N,List.size_toArray,hl])
 have h73:=Lib.hid (show 73=V.toArray.size by rw[List.size_toArray,hl])
 have hone:=Lib.hid (a0Y (show ∀v∈V,v.oneCell'=true by rw[hV];exact a1N _ _ _))
 have HV:=Lib.hid hV
 obtain⟨Z,hZl,hZ⟩:∃Z:Array Value,Z.size=73∧∀w,(zeroValue 174).run Tryz.prog w=.ok (.agg Z) w:=⟨_,by rw[List.size_toArray,f0M _ _ _ (by simp)],z0Y⟩
 have HZ:=Lib.hid (hZl.trans h73.out)
 have hlt:=hr.lt
 clear hV hl hr hZl
 go_enter Tryz.func90,Tryz.ntmps90
 go_wp2_with (first
  | (with_reducible refine wpList_load_row rfl 174 (.tmp 5) rfl g rfl 174 V.toArray (0,0) _ R.out Tryz.underlying174 rfl hsz.out ?_)
  | (with_reducible refine wpList_store_row rfl 174 (.tmp 3) (.tmp 6) rfl w.heap.size V.toArray rfl rfl 174 _ (heap_alloc_new w _) hsz.out HZ.out hone.out ?_;refine Hid.out ?_))
 refine Lib.hid ?_
 generalize hw1:World.setRow _ _ _=w1
 obtain⟨r1,hb1⟩:=a0p (xs:=V) hw1
 clear hw1 hZ
 go_wp2
 go_ret
 refine⟨w.heap.size,rfl,Nat.le_refl _,⟨Nat.lt_trans hq hlt,o,ho,?_⟩,hb1⟩
 rw[←HV.out];exact r1
def b1m:Value→Nat
 | .slice _ n _=>n
 | _=>0
set_option maxRecDepth 100000 in
set_option maxHeartbeats 1000000 in
theorem k0L (g:Nat) (l b:List UInt8) (A:Option Addr) (c:Nat) (w:World) (hT:Cube w) (hd:Dgt w g l) (hs:Sl w A c (byts b)) (hA:0 < b.length→∀a,A=some a→a.block≠g) (hm:l.length+b.length≤4611686018427387904) :
  Calls Tryz.prog 88 #[.pointer (some ⟨g,0,none⟩),.slice A b.length c] w fun e w'=>e=.returned (.tuple #[])∧Dgt w' g (l++b)∧w.grownBy w' (some g):=by
 have hcg:=hd.1
 go_enter Tryz.func88,Tryz.ntmps88
 go_wp2_with fail
 go_loopw [1] (fun v wr=>∃p d A' c',p++d=b∧v=.slice A' d.length c'∧Sl wr A' c' (byts d)∧(0 < d.length→∀a,A'=some a→a.block≠g)∧Dgt wr g (l++p)∧w.grownBy wr (some g)) (fun v _=>b1m v)
 case atStart=>exact⟨[],b,A,c,rfl,rfl,hs,hA,by rw[List.append_nil];exact hd,l0i _ _⟩
 case round =>
  clear hd hs hA
  obtain⟨p,d,A',c',hpd,rfl,hs,hA,⟨_,o,ho,hr⟩,hg⟩:=hrel
  by_cases hlt:0 < d.length
  ·obtain⟨bb,oo,rfl,hbl,hcell⟩:=hs.rd.get (i:=0) (by rw[a0b];exact hlt)
   have hne:=hA hlt _ rfl
   have hlen:(l++p).length+d.length≤4611686018427387904:=by rw[←hpd] at hm;simp only[List.length_append] at hm ⊢;omega
   obtain⟨q,hq⟩:∃q,q=l++p:=⟨_,rfl⟩
   rw[←hq] at ho hr hlen
   obtain⟨m,hmq⟩:∃m,m=q.length:=⟨_,rfl⟩
   obtain⟨s,hsq⟩:∃s,s=stK q (m/64):=⟨_,rfl⟩
   rw[←hmq,←hsq] at hr
   rw[←hmq] at hlen
   have c72:wr.cell? ⟨g,72,none⟩=some (.int .u64 m):=(hr.cell 72).trans (j0F _ _ _ ho.1)
   have f72:wr.frozen? ⟨g,72,none⟩=false:=hr.free 72
   obtain⟨r,hrq⟩:∃r,r=m%64:=⟨_,rfl⟩
   obtain⟨C,hC⟩:∃C,C=d.take (64 - r):=⟨_,rfl⟩
   obtain⟨D,hD⟩:∃D,D=d.drop (64 - r):=⟨_,rfl⟩
   have hCD:d=C++D:=by rw[hC,hD,List.take_append_drop]
   obtain⟨n,hn⟩:∃n,n=C.length:=⟨_,rfl⟩
   have hmin:n=Nat.min d.length (64 - r):=by rw[hn,hC,List.length_take,Nat.min_comm]
   have hnd:n≤d.length:=by rw[hmin];exact Nat.min_le_left _ _
   have hn64':n≤64 - r:=by rw[hmin];exact Nat.min_le_right _ _
   have hn64:r+n≤64:=by omega
   have hn0:0 < n:=by rw[hmin];exact Nat.lt_min.2 ⟨hlt,by omega⟩
   have hend:r+n < 64→n=d.length:=fun h=>by
    have:min d.length (64 - r)=n:=hmin.symm
    omega
   have hDl:D.length=d.length - n:=by rw[hCD,List.length_append,←hn];omega
   have hCs:=Lib.hid (show ∀j v,(byts C)[j]?=some v→wr.drew.cell? ((⟨bb,oo,none⟩:Addr).add j)=some v by
    intro j v hj
    refine hs.rd.at_add j v ?_
    rw[hCD,a0i,List.getElem?_append_left (List.getElem?_eq_some_iff.1 hj).1];exact hj)
   have hCl:=Lib.hid (show (byts C).length=n by rw[a0b,hn])
   have hCn:=Lib.hid hmin
   have hrn:=Lib.hid (show r+C.length≤64 by rw[←hn];exact hn64)
   have hCf:=Lib.hid (show 8+r+(byts C).length≤(digV s o m).length by rw[a0b,f0M _ _ _ ho.1,←hn];omega)
   have hcap:=hs.room
   rw[a0b] at hcap
   obtain⟨o1,ho1⟩:∃o1,o1=splice o r C:=⟨_,rfl⟩
   have hol:=Lib.hid (show (splice o r C).length=64 by rw[length_splice _ _ _ (by rw[ho.1,←hn];exact hn64),ho.1])
   have hr0:r < 64:=by omega
   have hrem:(m:Int).tmod 64=(r:Int):=by rw[Int.tmod_eq_emod_of_nonneg (by omega)];omega
   have rb1:(0:Int)≤(r:Int):=by omega
   have rb2:(r:Int)≤64:=by omega
   have hr64:¬(64=r):=by omega
   have HP:=Lib.hid hpd
   have HQ:=Lib.hid hq
   have HM:=Lib.hid hmq
   have HS':=Lib.hid (show s=stK q (q.length/64) by rw[hsq,hmq])
   have HR:=Lib.hid hrq
   have HC:=Lib.hid hCD
   have HN:=Lib.hid hn
   have HD:=Lib.hid hDl
   have HO:=Lib.hid ho1
   have HE:=Lib.hid hend
   clear hpd hq hmq hsq hrq hCD hn hDl ho1 hA hcell hC hD hmin hend hn64'
   go_wp2_with fail
   refine wp_region_noPanic ?_
   refine wp_region_held_drew (S:=fun w'=>w'.cell? ⟨g,72,none⟩=some (.int .u64 m)) (by kernel_rfl) (c72) (fun hHeld=>?_)
   refine rt 0 8 hHeld ?_
   refine rt 1 9 hHeld ?_
   refine rt 2 10 hHeld ?_
   refine rt 3 11 hHeld ?_
   refine rt 4 12 hHeld ?_
   refine rt 5 13 hHeld ?_
   refine rt 6 14 hHeld ?_
   refine rt 7 15 hHeld ?_
   refine rt 8 16 hHeld ?_
   refine rt 9 17 hHeld ?_
   refine wpAnyH_ready (rs:=[10]) (by kernel_rfl) (by simp) (AllReadyH.cons (o:=_) rfl (fun K hK=>?_) AllReadyH.nil)
   refine d0P (some 18) rfl (by rfl) (.tmp 16) (.tmp 17) 52 52 rfl 5 Tryz.underlying52 sizeByte g _ _ _ _ _ _ rfl rfl 174 _ hr.drew (byts C) n hCl.out hCn.out hCs.out hCf.out (a0o _) ?_;intro w1 hr1 hg1;rw[u0L _ _ _ _ _ ho.1 hrn.out] at hr1;have c72a:w1.cell? ⟨g,72,none⟩=some (.int .u64 m):=(hr1.cell 72).trans (j0F _ _ _ hol.out);have f72a:w1.frozen? ⟨g,72,none⟩=false:=hr1.free 72
   refine hK.out _ _ (by exact c72a) (fun hHeld=>?_)
   clear hK K
   try (first | (rw[a0c];dsimp only[List.set]) | rw[a0d])
   refine rt 11 4 hHeld ?_
   refine wpAnyH_done (by kernel_rfl) ?_ _
   refine NoPanic.normal ?_
   rw[←HO.out] at hr1 hol
   have hg1':wr.grownBy w1 (some g):=⟨hg1.os,hg1.tape,hg1.output,hg1.size,hg1.block⟩
   have hg1'':=b0r hg hg1'
   clear hrem rb1 rb2 hr64 hCs hCl hCn hCf hg1 c72 f72 hHeld
   have hn1:(0:Int)≤(n:Int):=by omega
   have hn2:(n:Int)≤(d.length:Int):=by omega
   have wn:IntKind.u64.wrap (n:Int)=(n:Int):=by rw[IntKind.wrap_u64];omega
   have wm:IntKind.u64.wrap ((m:Int)+(n:Int))=(m:Int)+(n:Int):=by rw[IntKind.wrap_u64];omega
   have hmr:=HR.out
   obtain⟨A2,hA2⟩:∃A2:Addr,A2=if c'=n then ⟨bb,oo,none⟩ else ⟨bb,oo+n,none⟩:=⟨_,rfl⟩
   have hslc:∀w,(Instr.sliceAt 52 (.slice (some ⟨bb,oo,none⟩) d.length c') (some (.int .i64 n)) none none).run Tryz.prog w=.ok (.slice (some A2) (d.length - n) (c' - n)) w:=by
    intro w
    rw[hA2]
    go_simp
    split<;>rfl
   have HA2:=Lib.hid hA2
   clear hA2
   by_cases hfull:r+n=64
   ·have ht:((m:Int)+(n:Int))%64=0:=by omega
    clear hmr
    go_wp2_with fail
    generalize hw2:World.setCell w1 _ _=w2
    have hr2:Row w2 g 174 (digV s o1 (m+n)):=by
     have h:=hr1.set 72 (.int .u64 ((m:Int)+(n:Int)))
     rw[hw2,←Int.natCast_add,q0I _ _ _ _ hol.out] at h;exact h
    have hg2:=a0q w1 g 72 (.int .u64 ((m:Int)+(n:Int)))
    rw[hw2] at hg2
    have hg2':=b0r hg1' hg2
    have hg2'':=b0r hg hg2'
    have hrange0:=Lib.hid (j0G hr2.drew)
    have hrange8:=Lib.hid (h0d hr2.drew)
    have hCube:Cube w2.drew:=n0k (hT.grown hg2'' hcg)
    have hsz8:=Lib.hid (show (Tryz.prog.info? 172).map (·.size)=some (a0H s.list).length by rw[t0z,a0s,b0s])
    have hszc:=Lib.hid (show (Tryz.prog.info? 172).map (·.size)=some (a0H (g0S o1 s).list).length by rw[t0z,a0s,b0s])
    have hszb:=Lib.hid (show (Tryz.prog.info? 130).map (·.size)=some (byts o1).length by rw[w0Z,a0b,hol.out])
    have hfit8:=Lib.hid (show 0+(a0H (g0S o1 s).list).length≤(digV s o1 (m+n)).length by rw[a0s,b0s,f0M _ _ _ hol.out];omega)
    clear hg1' hg1'' hg2 c72a f72a hw2 ht
    refine wp_region_noPanic ?_
    refine wp_region_held_drew (S:=fun w'=>w'.rangeAt g 8 (byts o1)) (by kernel_rfl) (hrange8.out) (fun hHeld=>?_)
    refine rt 0 37 hHeld ?_
    refine rt 1 38 hHeld ?_
    refine rt 2 39 hHeld ?_
    refine rt 3 40 hHeld ?_
    refine rt 5 42 hHeld ?_
    refine rt 6 43 hHeld ?_
    refine rt 7 44 hHeld ?_
    refine rt 8 45 hHeld ?_ (hy:=by intro w hS;exact a0A 130 (.tmp 44) rfl g 8 rfl (byts o1) _ hS Tryz.underlying130 rfl hszb.out)
    refine wpAnyH_ready (rs:=[4]) (by kernel_rfl) (by simp) (AllReadyH.cons (o:=_) rfl (fun K hK=>?_) AllReadyH.nil)
    refine a0X (some 41) rfl (by rfl) 172 (.tmp 40) rfl g 0 rfl (a0H s.list) _ hrange0.out Tryz.underlying172 rfl hsz8.out ?_
    refine hK.out _ _ (hHeld) (fun hHeld=>?_)
    clear hK K
    try (first | (rw[a0c];dsimp only[List.set]) | rw[a0d])
    refine wpAnyH_ready (rs:=[9]) (by kernel_rfl) (by simp) (AllReadyH.cons (o:=_) rfl (fun K hK=>?_) AllReadyH.nil)
    go_simp
    refine (n0j o1 hol.out s _ hCube).mono ?_;rintro e w3 ⟨rfl,hb3⟩
    try go_wp2_with fail
    refine hK.out _ _ (by exact h0d (hr2.drew.later hb3 hr2.lt)) (fun hHeld=>?_)
    clear hK K
    try (first | (rw[a0c];dsimp only[List.set]) | rw[a0d])
    refine rt 10 47 hHeld ?_
    refine rt 11 48 hHeld ?_
    refine wpAnyH_ready (rs:=[12]) (by kernel_rfl) (by simp) (AllReadyH.cons (o:=_) rfl (fun K hK=>?_) AllReadyH.nil)
    refine b0h none rfl (by rfl) 172 (.tmp 48) (.tmp 46) rfl g 0 174 _ (a0H (g0S o1 s).list) rfl rfl (hr2.drew.later hb3 hr2.lt) hfit8.out hszc.out (d0y _) ?_;intro w4 hr4 hg4;rw[s0c] at hr4
    refine hK.out _ _ (by exact h0d hr4) (fun _=>?_)
    clear hK K
    try (first | (rw[a0c];dsimp only[List.set]) | rw[a0d])
    refine wpAnyH_done (by kernel_rfl) ?_ _
    refine NoPanic.normal ?_
    have hgA:=b0r hg2' (b0r (b0Z (w:=w2) ⟨hb3.os,hb3.tape,hb3.output,hb3.size,hb3.block⟩ _) hg4)
    clear hrange0 hrange8 hCube hsz8 hszc hszb hfit8 hHeld hslc
    go_wp2_with fail
    go_roundw
    case rel =>
     have e1:q.length%64=r:=by rw[←HM.out];exact HR.out.symm
     obtain⟨k1,k2⟩:=z0a (c:=C) ho (by rw[e1,←HN.out];omega)
     rw[e1,←HO.out] at k1 k2
     refine⟨p++C,D,some A2,c' - n,?_,by rw[HD.out],?_,?_,⟨hcg,o1,?_,?_⟩,b0r hg hgA⟩
     ·rw[List.append_assoc,←HC.out];exact HP.out
     ·have h:=hs.from (k:=n) (by rw[a0b];omega) HA2.out
      have e:(byts d).drop n=byts D:=by
       rw[HC.out,a0i,HN.out,←a0b];exact List.drop_left
      rw[e] at h
      exact h.apart hgA (fun _ a ha=>by cases ha;rw[g0G HA2.out];exact hne)
     ·intro _ a ha
      cases ha
      rw[g0G HA2.out];exact hne
     ·rw[←List.append_assoc,←HQ.out];exact k1
     ·rw[←List.append_assoc,←HQ.out,k2,←HS'.out,List.length_append,←HN.out,←HM.out]
      exact hr4
    case measure=>simp[b1m];omega
   ·have ht:(((m:Int)+(n:Int))%64==0)=false:=by simp;omega
    clear hmr
    go_wp2_with fail
    generalize hw2:World.setCell w1 _ _=w2
    have hr2:Row w2 g 174 (digV s o1 (m+n)):=by
     have h:=hr1.set 72 (.int .u64 ((m:Int)+(n:Int)))
     rw[hw2,←Int.natCast_add,q0I _ _ _ _ hol.out] at h;exact h
    have hg2:=a0q w1 g 72 (.int .u64 ((m:Int)+(n:Int)))
    rw[hw2] at hg2
    have hg2':=b0r hg1' hg2
    have hg2'':=b0r hg hg2'
    go_roundw
    case rel =>
     have e1:q.length%64=r:=by rw[←HM.out];exact HR.out.symm
     obtain⟨k1,k2⟩:=z0b (c:=C) ho (by rw[e1,←HN.out];omega)
     rw[e1,←HO.out] at k1
     refine⟨p++C,D,some A2,c' - n,?_,by rw[HD.out],?_,?_,⟨hcg,o1,?_,?_⟩,hg2''⟩
     ·rw[List.append_assoc,←HC.out];exact HP.out
     ·have h:=hs.from (k:=n) (by rw[a0b];omega) HA2.out
      have e:(byts d).drop n=byts D:=by
       rw[HC.out,a0i,HN.out,←a0b];exact List.drop_left
      rw[e] at h
      exact h.apart hg2' (fun _ a ha=>by cases ha;rw[g0G HA2.out];exact hne)
     ·intro _ a ha
      cases ha
      rw[g0G HA2.out];exact hne
     ·rw[←List.append_assoc,←HQ.out];exact k1
     ·rw[←List.append_assoc,←HQ.out,k2,←HS'.out,List.length_append,←HN.out,←HM.out]
      exact hr2
    case measure=>simp[b1m];omega
  ·have hd0:d=[]:=List.eq_nil_of_length_eq_zero (by omega)
   subst hd0
   rw[List.append_nil] at hpd
   subst hpd
   go_wp2_with fail
   go_end0
   exact⟨rfl,⟨hcg,o,ho,hr⟩,hg⟩
theorem c1y (ws:List (BitVec 32)) (hl:ws.length=8) (k:Nat) (hk:k < 8) (w:World) :
  (Instr.index 172 (.agg (a0H ws).toArray) (.int .i64 k)).run Tryz.prog w=.ok (.int .u32 (u (ws.getD k 0#32))) w:=by
 have hc:(a0H ws).toArray[k]?=some (.int .u32 (u (ws.getD k 0#32))):=by
  rw[List.getElem?_toArray,d0V _ _ (by omega)]
 have h1:(Go.part 76 (a0H ws).toArray k).run Tryz.prog w=.ok (.int .u32 (u (ws.getD k 0#32))) w:=by
  simp only[Go.part,isAgg,Sem.run_bind,run_underlying Tryz.underlying76,Result.andThen_ok,Sem.run_pure,hc]
  rfl
 simp[Instr.index,asIntOf,run_underlying Tryz.underlying172,hk,h1]
theorem m0k (ws:List (BitVec 32)):(f0H ws).length=4*ws.length:=by
 unfold f0H
 induction ws with
 | nil=>rfl
 | cons x ws ih=>rw[List.flatMap_cons,List.length_append,ih];simp[b0J];omega
theorem k0J (ws:List (BitVec 32)) (k:Nat) (h:k < ws.length):f0H (ws.take (k+1))=f0H (ws.take k)++b0J (ws.getD k 0#32):=by
 unfold f0H
 rw[List.take_add_one,List.flatMap_append]
 simp[h]
theorem t0H (X:List UInt8) (x:BitVec 32) (k:Nat) (hX:X.length=4*k) (hk:k < 8):splice (byts X++List.replicate (32 - 4*k) (.int .u8 0)) (4*k) (byts (b0J x))=byts (X++b0J x)++List.replicate (32 - 4*(k+1)) (.int .u8 0):=by
 unfold splice
 rw[←hX,←a0b X,List.take_left,List.drop_length_add_append,List.drop_replicate,a0i,a0b,a0b,show (b0J x).length=4 from rfl,List.append_assoc]
 congr 3
 omega
set_option maxRecDepth 100000 in
set_option maxHeartbeats 1000000 in
theorem m0K (g:Nat) (l:List UInt8) (w:World) (hT:Cube w) (hd:Dgt w g l) (hm:l.length≤2305843009213693952) :
  Calls Tryz.prog 89 #[.pointer (some ⟨g,0,none⟩)] w fun e w'=>e=.returned (.agg (byts (shaL l)).toArray)∧Below w.heap.size w w':=by
 have hs8:=Lib.hid t0z
 have hpl:=h0i l.length
 have hpn:=g0J l.length
 have hml:l.length+(padL l.length).length≤4611686018427387904:=by omega
 obtain⟨ws,hws⟩:∃ws,ws=(shaS l).list:=⟨_,rfl⟩
 have hwl:ws.length=8:=by rw[hws];rfl
 have hpm:=l0r l
 have HW:=Lib.hid hws
 have HPM:=Lib.hid hpm
 have HPL:=Lib.hid hpl
 have hsz8:=Lib.hid (show (Tryz.prog.info? 172).map (·.size)=some (a0H ws).length by rw[t0z,a0s,hwl])
 have HWL:=Lib.hid hwl
 clear hws hwl hpm hpl
 go_enter Tryz.func89,Tryz.ntmps89
 go_wp2_with (first
  | (go_at_call 90;refine (n0i g l _ (hd.later ((Below.refl _ _).alloc (Nat.le_refl _) _) hd.lt)).mono ?_;rintro e w1 ⟨g1,rfl,hg1,hd1,hb1⟩;have hbA:Below w.heap.size w w1:=((Below.refl _ _).alloc (Nat.le_refl _) _).trans (hb1.mono (by rw[World.size_alloc];omega));have r0:=(Row.new w 23 (List.replicate 32 (.int .u8 0))).later hb1 (Row.new w 23 (List.replicate 32 (.int .u8 0))).lt;have c72:=(hd.later hbA hd.lt).many;rw[World.size_alloc] at hg1;clear hb1)
  | (go_at_call 126;refine (b1D l.length _).mono ?_;rintro e w2 ⟨v2,rfl,hown2,hb2⟩;obtain⟨A2,c2,rfl,hl2,hsl2⟩:=Sl.of_own hown2)
  | (go_at_call 88;refine (k0L g1 l (padL l.length) A2 c2 _ (hT.later (hbA.trans (hb2.mono hbA.size)) (Nat.le_refl _)) (hd1.later hb2 hd1.lt) hsl2 (fun _ a ha=>k0d hown2 hd1.lt a ha) hml).mono ?_;rintro e w3 ⟨rfl,hd3,hg3⟩;have hr3:=Lib.hid (show ∀ob,(w3.alloc ob).rangeAt g1 0 (a0H ws) from fun ob=>by rw[HW.out];exact World.rangeAt_alloc hd3.range ob))
  | (with_reducible refine wpList_load_mid rfl 172 (.tmp 18) rfl g1 0 rfl (a0H ws) _ (hr3.out _) Tryz.underlying172 rfl hsz8.out ?_))
 have hbB:=hbA.trans (hb2.mono hbA.size)
 have hbC:Below w.heap.size w w3:=hbB.grown hg3 hbB.size (fun k h=>by cases h;omega)
 have r3:=(r0.later hb2 r0.lt).grown hg3 (by omega)
 have hlt3:=r3.lt
 have hnew:=Row.new w3 23 (List.replicate 32 (.int .u8 0))
 have hb4:=hbC.alloc hbC.size (.cells (List.replicate 32 (Value.int .u8 0)).toArray 23)
 have r4:=r3.later ((Below.refl _ w3).alloc (Nat.le_refl _) (.cells (List.replicate 32 (Value.int .u8 0)).toArray 23)) hlt3
 clear hd1 hbA r0 c72 hb2 hown2 hl2 hsl2 hd3 hg3 hr3 hd hT hbB hbC r3 hg1
 go_loopw [20] (fun i wr=>∃k:Nat,k≤8∧i=.int .i64 k∧Row wr w3.heap.size 23 (byts (f0H (ws.take k))++List.replicate (32 - 4*k) (.int .u8 0))∧Row wr w.heap.size 23 (List.replicate 32 (.int .u8 0))∧Below w.heap.size w wr) (fun i _=>8 - (intOf i).toNat)
 case atStart=>exact⟨0,by omega,rfl,hnew,r4,hb4⟩
 case round =>
  clear hnew r4 hb4
  obtain⟨k,hk,rfl,hrow,r0,hb⟩:=hrel
  by_cases hlt:k < 8
  ·have hix:=c1y ws HWL.out k hlt
   have hI0:IntKind.i64.wrap (4*(k:Int))=4*(k:Int):=by rw[IntKind.wrap_i64];omega
   have hI1:(0:Int)≤4*(k:Int):=by omega
   have hI2:4*(k:Int)≤32:=by omega
   have hI3:¬(32=4*k):=by omega
   have hI4:(4*(k:Int)).toNat=4*k:=by omega
   obtain⟨X,hX⟩:∃X,X=f0H (ws.take k):=⟨_,rfl⟩
   have hXl:X.length=4*k:=by rw[hX,m0k,List.length_take,HWL.out];omega
   have HXS:=Lib.hid (show f0H (ws.take (k+1))=X++b0J (ws.getD k 0#32) by rw[hX];exact k0J ws k (by rw[HWL.out];exact hlt))
   rw[←hX] at hrow
   obtain⟨x,hx⟩:∃x,x=ws.getD k 0#32:=⟨_,rfl⟩
   rw[←hx] at hix HXS
   have hmin:=Lib.hid (show 4=Nat.min 4 (32 - 4*k) by show 4=min 4 (32 - 4*k);omega)
   have hfit:=Lib.hid (show 4*k+(byts (b0J x)).length≤(byts X++List.replicate (32 - 4*k) (Value.int .u8 0)).length by rw[List.length_append,a0b,a0b,List.length_replicate,hXl];show 4*k+4≤_;omega)
   have HXL:=Lib.hid hXl
   clear hX hXl hx
   go_wp2_with fail
   refine wp_region_noPanic ?_
   refine wp_region_held_drew (S:=fun _=>True) (by kernel_rfl) (trivial) (fun hHeld=>?_)
   refine rt 0 24 hHeld ?_
   refine rt 1 25 hHeld ?_
   refine rt 2 26 hHeld ?_
   refine rt 3 27 hHeld ?_
   refine wpAnyH_ready (rs:=[4]) (by kernel_rfl) (by simp) (AllReadyH.cons (o:=_) rfl (fun K hK=>?_) AllReadyH.nil)
   go_simp
   refine (o0s none 0 0 [] x _ rfl ⟨.inl rfl,Nat.le_refl _,fun _=>rfl⟩ (by simp)).mono ?_;rintro e w5 ⟨v5,rfl,hown5,hb5⟩;have hown5:w5.ownsRow wr.drew.heap.size 5 1 v5 4 (byts (b0J x)):=hown5;obtain⟨g5,cap5,rfl,hg5,_⟩:=hown5.form (by omega)
   try go_wp2_with fail
   refine hK.out _ _ (trivial) (fun hHeld=>?_)
   clear hK K
   try (first | (rw[a0c];dsimp only[List.set]) | rw[a0d])
   refine wpAnyH_ready (rs:=[5]) (by kernel_rfl) (by simp) (AllReadyH.cons (o:=_) rfl (fun K hK=>?_) AllReadyH.nil)
   refine d0P (some 29) rfl (by rfl) (.tmp 26) (.tmp 28) 52 52 rfl 5 Tryz.underlying52 sizeByte w3.heap.size _ _ _ _ _ _ rfl rfl 23 _ (hrow.drew.later hb5 hrow.lt) (byts (b0J x)) 4 (by rw[a0b];rfl) hmin.out (hown5.cells rfl) hfit.out (a0o _) ?_;intro w6 hr6 hg6
   refine hK.out _ _ (trivial) (fun _=>?_)
   clear hK K
   try (first | (rw[a0c];dsimp only[List.set]) | rw[a0d])
   refine wpAnyH_done (by kernel_rfl) ?_ _
   refine NoPanic.normal ?_
   rw[t0H X x k HXL.out hlt] at hr6
   have r0':=(r0.drew.later hb5 r0.lt).grown hg6 (by omega)
   have hb':=(hb.drew.trans (hb5.mono hb.size)).grown hg6 (Nat.le_trans hb.size hb5.size) (fun k h=>by cases h;omega)
   clear hb5 hown5 hg6 r0 hb hmin hfit hHeld hI0 hI1 hI2 hI3 hI4 hix hrow
   go_wp2_with fail
   go_roundw
   case rel=>exact⟨k+1,by omega,by go_num,by rw[HXS.out];exact hr6,r0',hb'⟩
   case measure=>simp[intOf];omega
  ·have e8:k=8:=by omega
   rw[e8,List.take_of_length_le (by rw[HWL.out];exact Nat.le_refl _),show 32 - 4*8=0 from rfl,List.replicate_zero,List.append_nil,HW.out] at hrow
   have hV:f0H (shaS l).list=shaL l:=rfl
   rw[hV] at hrow
   obtain⟨V,hVq⟩:∃V,V=byts (shaL l):=⟨_,rfl⟩
   rw[←hVq] at hrow
   have hVl:V.length=32:=by rw[hVq,a0b];rfl
   have hone:=Lib.hid (a0Y (show ∀v∈V,v.oneCell'=true by rw[hVq];exact a0o _))
   have hsz:=Lib.hid (show (Tryz.prog.info? 23).map (·.size)=some V.toArray.size by rw[a0C,List.size_toArray,hVl])
   have hszo:=Lib.hid (show (List.replicate 32 (Value.int .u8 0)).toArray.size=V.toArray.size by rw[List.size_toArray,List.size_toArray,List.length_replicate,hVl])
   have R1:=Lib.hid (show wr.heap[w3.heap.size]?=some (.cells V.toArray 23 (0,0)) from hrow)
   have R0:=Lib.hid (show wr.heap[w.heap.size]?=some (.cells (List.replicate 32 (Value.int .u8 0)).toArray 23 (0,0)) from r0)
   have HV:=Lib.hid hVq
   clear hV hVq hVl hrow r0
   go_wp2_with (first
    | (with_reducible refine wpList_load_row rfl 23 (.tmp 4) rfl w3.heap.size rfl 23 V.toArray (0,0) (.array 32 5) R1.out Tryz.underlying23 rfl hsz.out ?_)
    | ((with_reducible refine wpList_store_row rfl 23 (.tmp 2) (.tmp 31) rfl w.heap.size V.toArray rfl rfl 23 _ R0.out hsz.out hszo.out hone.out ?_);have HG:=Lib.hid (setRow_heap wr w.heap.size _ V.toArray 23 (0,0) R0.out))
    | (with_reducible refine bodyPost_ret (results_cell_row rfl _ _ w.heap.size 23 V.toArray (0,0) (.array 32 5) rfl HG.out Tryz.underlying23 rfl hsz.out) rfl ?_))
   exact⟨by rw[HV.out],below_setRow hb (Nat.le_refl _) _⟩
abbrev Part:=Option Addr×Nat×List UInt8
def z0k (p:Part):Value:=.slice p.1 p.2.2.length p.2.1
structure g0R (w:World) (A:Option Addr) (c:Nat) (ps:List Part):Prop where
 sl:Sl w A c (ps.map z0k)
 each:∀p∈ps,Sl w p.1 p.2.1 (byts p.2.2)
def flat (ps:List Part):List UInt8:=ps.flatMap (·.2.2)
theorem g0R.later {w w':World} {A:Option Addr} {c:Nat} {ps:List Part} {B:Nat} (h:g0R w A c ps) (hB:w.heap.size≤B) (hb:Below B w w'):g0R w' A c ps :=
 ⟨h.sl.later hB hb,fun p hp=>(h.each p hp).later hB hb⟩
theorem n0u (ps:List Part) (k:Nat) (h:k < ps.length):flat (ps.take (k+1))=flat (ps.take k)++ps[k].2.2:=by
 unfold flat
 rw[List.take_add_one,List.flatMap_append]
 simp[h]
theorem q0L (ps:List Part) (k:Nat) (h:ps.length≤k):flat (ps.take k)=flat ps:=by rw[List.take_of_length_le h]
theorem u0V (ps:List Part) (k:Nat):(flat (ps.take k)).length≤(flat ps).length:=by
 have e:flat ps=flat (ps.take k)++flat (ps.drop k):=by unfold flat;rw[←List.flatMap_append,List.take_append_drop]
 rw[e,List.length_append];omega
theorem g0R.get {w:World} {b o c:Nat} {ps:List Part} (h:g0R w (some ⟨b,o,none⟩) c ps) (k:Nat) (hk:k < ps.length):w.cell? ⟨b,o+k,none⟩=some (z0k ps[k]):=by
 obtain⟨b',o',he,_,hc⟩:=h.sl.rd.get (i:=k) (by rw[List.length_map];exact hk)
 cases he
 rw[hc,List.getElem?_map,List.getElem?_eq_getElem hk];rfl
theorem c0K {l:List UInt8} : (byts (shaL l)).length=32:=by rw[a0b];rfl
set_option maxRecDepth 100000 in
set_option maxHeartbeats 1000000 in
theorem b1x (b o c:Nat) (ps:List Part) (w:World) (hT:Tabs w) (hp:g0R w (some ⟨b,o,none⟩) c ps) (hm:(flat ps).length≤2305843009213693952) (hpl:ps.length≤9223372036854775807) :
  Calls Tryz.prog 123 #[.slice (some ⟨b,o,none⟩) ps.length c] w fun e w'=>e=.returned (.agg (byts (shaL (flat ps))).toArray)∧Below w.heap.size w w':=by
 go_enter Tryz.func123,Tryz.ntmps123
 go_wp2_with (go_at_call 124;refine (p0y _ (hT.later ((Below.refl _ _).alloc (Nat.le_refl _) _) (Nat.le_refl _))).mono ?_;rintro e w1 ⟨g,rfl,hg1,hd1,hb1⟩;have hbA:Below w.heap.size w w1:=((Below.refl _ _).alloc (Nat.le_refl _) _).trans (hb1.mono (by rw[World.size_alloc];omega));have r0:=(Row.new w 23 (List.replicate 32 (.int .u8 0))).later hb1 (Row.new w 23 (List.replicate 32 (.int .u8 0))).lt;rw[World.size_alloc] at hg1;clear hb1)
 go_loopw [9] (fun i wr=>∃k:Nat,k≤ps.length∧i=.int .i64 k∧Dgt wr g (flat (ps.take k))∧Row wr w.heap.size 23 (List.replicate 32 (.int .u8 0))∧Below w.heap.size w wr) (fun i _=>ps.length - (intOf i).toNat)
 case atStart=>exact⟨0,by omega,rfl,hd1,r0,hbA⟩
 case round =>
  clear hd1 r0 hbA
  obtain⟨k,hk,rfl,hd,r0,hb⟩:=hrel
  by_cases hlt:k < ps.length
  ·have hps:=hp.later (Nat.le_refl _) hb
   have hck:=hps.get k hlt
   have hsk:=hps.each ps[k] (List.getElem_mem hlt)
   have hsw:=hp.each ps[k] (List.getElem_mem hlt)
   have HF:=Lib.hid (n0u ps k hlt)
   have hfl:=u0V ps (k+1)
   rw[HF.out,List.length_append] at hfl
   unfold z0k at hck
   obtain⟨⟨Ak,ck,lk⟩,hpk⟩:∃p,p=ps[k]:=⟨_,rfl⟩
   rw[←hpk] at hck hsk hsw HF hfl
   dsimp only at hck hsk hsw HF hfl
   have hml:(flat (ps.take k)).length+lk.length≤4611686018427387904:=by omega
   clear hpk hps hfl
   go_wp2_with (go_at_call 88;refine (k0L g (flat (ps.take k)) lk Ak ck _ (hT.cu.later hb (Nat.le_refl _)) hd hsk (fun h a ha=>by have:=hsw.block_lt (by rw[a0b];exact h) ha;omega) hml).mono ?_;rintro e w3 ⟨rfl,hd3,hg3⟩)
   have hb3:=hb.grown hg3 hb.size (fun k h=>by cases h;omega)
   have r3:=r0.grown hg3 (by omega)
   clear hd hb r0 hg3 hck hsk hsw
   go_roundw
   case rel=>exact⟨k+1,by omega,by go_num,by rw[HF.out];exact hd3,r3,hb3⟩
   case measure=>simp[intOf];omega
  ·rw[q0L ps k (by omega)] at hd
   have hC:=hT.cu.later hb (Nat.le_refl _)
   obtain⟨V,hVq⟩:∃V,V=byts (shaL (flat ps)):=⟨_,rfl⟩
   have hsum:=Lib.hid (show Calls Tryz.prog 89 #[.pointer (some ⟨g,0,none⟩)] wr fun e w'=>e=.returned (.agg V.toArray)∧Below wr.heap.size wr w' by rw[hVq];exact m0K g (flat ps) wr hC hd hm)
   have hVl:V.length=32:=by rw[hVq];exact c0K
   have hone:=Lib.hid (a0Y (show ∀v∈V,v.oneCell'=true by rw[hVq];exact a0o _))
   have hsz:=Lib.hid (show (Tryz.prog.info? 23).map (·.size)=some V.toArray.size by rw[a0C,List.size_toArray,hVl])
   have hszo:=Lib.hid (show (List.replicate 32 (Value.int .u8 0)).toArray.size=V.toArray.size by rw[List.size_toArray,List.size_toArray,List.length_replicate,hVl])
   have HV:=Lib.hid hVq
   clear hVq hVl hC hd
   go_wp2_with (first
    | (go_at_call 89;refine hsum.out.mono ?_;rintro e w3 ⟨rfl,hb3⟩;have R0:=Lib.hid (show w3.heap[w.heap.size]?=some (.cells (List.replicate 32 (Value.int .u8 0)).toArray 23 (0,0)) from r0.later hb3 r0.lt))
    | ((with_reducible refine wpList_store_row rfl 23 (.tmp 2) (.tmp 18) rfl w.heap.size V.toArray rfl rfl 23 _ R0.out hsz.out hszo.out hone.out ?_);have HG:=Lib.hid (setRow_heap w3 w.heap.size _ V.toArray 23 (0,0) R0.out))
    | (with_reducible refine bodyPost_ret (results_cell_row rfl _ _ w.heap.size 23 V.toArray (0,0) (.array 32 5) rfl HG.out Tryz.underlying23 rfl hsz.out) rfl ?_))
   exact⟨by rw[HV.out],below_setRow (hb.trans (hb3.mono hb.size)) (Nat.le_refl _) _⟩
set_option maxRecDepth 100000 in
set_option maxHeartbeats 1000000 in
theorem c1L (A:Option Addr) (c:Nat) (w:World) (hT:Tabs w) :
  Calls Tryz.prog 123 #[.slice A 0 c] w fun e w'=>e=.returned (.agg (byts (shaL [])).toArray)∧Below w.heap.size w w':=by
 go_enter Tryz.func123,Tryz.ntmps123
 go_wp2_with (go_at_call 124;refine (p0y _ (hT.later ((Below.refl _ _).alloc (Nat.le_refl _) _) (Nat.le_refl _))).mono ?_;rintro e w1 ⟨g,rfl,hg1,hd1,hb1⟩;have hbA:Below w.heap.size w w1:=((Below.refl _ _).alloc (Nat.le_refl _) _).trans (hb1.mono (by rw[World.size_alloc];omega));have r0:=(Row.new w 23 (List.replicate 32 (.int .u8 0))).later hb1 (Row.new w 23 (List.replicate 32 (.int .u8 0))).lt;rw[World.size_alloc] at hg1;clear hb1)
 go_loopw [9] (fun i wr=>i=.int .i64 0∧Dgt wr g []∧Row wr w.heap.size 23 (List.replicate 32 (.int .u8 0))∧Below w.heap.size w wr) (fun i _=>0 - (intOf i).toNat)
 case atStart=>exact⟨rfl,hd1,r0,hbA⟩
 case round =>
   clear hd1 r0 hbA
   obtain⟨rfl,hd,r0,hb⟩:=hrel
   have hC:=hT.cu.later hb (Nat.le_refl _)
   obtain⟨V,hVq⟩:∃V,V=byts (shaL []):=⟨_,rfl⟩
   have hsum:=Lib.hid (show Calls Tryz.prog 89 #[.pointer (some ⟨g,0,none⟩)] wr fun e w'=>e=.returned (.agg V.toArray)∧Below wr.heap.size wr w' by rw[hVq];exact m0K g [] wr hC hd (by simp))
   have hVl:V.length=32:=by rw[hVq];exact c0K
   have hone:=Lib.hid (a0Y (show ∀v∈V,v.oneCell'=true by rw[hVq];exact a0o _))
   have hsz:=Lib.hid (show (Tryz.prog.info? 23).map (·.size)=some V.toArray.size by rw[a0C,List.size_toArray,hVl])
   have hszo:=Lib.hid (show (List.replicate 32 (Value.int .u8 0)).toArray.size=V.toArray.size by rw[List.size_toArray,List.size_toArray,List.length_replicate,hVl])
   have HV:=Lib.hid hVq
   clear hVq hVl hC hd
   go_wp2_with (first
    | (go_at_call 89;refine hsum.out.mono ?_;rintro e w3 ⟨rfl,hb3⟩;have R0:=Lib.hid (show w3.heap[w.heap.size]?=some (.cells (List.replicate 32 (Value.int .u8 0)).toArray 23 (0,0)) from r0.later hb3 r0.lt))
    | ((with_reducible refine wpList_store_row rfl 23 (.tmp 2) (.tmp 18) rfl w.heap.size V.toArray rfl rfl 23 _ R0.out hsz.out hszo.out hone.out ?_);have HG:=Lib.hid (setRow_heap w3 w.heap.size _ V.toArray 23 (0,0) R0.out))
    | (with_reducible refine bodyPost_ret (results_cell_row rfl _ _ w.heap.size 23 V.toArray (0,0) (.array 32 5) rfl HG.out Tryz.underlying23 rfl hsz.out) rfl ?_))
   exact⟨by rw[HV.out],below_setRow (hb.trans (hb3.mono hb.size)) (Nat.le_refl _) _⟩
theorem c1J (A:Option Addr) (n c:Nat) (ps:List Part) (w:World) (hT:Tabs w) (hp:g0R w A c ps) (hn:n=ps.length) (hm:(flat ps).length≤2305843009213693952) (hpl:ps.length≤9223372036854775807) :
  Calls Tryz.prog 123 #[.slice A n c] w fun e w'=>e=.returned (.agg (byts (shaL (flat ps))).toArray)∧Below w.heap.size w w':=by
 subst hn
 by_cases h0:0 < ps.length
 ·obtain⟨b,o,rfl,_⟩:=hp.sl.rd.get (i:=0) (by rw[List.length_map];exact h0)
  exact b1x b o c ps w hT hp hm hpl
 ·obtain rfl:ps=[]:=List.eq_nil_of_length_eq_zero (by omega)
  exact c1L A c w hT
theorem m0P (g n:Nat) (l b:List UInt8) (A:Option Addr) (c:Nat) (w:World) (hT:Cube w) (hd:Dgt w g l) (hs:Sl w A c (byts b)) (hA:0 < b.length→∀a,A=some a→a.block≠g) (hn:n=b.length) (hm:l.length+b.length≤4611686018427387904) :
  Calls Tryz.prog 88 #[.pointer (some ⟨g,0,none⟩),.slice A n c] w fun e w'=>e=.returned (.tuple #[])∧Dgt w' g (l++b)∧w.grownBy w' (some g):=by
 subst hn
 exact k0L g l b A c w hT hd hs hA hm
theorem w0x {w:World} {A:Option Addr} {c:Nat} {l:List UInt8} (h:Sl w A c (byts l)):g0R (w.alloc (.cells #[.slice A l.length c] 52)) (some ⟨w.heap.size,0,none⟩) 1 [(A,c,l)]:=by
 have r:=Row.new w 52 [.slice A l.length c]
 refine⟨⟨Rd.row (ys:=[]) (by rw[List.append_nil];exact r),by simp,fun h=>by cases h⟩,fun p hp=>?_⟩
 obtain rfl:p=(A,c,l):=by simpa using hp
 exact h.later (Nat.le_refl _) ((Below.refl _ w).alloc (Nat.le_refl _) _)
theorem q0M (A:Option Addr) (c:Nat) (l:List UInt8):flat [(A,c,l)]=l:=by unfold flat;simp
theorem p0q (A:Option Addr) (b o n c k:Nat) (hA:A=some ⟨b,o,none⟩) (hk:k < n) (w:World) :
  (Instr.indexAt 101 (.slice A n c) (.int .i64 k)).run Tryz.prog w=.ok (.pointer (some ⟨b,o+k,none⟩)) w:=by
 subst hA
 have h:(k:Int) < (n:Int):=by omega
 go_simp
def g0a (k:List UInt8):List UInt8:=if k.length≤64 then k else shaL k
def keyL (k:List UInt8):List UInt8:=g0a k++List.replicate (64 - (g0a k).length) 0
def xorL (x:UInt8) (l:List UInt8):List UInt8:=l.map (· ^^^ x)
def macL (k l:List UInt8):List UInt8:=shaL (xorL 92 (keyL k)++shaL (xorL 54 (keyL k)++l))
theorem m0j (k:List UInt8):(g0a k).length≤64:=by
 unfold g0a
 split
 ·assumption
 ·rw[c0w];omega
theorem c0v (k:List UInt8):(keyL k).length=64:=by
 unfold keyL
 have:=m0j k
 rw[List.length_append,List.length_replicate];omega
theorem b0M (x:UInt8) (l:List UInt8):(xorL x l).length=l.length:=by unfold xorL;simp
theorem j0U (k l:List UInt8):(macL k l).length=32:=c0w _
theorem i0H (s:List UInt8):splice (List.replicate 64 (Value.int .u8 0)) 0 (byts s)=byts (s++List.replicate (64 - s.length) 0):=by
 unfold splice
 rw[List.take_zero,List.nil_append,Nat.zero_add,List.drop_replicate,a0i,i0a,a0b]
theorem m0F:(Tryz.prog.info? 130).map (·.size)=some 64:=by kernel_rfl
theorem w0y {w:World} {A:Option Addr} {c:Nat} {l:List UInt8} (h:Sl w A c (byts l)) (X Y:Obj):g0R (((w.alloc X).alloc Y).alloc (.cells #[.slice A l.length c] 52)) (some ⟨w.heap.size+1+1,0,none⟩) 1 [(A,c,l)]:=by
 have h:=w0x (h.later (Nat.le_refl _) (g0h w X Y))
 rw[World.size_alloc,World.size_alloc] at h
 exact h
theorem s0o (x:UInt8) (k:List UInt8) (j:Nat) (h:j < k.length):(xorL x (k.take j)++k.drop j).getD j 0=k.getD j 0:=by
 have hl:(xorL x (k.take j)).length=j:=by rw[b0M,List.length_take];omega
 rw[List.getD_eq_getElem?_getD,List.getElem?_append_right (by omega),hl,Nat.sub_self,List.getElem?_drop,Nat.add_zero,List.getD_eq_getElem?_getD]
theorem z0W (x:UInt8) (k:List UInt8) (j:Nat) (h:j < k.length):(xorL x (k.take j)++k.drop j).set j (k.getD j 0 ^^^ x)=xorL x (k.take (j+1))++k.drop (j+1):=by
 have hl:(xorL x (k.take j)).length=j:=by rw[b0M,List.length_take];omega
 have e:k.take (j+1)=k.take j++[k[j]]:=by rw[List.take_add_one];simp[h]
 have g:k.getD j 0=k[j]:=by simp[h]
 rw[List.set_append_right _ _ (by omega),hl,Nat.sub_self,List.drop_eq_getElem_cons h,List.set_cons_zero,e,g]
 unfold xorL
 rw[List.map_append,List.append_assoc]
 rfl
set_option maxRecDepth 100000 in
set_option maxHeartbeats 1000000 in
theorem x0F (A:Option Addr) (n c:Nat) (k:List UInt8) (w:World) (hT:Tabs w) (hs:Sl w A c (byts k)) (hn:n=k.length) (hm:k.length≤2305843009213693952) :
  Calls Tryz.prog 86 #[.slice A n c] w fun e w'=>e=.returned (.agg (byts (keyL k)).toArray)∧Below w.heap.size w w':=by
 subst hn
 obtain⟨V,hVq⟩:∃V,V=byts (keyL k):=⟨_,rfl⟩
 have hVl:V.length=64:=by rw[hVq,a0b,c0v]
 have hone:=Lib.hid (a0Y (show ∀v∈V,v.oneCell'=true by rw[hVq];exact a0o _))
 have hsz:=Lib.hid (show (Tryz.prog.info? 130).map (·.size)=some V.toArray.size by rw[m0F,List.size_toArray,hVl])
 have hszo:=Lib.hid (show (List.replicate 64 (Value.int .u8 0)).toArray.size=V.toArray.size by rw[List.size_toArray,List.size_toArray,List.length_replicate,hVl])
 have HV:=Lib.hid hVq
 by_cases h64:k.length≤64
 ·have HSP:=Lib.hid (show splice (List.replicate 64 (Value.int .u8 0)) 0 (byts k)=V by rw[hVq,i0H];unfold keyL g0a;rw[if_pos h64])
  have hcl:(byts k).length=Nat.min k.length 64:=by rw[a0b];show _=min _ _;omega
  have hle:=Lib.hid (show (byts k).length≤64 by rw[a0b];exact h64)
  clear hVq hVl
  go_enter Tryz.func86,Tryz.ntmps86
  go_wp2_with (first
   | ((with_reducible refine wpList_copy_splice rfl (.tmp 8) (.tmp 9) 52 52 rfl 5 Tryz.underlying52 sizeByte _ _ _ _ _ _ rfl rfl (w.heap.size+1) 0 _ _ (heap_alloc2_new w _ _) (byts k) hcl (fun h=>⟨rfl,(hs.later (Nat.le_refl _) (g0h w _ _)).hpos h⟩) (by simpa using hle.out) (a0o _) (w.heap.size+1) _ (Below.refl _ _) (Nat.le_refl _) ?_);intro w2 HG2 hB2;have R1:=Lib.hid (show w2.heap[w.heap.size+1]?=some (.cells V.toArray 130 (0,0)) by rw[←HSP.out];exact HG2.out);have R0:=Lib.hid (show w2.heap[w.heap.size]?=some (.cells (List.replicate 64 (Value.int .u8 0)).toArray 130 (0,0)) from (hB2.block _ (by omega)).trans (heap_alloc2_old w _ _));have hb2:=(g0h w _ _).trans (hB2.mono (by omega));clear HG2 hB2)
   | (with_reducible refine wpList_load_row rfl 130 (.tmp 3) rfl (w.heap.size+1) rfl 130 V.toArray (0,0) (.array 64 5) R1.out Tryz.underlying130 rfl hsz.out ?_)
   | ((with_reducible refine wpList_store_row rfl 130 (.tmp 2) (.tmp 11) rfl w.heap.size V.toArray rfl rfl 130 _ R0.out hsz.out hszo.out hone.out ?_);have HG:=Lib.hid (setRow_heap w2 w.heap.size _ V.toArray 130 (0,0) R0.out))
   | (with_reducible refine bodyPost_ret (results_cell_row rfl _ _ w.heap.size 130 V.toArray (0,0) (.array 64 5) rfl HG.out Tryz.underlying130 rfl hsz.out) rfl ?_))
  exact⟨by rw[HV.out],below_setRow hb2 (Nat.le_refl _) _⟩
 ·have HSP:=Lib.hid (show splice (List.replicate 64 (Value.int .u8 0)) 0 (byts (shaL k))=V by rw[hVq,i0H];unfold keyL g0a;rw[if_neg h64])
  obtain⟨X,hX⟩:∃X,X=byts (shaL k):=⟨_,rfl⟩
  have hXl:X.length=32:=by rw[hX];exact c0K
  have honeX:=Lib.hid (a0Y (show ∀v∈X,v.oneCell'=true by rw[hX];exact a0o _))
  have hszX:=Lib.hid (show (Tryz.prog.info? 23).map (·.size)=some X.toArray.size by rw[a0C,List.size_toArray,hXl])
  have h32:=Lib.hid (show 32=X.toArray.size by rw[List.size_toArray,hXl])
  have HX:=Lib.hid hX
  clear hVq hVl hX hXl
  go_enter Tryz.func86,Tryz.ntmps86
  go_wp2_with (first
   | (go_at_call 123;refine (c1J _ 1 1 [(A,c,k)] _ (hT.later ((g0h w _ _).alloc (by rw[World.size_alloc,World.size_alloc];omega) _) (Nat.le_refl _)) (w0y hs _ _) rfl (by rw[q0M];exact hm) (by simp)).mono ?_;rintro e w3 ⟨rfl,hb3⟩;rw[q0M,←HX.out];obtain⟨e0,e1,hbA,hz3⟩:=q0o hb3;have r0:Row w3 w.heap.size 130 (List.replicate 64 (.int .u8 0)):=e0;have r1:Row w3 (w.heap.size+1) 130 (List.replicate 64 (.int .u8 0)):=e1;clear e0 e1 hb3)
   | (with_reducible refine wpList_store_row rfl 23 (.tmp 4) (.tmp 14) rfl w3.heap.size X.toArray rfl rfl 23 _ (heap_alloc_new w3 _) hszX.out (Eq.trans (by kernel_rfl) h32.out) honeX.out ?_;refine Hid.out ?_))
  refine Lib.hid ?_
  generalize hw4:World.setRow _ _ _=w4
  obtain⟨r4,hb4⟩:=a0p (xs:=X) hw4
  rw[HX.out] at r4
  have r0:=r0.later hb4 r0.lt
  have r1:=r1.later hb4 r1.lt
  have hbB:=hbA.trans (hb4.mono hbA.size)
  have hsum:Sl w4 (some ⟨w3.heap.size,0,none⟩) 32 (byts (shaL k)):=⟨Rd.row (ys:=[]) (by rw[List.append_nil];exact r4),by rw[c0K];exact Nat.le_refl _,fun h=>by cases h⟩
  have hsum:=hsum.later (Nat.le_refl _) ((Below.refl w4.heap.size w4).drew)
  have R1:=Lib.hid (show w4.drew.heap[w.heap.size+1]?=some (.cells (List.replicate 64 (Value.int .u8 0)).toArray 130 (0,0)) from r1)
  clear hw4 r4 hb4 hbA r1
  go_wp2_with fail
  refine wp_region_noPanic ?_
  refine wp_region_held_drew (S:=fun _=>True) (by kernel_rfl) (trivial) (fun hHeld=>?_)
  refine rt 0 15 hHeld ?_
  refine rt 1 16 hHeld ?_
  refine wpAnyH_ready (rs:=[2]) (by kernel_rfl) (by simp) (AllReadyH.cons (o:=_) rfl (fun K hK=>?_) AllReadyH.nil)
  refine d0P (some 17) rfl (by rfl) (.tmp 15) (.tmp 16) 52 52 rfl 5 Tryz.underlying52 sizeByte (w.heap.size+1) 0 64 64 _ 32 32 rfl rfl 130 _ (show Row _ _ _ _ from R1.out) (byts (shaL k)) 32 c0K (by decide) hsum.rd.at_add (by rw[c0K,List.length_replicate];decide) (a0o _) ?_;intro w6 hr6 hg6
  refine hK.out _ _ (trivial) (fun _=>?_)
  clear hK K
  try (first | (rw[a0c];dsimp only[List.set]) | rw[a0d])
  refine wpAnyH_done (by kernel_rfl) ?_ _
  refine NoPanic.normal ?_
  rw[HSP.out] at hr6
  have R0:=Lib.hid (show w6.heap[w.heap.size]?=some (.cells (List.replicate 64 (Value.int .u8 0)).toArray 130 (0,0)) from r0.drew.grown hg6 (by omega))
  have R1:=Lib.hid (show w6.heap[w.heap.size+1]?=some (.cells V.toArray 130 (0,0)) from hr6)
  have hb6:=hbB.drew.grown hg6 hbB.size (fun k h=>by cases h;omega)
  clear hr6 hg6 hbB r0 hsum hHeld
  go_wp2_with (first
   | (with_reducible refine wpList_load_row rfl 130 (.tmp 3) rfl (w.heap.size+1) rfl 130 V.toArray (0,0) (.array 64 5) R1.out Tryz.underlying130 rfl hsz.out ?_)
   | ((with_reducible refine wpList_store_row rfl 130 (.tmp 2) (.tmp 18) rfl w.heap.size V.toArray rfl rfl 130 _ R0.out hsz.out hszo.out hone.out ?_);have HG:=Lib.hid (setRow_heap w6 w.heap.size _ V.toArray 130 (0,0) R0.out))
   | (with_reducible refine bodyPost_ret (results_cell_row rfl _ _ w.heap.size 130 V.toArray (0,0) (.array 64 5) rfl HG.out Tryz.underlying130 rfl hsz.out) rfl ?_))
  exact⟨by rw[HV.out],below_setRow hb6 (Nat.le_refl _) _⟩
set_option maxRecDepth 100000 in
set_option maxHeartbeats 1000000 in
theorem m0Z (k:List UInt8) (hk:k.length=64) (x:UInt8) (w:World) (hT:Tabs w) :
  Calls Tryz.prog 87 #[.agg (byts k).toArray,.int .u8 (x.toNat:Int)] w (j0s (xorL x k) w):=by
 go_enter Tryz.func87,Tryz.ntmps87
 go_wp2
 go_loopw [7] (fun i wr=>∃j:Nat,j≤64∧i=.int .i64 j∧Row wr w.heap.size 130 (byts (xorL x (k.take j)++k.drop j))∧Below w.heap.size w wr) (fun i _=>64 - (intOf i).toNat)
 case atStart=>exact⟨0,by omega,rfl,by simpa [xorL] using Row.new w 130 (byts k),(Below.refl _ w).alloc (Nat.le_refl _) _⟩
 case round =>
  obtain⟨j,hj,rfl,hrow,hb⟩:=hrel
  by_cases hlt:j < 64
  ·have hl:(xorL x (k.take j)++k.drop j).length=64:=by rw[List.length_append,b0M,List.length_take,List.length_drop];omega
   have HS:=Lib.hid (z0W x k j (by omega))
   have hc:wr.cell? ⟨w.heap.size,j,none⟩=some (.int .u8 ((k.getD j 0).toNat:Int)):=by
    rw[hrow.cell,c0C _ _ (by omega),s0o x k j (by omega)]
   have hfr:=hrow.free j
   have hx:=h0v (k.getD j 0) x
   generalize k.getD j 0=y at *
   go_wp2
   go_roundw
   case rel =>
    refine⟨j+1,by omega,by go_num,?_,hb.setCell (Nat.le_refl _) _⟩
    rw[←HS.out,←i0W,UInt8.toNat_xor]
    exact hrow.set j _
   case measure=>simp[intOf];omega
  ·have e64:j=64:=by omega
   have hl:(xorL x k).length=64:=by rw[b0M,hk]
   have el:xorL x (k.take j)++k.drop j=xorL x k:=by rw[List.take_of_length_le (by omega),List.drop_of_length_le (by omega),List.append_nil]
   rw[el] at hrow
   have HL:=Lib.hid hl
   generalize xorL x k=m at *
   have hTr:=hT.later hb (Nat.le_refl _)
   clear hT hk el hl
   go_wp2_with (first
    | (go_at_call 124;refine (p0y _ hTr).mono ?_;rintro e w1 ⟨g,rfl,hg1,hd1,hb1⟩;have hbA:=hb.trans (hb1.mono hb.size);have r1:=hrow.later hb1 hrow.lt;have hC1:=hTr.cu.later hb1 (Nat.le_refl _);have hne:w.heap.size < g:=Nat.lt_of_lt_of_le hrow.lt hg1;clear hb1 hb hg1)
    | (go_at_call 88;refine (m0P g 64 [] m (some ⟨w.heap.size,0,none⟩) 64 _ hC1 hd1 ⟨Rd.row (ys:=[]) (by rw[List.append_nil];exact r1),by rw[a0b,HL.out];exact Nat.le_refl _,fun h=>by cases h⟩ (fun _ a ha=>by cases ha;show w.heap.size≠g;omega) HL.out.symm (by rw[HL.out];decide)).mono ?_;rintro e w3 ⟨rfl,hd3,hg3⟩))
   go_ret
   exact⟨g,rfl,by omega,hd3,hbA.grown hg3 hbA.size (fun k h=>by cases h;omega)⟩
open Go.RowKit
def r0x (xs:List Int):List Value:=xs.map (Value.int .u32)
set_option maxRecDepth 100000 in
theorem q0b (w:World) :
  Calls Tryz.prog 129 #[] w fun e w'=>e=.returned (.slice (some ⟨w.heap.size,0,none⟩) 64 64)∧Row w' w.heap.size 76 (r0x h0y)∧Below w.heap.size w w':=by
 go_enter Tryz.func129,Tryz.ntmps129
 go_wp2
 go_ret
 refine⟨rfl,heap_alloc_new w _,(Below.refl _ _).alloc (Nat.le_refl _) _⟩
theorem s0p (xs:List Int) (i:Nat) (h:i < xs.length):(r0x xs)[i]?=some (.int .u32 (xs.getD i 0)):=by
 unfold r0x;simp[h]
theorem n0S:h0y.length=64:=rfl
theorem Row.cube {w:World} {g:Nat} {t:TypeId} (h:Row w g t (r0x h0y)) (i:Nat) (hi:i < 64):w.cell? ⟨g,i,none⟩=some (.int .u32 (h0y.getD i 0)):=by
 rw[h.cell,s0p _ _ (by rw[n0S];exact hi)]
end Go.Proofs.YtimdhdimhboboaaGreatDoor
