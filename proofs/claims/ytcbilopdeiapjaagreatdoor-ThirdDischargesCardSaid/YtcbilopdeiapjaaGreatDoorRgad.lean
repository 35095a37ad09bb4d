import Derived.Test.YtcbilopdeiapjaaGreatDoorRgac
set_option maxHeartbeats 16000000
set_option maxRecDepth 100000
open Go.Proofs.Tryz
namespace Go.Proofs.YtcbilopdeiapjaaGreatDoor
open Go Go.RowKit
def j0O (l:List UInt8) (w:World) (e:Ending) (w':World):Prop :=
 ∃g,e=.returned (.pointer (some ⟨g,0,none⟩))∧w.heap.size≤g∧Dgt w' g l∧Below w.heap.size w w'
theorem a1N:(prog.info? 187).map (·.size)=some 73:=by kernel_rfl
theorem v0t (w:World):(Instr.build 187 #[(0,y0i)]).run prog w=.ok (.agg (digV S0 (List.replicate 64 0) 0).toArray) w:=by kernel_rfl
theorem n0s {P:Program} {w:World} {ops:Array Oper} {rest:List Oper} {o:Oper} {a:Act} {Q:Exit→Act→World→Prop} (hgd:o.guard=none) (t:TypeId) (x:Operand) (ho:o.op=.build t #[(0,x)])
  (v r:Value) (hx:a.eval x=v) (hrun:(Instr.build t #[(0,v)]).run P w=.ok r w) (h:wpList P ops Q rest (a.put o.dst r) w):wpList P ops Q (o :: rest) a w:=by
 refine wpList_plain hgd fun K hK=>?_
 unfold Oper.wp execOp
 simp only[ho,Sem.run_bind,Sem.run_pure,List.map_toArray,List.map_cons,List.map_nil,hx,hrun,Result.andThen_ok]
 exact hK _ _ h
theorem q0r (w:World) (hT:Tabs w) :
  Calls prog 131 #[] w (j0O [] w):=by
 have hb:=f1D v0t
 obtain⟨V,hV⟩:∃V,V=digV S0 (List.replicate 64 0) 0:=⟨_,rfl⟩
 rw[←hV] at hb
 have HV:=f1D hV
 clear hV
 go_enter func131,ntmps131
 go_wp2_with (first
  | (go_at_call 171;refine (y0j _ hT.sq).mono ?_;rintro e w1 ⟨rfl,hbel⟩)
  | (with_reducible refine n0s rfl 187 (.tmp 1) rfl y0i _ rfl (hb.out _) ?_))
 go_ret
 refine⟨w1.heap.size,rfl,hbel.size,⟨Nat.lt_of_lt_of_le hT.cu.size hbel.size,List.replicate 64 0,c1A,?_⟩,hbel.alloc hbel.size _⟩
 have:=Row.new w1 187 V
 rw[HV.out] at this ⊢
 exact this
theorem b1M (s:St) (o:List UInt8) (m:Nat):∀v∈digV s o m,v.oneCell'=true:=by
 intro v hv
 unfold digV at hv
 rcases List.mem_append.1 hv with h | h
 ·exact d0J _ v h
 ·rcases List.mem_append.1 h with h | h
  ·exact a0o _ v h
  ·rw[List.mem_singleton] at h;subst h;rfl
theorem a1Y (w:World):(zeroValue 187).run prog w=.ok (.agg (digV ⟨0#32,0#32,0#32,0#32,0#32,0#32,0#32,0#32⟩ (List.replicate 64 0) 0).toArray) w:=by kernel_rfl
theorem n0L (g:Nat) (l:List UInt8) (w:World) (hd:Dgt w g l) :
  Calls prog 95 #[.pointer (some ⟨g,0,none⟩)] w (j0O l w):=by
 obtain⟨hq,o,ho,hr⟩:=hd
 obtain⟨V,hV⟩:∃V,V=digV (stK l (l.length/64)) o l.length:=⟨_,rfl⟩
 rw[←hV] at hr
 have hl:V.length=73:=by rw[hV,f0S _ _ _ ho.1]
 have R:=f1D (show w.heap[g]?=some (.cells V.toArray 187 (0,0)) from hr)
 have hsz:=f1D (show (prog.info? 187).map (·.size)=some V.toArray.size by rw[a1N,List.size_toArray,hl])
 have h73:=f1D (show 73=V.toArray.size by rw[List.size_toArray,hl])
 have hone:=f1D (b0d (show ∀v∈V,v.oneCell'=true by rw[hV];exact b1M _ _ _))
 have HV:=f1D hV
 obtain⟨Z,hZl,hZ⟩:∃Z:Array Value,Z.size=73∧∀w,(zeroValue 187).run prog w=.ok (.agg Z) w:=⟨_,by rw[List.size_toArray,f0S _ _ _ (by simp)],a1Y⟩
 have HZ:=f1D (hZl.trans h73.out)
 have hlt:=hr.lt
 clear hV hl hr hZl
 go_enter func95,ntmps95
 go_wp2_with (first
  | (with_reducible refine wpList_load_row rfl 187 (.tmp 5) rfl g rfl 187 V.toArray (0,0) _ R.out underlying187 rfl hsz.out ?_)
  | (with_reducible refine wpList_store_row rfl 187 (.tmp 3) (.tmp 6) rfl w.heap.size V.toArray rfl rfl 187 _ (heap_alloc_new w _) hsz.out HZ.out hone.out ?_;refine Hid.out ?_))
 refine f1D ?_
 generalize hw1:World.setRow _ _ _=w1
 obtain⟨r1,hb1⟩:=a0v (xs:=V) hw1
 clear hw1 hZ
 go_wp2
 go_ret
 refine⟨w.heap.size,rfl,f1F _,⟨Nat.lt_trans hq hlt,o,ho,?_⟩,hb1⟩
 rw[←HV.out];exact r1
def c1n:Value→Nat
 | .slice _ n _=>n
 | _=>0
theorem l0l (g:Nat) (l b:List UInt8) (A:Option Addr) (c:Nat) (w:World) (hT:Cube w) (hd:Dgt w g l) (hs:Sl w A c (byts b)) (hA:0 < b.length→∀a,A=some a→a.block≠g) (hm:l.length+b.length≤4611686018427387904) :
  Calls prog 93 #[.pointer (some ⟨g,0,none⟩),.slice A b.length c] w fun e w'=>e=.returned (.tuple #[])∧Dgt w' g (l++b)∧w.grownBy w' (some g):=by
 have hcg:=hd.1
 go_enter func93,ntmps93
 go_wp2_with fail
 go_loopw [1] (fun v wr=>∃p d A' c',p++d=b∧v=.slice A' d.length c'∧Sl wr A' c' (byts d)∧(0 < d.length→∀a,A'=some a→a.block≠g)∧Dgt wr g (l++p)∧w.grownBy wr (some g)) (fun v _=>c1n v)
 case atStart=>exact⟨[],b,A,c,rfl,rfl,hs,hA,by rw[List.append_nil];exact hd,c0Q _ _⟩
 case round =>
  clear hd hs hA
  obtain⟨p,d,A',c',hpd,rfl,hs,hA,⟨_,o,ho,hr⟩,hg⟩:=hrel
  by_cases hlt:0 < d.length
  ·obtain⟨bb,oo,rfl,hbl,hcell⟩:=hs.rd.get (i:=0) (by rw[a0b];exact hlt)
   have hne:=hA hlt _ rfl
   have hlen:(l++p).length+d.length≤4611686018427387904:=by rw[←hpd] at hm;simp only[List.length_append] at hm ⊢;omega
   obtain⟨q,hq⟩:∃q,q=l++p:=⟨_,rfl⟩
   rw[←hq] at ho hr hlen
   obtain⟨m,hmq⟩:∃m,m=q.length:=⟨_,rfl⟩
   obtain⟨s,hsq⟩:∃s,s=stK q (m/64):=⟨_,rfl⟩
   rw[←hmq,←hsq] at hr
   rw[←hmq] at hlen
   have c72:wr.cell? ⟨g,72,none⟩=some (.int .u64 m):=(hr.cell 72).trans (k0b _ _ _ ho.1)
   have f72:wr.frozen? ⟨g,72,none⟩=false:=hr.free 72
   obtain⟨r,hrq⟩:∃r,r=m%64:=⟨_,rfl⟩
   obtain⟨C,hC⟩:∃C,C=d.take (64 - r):=⟨_,rfl⟩
   obtain⟨D,hD⟩:∃D,D=d.drop (64 - r):=⟨_,rfl⟩
   have hCD:d=C++D:=by rw[hC,hD,List.take_append_drop]
   obtain⟨n,hn⟩:∃n,n=C.length:=⟨_,rfl⟩
   have hmin:n=Nat.min d.length (64 - r):=by rw[hn,hC,List.length_take,Nat.min_comm]
   have hnd:n≤d.length:=by rw[hmin];exact Nat.min_le_left _ _
   have hn64':n≤64 - r:=by rw[hmin];exact Nat.min_le_right _ _
   have hn64:r+n≤64:=by omega
   have hn0:0 < n:=by rw[hmin];exact Nat.lt_min.2 ⟨hlt,by omega⟩
   have hend:r+n < 64→n=d.length:=fun h=>by
    have:min d.length (64 - r)=n:=hmin.symm
    omega
   have hDl:D.length=d.length - n:=by rw[hCD,List.length_append,←hn];omega
   have hCs:=f1D (show ∀j v,(byts C)[j]?=some v→wr.drew.cell? ((⟨bb,oo,none⟩:Addr).add j)=some v by
    intro j v hj
    refine hs.rd.at_add j v ?_
    rw[hCD,a0h,List.getElem?_append_left (List.getElem?_eq_some_iff.1 hj).1];exact hj)
   have hCl:=f1D (show (byts C).length=n by rw[a0b,hn])
   have hCn:=f1D hmin
   have hrn:=f1D (show r+C.length≤64 by rw[←hn];exact hn64)
   have hCf:=f1D (show 8+r+(byts C).length≤(digV s o m).length by rw[a0b,f0S _ _ _ ho.1,←hn];omega)
   have hcap:=hs.room
   rw[a0b] at hcap
   obtain⟨o1,ho1⟩:∃o1,o1=splice o r C:=⟨_,rfl⟩
   have hol:=f1D (show (splice o r C).length=64 by rw[length_splice _ _ _ (by rw[ho.1,←hn];exact hn64),ho.1])
   have hr0:r < 64:=by omega
   have hrem:(m:Int).tmod 64=(r:Int):=by rw[Int.tmod_eq_emod_of_nonneg (by omega)];omega
   have rb1:(0:Int)≤(r:Int):=by omega
   have rb2:(r:Int)≤64:=by omega
   have hr64:¬(64=r):=by omega
   have HP:=f1D hpd
   have HQ:=f1D hq
   have HM:=f1D hmq
   have HS':=f1D (show s=stK q (q.length/64) by rw[hsq,hmq])
   have HR:=f1D hrq
   have HC:=f1D hCD
   have HN:=f1D hn
   have HD:=f1D hDl
   have HO:=f1D ho1
   have HE:=f1D hend
   clear hpd hq hmq hsq hrq hCD hn hDl ho1 hA hcell hC hD hmin hend hn64'
   go_wp2_with fail
   refine wp_region_noPanic ?_
   refine wp_region_held_drew (S:=fun w'=>w'.cell? ⟨g,72,none⟩=some (.int .u64 m)) (by kernel_rfl) (c72) (fun hHeld=>?_)
   refine rt 0 8 hHeld ?_
   refine rt 1 9 hHeld ?_
   refine rt 2 10 hHeld ?_
   refine rt 3 11 hHeld ?_
   refine rt 4 12 hHeld ?_
   refine rt 5 13 hHeld ?_
   refine rt 6 14 hHeld ?_
   refine rt 7 15 hHeld ?_
   refine rt 8 16 hHeld ?_
   refine rt 9 17 hHeld ?_
   refine rc1 10 fun K hK=>?_
   refine d0X (some 18) rfl (by rfl) (.tmp 16) (.tmp 17) 61 61 rfl 5 underlying61 sizeByte g _ _ _ _ _ _ rfl rfl 187 _ hr.drew (byts C) n hCl.out hCn.out hCs.out hCf.out (a0o _) ?_;intro w1 hr1 hg1;rw[v0K _ _ _ _ _ ho.1 hrn.out] at hr1;have c72a:w1.cell? ⟨g,72,none⟩=some (.int .u64 m):=(hr1.cell 72).trans (k0b _ _ _ hol.out);have f72a:w1.frozen? ⟨g,72,none⟩=false:=hr1.free 72
   refine rk hK (by exact c72a) fun hHeld=>?_
   clear hK K
   refine rt 11 4 hHeld ?_
   refine wpAnyH_done (by kernel_rfl) ?_ _
   refine NoPanic.normal ?_
   rw[←HO.out] at hr1 hol
   have hg1':wr.grownBy w1 (some g):=⟨hg1.os,hg1.tape,hg1.output,hg1.size,hg1.block⟩
   have hg1'':=a0k hg hg1'
   clear hrem rb1 rb2 hr64 hCs hCl hCn hCf hg1 c72 f72 hHeld
   have hn1:(0:Int)≤(n:Int):=by omega
   have hn2:(n:Int)≤(d.length:Int):=by omega
   have wn:IntKind.u64.wrap (n:Int)=(n:Int):=by rw[IntKind.wrap_u64];omega
   have wm:IntKind.u64.wrap ((m:Int)+(n:Int))=(m:Int)+(n:Int):=by rw[IntKind.wrap_u64];omega
   have hmr:=HR.out
   obtain⟨A2,hA2⟩:∃A2:Addr,A2=if c'=n then ⟨bb,oo,none⟩ else ⟨bb,oo+n,none⟩:=⟨_,rfl⟩
   have hslc:∀w,(Instr.sliceAt 61 (.slice (some ⟨bb,oo,none⟩) d.length c') (some (.int .i64 n)) none none).run prog w=.ok (.slice (some A2) (d.length - n) (c' - n)) w:=by
    intro w
    rw[hA2]
    go_simp
    split<;>rfl
   have HA2:=f1D hA2
   clear hA2
   by_cases hfull:r+n=64
   ·have ht:((m:Int)+(n:Int))%64=0:=by omega
    clear hmr
    go_wp2_with fail
    generalize hw2:World.setCell w1 _ _=w2
    have hr2:Row w2 g 187 (digV s o1 (m+n)):=by
     have h:=hr1.set 72 (.int .u64 ((m:Int)+(n:Int)))
     rw[hw2,←Int.natCast_add,r0w _ _ _ _ hol.out] at h;exact h
    have hg2:=a0q w1 g 72 (.int .u64 ((m:Int)+(n:Int)))
    rw[hw2] at hg2
    have hg2':=a0k hg1' hg2
    have hg2'':=a0k hg hg2'
    have hrange0:=f1D (k0c hr2.drew)
    have hrange8:=f1D (h0v hr2.drew)
    have hCube:Cube w2.drew:=n0N (hT.grown hg2'' hcg)
    have hsz8:=f1D (show (prog.info? 185).map (·.size)=some (a0L s.list).length by rw[u0v,a0z,b0x])
    have hszc:=f1D (show (prog.info? 185).map (·.size)=some (a0L (h0i o1 s).list).length by rw[u0v,a0z,b0x])
    have hszb:=f1D (show (prog.info? 139).map (·.size)=some (byts o1).length by rw[x0Y,a0b,hol.out])
    have hfit8:=f1D (show 0+(a0L (h0i o1 s).list).length≤(digV s o1 (m+n)).length by rw[a0z,b0x,f0S _ _ _ hol.out];omega)
    clear hg1' hg1'' hg2 c72a f72a hw2 ht
    refine wp_region_noPanic ?_
    refine wp_region_held_drew (S:=fun w'=>w'.rangeAt g 8 (byts o1)) (by kernel_rfl) (hrange8.out) (fun hHeld=>?_)
    refine rt 0 37 hHeld ?_
    refine rt 1 38 hHeld ?_
    refine rt 2 39 hHeld ?_
    refine rt 3 40 hHeld ?_
    refine rt 5 42 hHeld ?_
    refine rt 6 43 hHeld ?_
    refine rt 7 44 hHeld ?_
    refine rt 8 45 hHeld ?_ (hy:=by intro w hS;exact a0s 139 (.tmp 44) rfl g 8 rfl (byts o1) _ hS underlying139 rfl hszb.out)
    refine rc1 4 fun K hK=>?_
    refine b0c (some 41) rfl (by rfl) 185 (.tmp 40) rfl g 0 rfl (a0L s.list) _ hrange0.out underlying185 rfl hsz8.out ?_
    refine rk hK (hHeld) fun hHeld=>?_
    clear hK K
    refine rc1 9 fun K hK=>?_
    go_simp
    refine (n0M o1 hol.out s _ hCube).mono ?_;rintro e w3 ⟨rfl,hb3⟩
    try go_wp2_with fail
    refine hK.out _ _ (by exact h0v (hr2.drew.later hb3 hr2.lt)) (fun hHeld=>?_)
    clear hK K
    refine rt 10 47 hHeld ?_
    refine rt 11 48 hHeld ?_
    refine rc1 12 fun K hK=>?_
    refine a0R none rfl (by rfl) 185 (.tmp 48) (.tmp 46) rfl g 0 187 _ (a0L (h0i o1 s).list) rfl rfl (hr2.drew.later hb3 hr2.lt) hfit8.out hszc.out (d0J _) ?_;intro w4 hr4 hg4;rw[s0U] at hr4
    refine hK.out _ _ (by exact h0v hr4) (fun _=>?_)
    clear hK K
    rw[a0u]
    refine wpAnyH_done (by kernel_rfl) ?_ _
    refine NoPanic.normal ?_
    have hgA:=a0k hg2' (a0k (a0r (w:=w2) ⟨hb3.os,hb3.tape,hb3.output,hb3.size,hb3.block⟩ _) hg4)
    clear hrange0 hrange8 hCube hsz8 hszc hszb hfit8 hHeld hslc
    go_wp2_with fail
    go_roundw
    case rel =>
     have e1:q.length%64=r:=by rw[←HM.out];exact HR.out.symm
     obtain⟨k1,k2⟩:=z0Z (c:=C) ho (by rw[e1,←HN.out];omega)
     rw[e1,←HO.out] at k1 k2
     refine⟨p++C,D,some A2,c' - n,?_,by rw[HD.out],?_,?_,⟨hcg,o1,?_,?_⟩,a0k hg hgA⟩
     ·rw[List.append_assoc,←HC.out];exact HP.out
     ·have h:=hs.from (k:=n) (by rw[a0b];omega) HA2.out
      have e:(byts d).drop n=byts D:=by
       rw[HC.out,a0h,HN.out,←a0b];exact List.drop_left
      rw[e] at h
      exact h.apart hgA (fun _ a ha=>by cases ha;rw[g0W HA2.out];exact hne)
     ·intro _ a ha
      cases ha
      rw[g0W HA2.out];exact hne
     ·rw[←List.append_assoc,←HQ.out];exact k1
     ·rw[←List.append_assoc,←HQ.out,k2,←HS'.out,List.length_append,←HN.out,←HM.out]
      exact hr4
    case measure=>simp[c1n];omega
   ·have ht:(((m:Int)+(n:Int))%64==0)=false:=by simp;omega
    clear hmr
    go_wp2_with fail
    generalize hw2:World.setCell w1 _ _=w2
    have hr2:Row w2 g 187 (digV s o1 (m+n)):=by
     have h:=hr1.set 72 (.int .u64 ((m:Int)+(n:Int)))
     rw[hw2,←Int.natCast_add,r0w _ _ _ _ hol.out] at h;exact h
    have hg2:=a0q w1 g 72 (.int .u64 ((m:Int)+(n:Int)))
    rw[hw2] at hg2
    have hg2':=a0k hg1' hg2
    have hg2'':=a0k hg hg2'
    go_roundw
    case rel =>
     have e1:q.length%64=r:=by rw[←HM.out];exact HR.out.symm
     obtain⟨k1,k2⟩:=a1a (c:=C) ho (by rw[e1,←HN.out];omega)
     rw[e1,←HO.out] at k1
     refine⟨p++C,D,some A2,c' - n,?_,by rw[HD.out],?_,?_,⟨hcg,o1,?_,?_⟩,hg2''⟩
     ·rw[List.append_assoc,←HC.out];exact HP.out
     ·have h:=hs.from (k:=n) (by rw[a0b];omega) HA2.out
      have e:(byts d).drop n=byts D:=by
       rw[HC.out,a0h,HN.out,←a0b];exact List.drop_left
      rw[e] at h
      exact h.apart hg2' (fun _ a ha=>by cases ha;rw[g0W HA2.out];exact hne)
     ·intro _ a ha
      cases ha
      rw[g0W HA2.out];exact hne
     ·rw[←List.append_assoc,←HQ.out];exact k1
     ·rw[←List.append_assoc,←HQ.out,k2,←HS'.out,List.length_append,←HN.out,←HM.out]
      exact hr2
    case measure=>simp[c1n];omega
  ·have hd0:d=[]:=List.eq_nil_of_length_eq_zero (by omega)
   subst hd0
   rw[List.append_nil] at hpd
   subst hpd
   go_wp2_with fail
   go_end0
   exact⟨rfl,⟨hcg,o,ho,hr⟩,hg⟩
theorem d1C (ws:List (BitVec 32)) (hl:ws.length=8) (k:Nat) (hk:k < 8) (w:World) :
  (Instr.index 185 (.agg (a0L ws).toArray) (.int .i64 k)).run prog w=.ok (.int .u32 (u (ws.getD k 0#32))) w:=by
 have hc:(a0L ws).toArray[k]?=some (.int .u32 (u (ws.getD k 0#32))):=by
  rw[List.getElem?_toArray,f0d _ _ (by omega)]
 have h1:(Go.part 147 (a0L ws).toArray k).run prog w=.ok (.int .u32 (u (ws.getD k 0#32))) w:=by
  simp only[Go.part,isAgg,Sem.run_bind,run_underlying underlying147,Result.andThen_ok,Sem.run_pure,hc]
  rfl
 simp[Instr.index,asIntOf,run_underlying underlying185,hk,h1]
theorem m0P (ws:List (BitVec 32)):(f0M ws).length=4*ws.length:=by
 unfold f0M
 induction ws with
 | nil=>rfl
 | cons x ws ih=>rw[List.flatMap_cons,List.length_append,ih];simp[b0U];omega
theorem l0i (ws:List (BitVec 32)) (k:Nat) (h:k < ws.length):f0M (ws.take (k+1))=f0M (ws.take k)++b0U (ws.getD k 0#32):=by
 unfold f0M
 rw[List.take_add_one,List.flatMap_append]
 simp[h]
theorem u0D (X:List UInt8) (x:BitVec 32) (k:Nat) (hX:X.length=4*k) (hk:k < 8):splice (byts X++List.replicate (32 - 4*k) (.int .u8 0)) (4*k) (byts (b0U x))=byts (X++b0U x)++List.replicate (32 - 4*(k+1)) (.int .u8 0):=by
 unfold splice
 rw[←hX,←a0b X,List.take_left,List.drop_length_add_append,List.drop_replicate,a0h,a0b,a0b,show (b0U x).length=4 from rfl,List.append_assoc]
 congr 3
 omega
theorem n0q (g:Nat) (l:List UInt8) (w:World) (hT:Cube w) (hd:Dgt w g l) (hm:l.length≤2305843009213693952) :
  Calls prog 94 #[.pointer (some ⟨g,0,none⟩)] w fun e w'=>e=.returned (.agg (byts (shaL l)).toArray)∧Below w.heap.size w w':=by
 have hs8:=f1D u0v
 have hpl:=h0A l.length
 have hpn:=g0Z l.length
 have hml:l.length+(padL l.length).length≤4611686018427387904:=by omega
 obtain⟨ws,hws⟩:∃ws,ws=(shaS l).list:=⟨_,rfl⟩
 have hwl:ws.length=8:=by rw[hws];rfl
 have hpm:=l0R l
 have HW:=f1D hws
 have HPM:=f1D hpm
 have HPL:=f1D hpl
 have hsz8:=f1D (show (prog.info? 185).map (·.size)=some (a0L ws).length by rw[u0v,a0z,hwl])
 have HWL:=f1D hwl
 clear hws hwl hpm hpl
 go_enter func94,ntmps94
 go_wp2_with (first
  | (go_at_call 95;refine (n0L g l _ (hd.later ((Below.refl _ _).alloc (f1F _) _) hd.lt)).mono ?_;rintro e w1 ⟨g1,rfl,hg1,hd1,hb1⟩;have hbA:Below w.heap.size w w1:=((Below.refl _ _).alloc (f1F _) _).trans (hb1.mono (by rw[World.size_alloc];omega));have r0:=(Row.new w 23 (List.replicate 32 (.int .u8 0))).later hb1 (Row.new w 23 (List.replicate 32 (.int .u8 0))).lt;have c72:=(hd.later hbA hd.lt).many;rw[World.size_alloc] at hg1;clear hb1)
  | (go_at_call 133;refine (c1F l.length _).mono ?_;rintro e w2 ⟨v2,rfl,hown2,hb2⟩;obtain⟨A2,c2,rfl,hl2,hsl2⟩:=Sl.of_own hown2)
  | (go_at_call 93;refine (l0l g1 l (padL l.length) A2 c2 _ (hT.later (hbA.trans (hb2.mono hbA.size)) (f1F _)) (hd1.later hb2 hd1.lt) hsl2 (fun _ a ha=>h0Z hown2 hd1.lt a ha) hml).mono ?_;rintro e w3 ⟨rfl,hd3,hg3⟩;have hr3:=f1D (show ∀ob,(w3.alloc ob).rangeAt g1 0 (a0L ws) from fun ob=>by rw[HW.out];exact World.rangeAt_alloc hd3.range ob))
  | (with_reducible refine wpList_load_mid rfl 185 (.tmp 18) rfl g1 0 rfl (a0L ws) _ (hr3.out _) underlying185 rfl hsz8.out ?_))
 have hbB:=hbA.trans (hb2.mono hbA.size)
 have hbC:Below w.heap.size w w3:=hbB.grown hg3 hbB.size (fun k h=>by cases h;omega)
 have r3:=(r0.later hb2 r0.lt).grown hg3 (by omega)
 have hlt3:=r3.lt
 have hnew:=Row.new w3 23 (List.replicate 32 (.int .u8 0))
 have hb4:=hbC.alloc hbC.size (.cells (List.replicate 32 (Value.int .u8 0)).toArray 23)
 have r4:=r3.later ((Below.refl _ w3).alloc (f1F _) (.cells (List.replicate 32 (Value.int .u8 0)).toArray 23)) hlt3
 clear hd1 hbA r0 c72 hb2 hown2 hl2 hsl2 hd3 hg3 hr3 hd hT hbB hbC r3 hg1
 go_loopw [20] (fun i wr=>∃k:Nat,k≤8∧i=.int .i64 k∧Row wr w3.heap.size 23 (byts (f0M (ws.take k))++List.replicate (32 - 4*k) (.int .u8 0))∧Row wr w.heap.size 23 (List.replicate 32 (.int .u8 0))∧Below w.heap.size w wr) (fun i _=>8 - (intOf i).toNat)
 case atStart=>exact⟨0,by omega,rfl,hnew,r4,hb4⟩
 case round =>
  clear hnew r4 hb4
  obtain⟨k,hk,rfl,hrow,r0,hb⟩:=hrel
  by_cases hlt:k < 8
  ·have hix:=d1C ws HWL.out k hlt
   have hI0:IntKind.i64.wrap (4*(k:Int))=4*(k:Int):=by rw[IntKind.wrap_i64];omega
   have hI1:(0:Int)≤4*(k:Int):=by omega
   have hI2:4*(k:Int)≤32:=by omega
   have hI3:¬(32=4*k):=by omega
   have hI4:(4*(k:Int)).toNat=4*k:=by omega
   obtain⟨X,hX⟩:∃X,X=f0M (ws.take k):=⟨_,rfl⟩
   have hXl:X.length=4*k:=by rw[hX,m0P,List.length_take,HWL.out];omega
   have HXS:=f1D (show f0M (ws.take (k+1))=X++b0U (ws.getD k 0#32) by rw[hX];exact l0i ws k (by rw[HWL.out];exact hlt))
   rw[←hX] at hrow
   obtain⟨x,hx⟩:∃x,x=ws.getD k 0#32:=⟨_,rfl⟩
   rw[←hx] at hix HXS
   have hmin:=f1D (show 4=Nat.min 4 (32 - 4*k) by show 4=min 4 (32 - 4*k);omega)
   have hfit:=f1D (show 4*k+(byts (b0U x)).length≤(byts X++List.replicate (32 - 4*k) (Value.int .u8 0)).length by rw[List.length_append,a0b,a0b,List.length_replicate,hXl];show 4*k+4≤_;omega)
   have HXL:=f1D hXl
   clear hX hXl hx
   go_wp2_with fail
   refine wp_region_noPanic ?_
   refine wp_region_held_drew (S:=fun _=>True) (by kernel_rfl) (trivial) (fun hHeld=>?_)
   refine rt 0 24 hHeld ?_
   refine rt 1 25 hHeld ?_
   refine rt 2 26 hHeld ?_
   refine rt 3 27 hHeld ?_
   refine rc1 4 fun K hK=>?_
   go_simp
   refine (p0b none 0 0 [] x _ rfl ⟨.inl rfl,f1F _,fun _=>rfl⟩ (by simp)).mono ?_;rintro e w5 ⟨v5,rfl,hown5,hb5⟩;have hown5:w5.ownsRow wr.drew.heap.size 5 1 v5 4 (byts (b0U x)):=hown5;obtain⟨g5,cap5,rfl,hg5,_⟩:=hown5.form (by omega)
   try go_wp2_with fail
   refine hK.out _ _ (trivial) (fun hHeld=>?_)
   clear hK K
   refine rc1 5 fun K hK=>?_
   refine d0X (some 29) rfl (by rfl) (.tmp 26) (.tmp 28) 61 61 rfl 5 underlying61 sizeByte w3.heap.size _ _ _ _ _ _ rfl rfl 23 _ (hrow.drew.later hb5 hrow.lt) (byts (b0U x)) 4 (by rw[a0b];rfl) hmin.out (hown5.cells rfl) hfit.out (a0o _) ?_;intro w6 hr6 hg6
   refine rk hK (trivial) fun _=>?_
   clear hK K
   refine wpAnyH_done (by kernel_rfl) ?_ _
   refine NoPanic.normal ?_
   rw[u0D X x k HXL.out hlt] at hr6
   have r0':=(r0.drew.later hb5 r0.lt).grown hg6 (by omega)
   have hb':=(hb.drew.trans (hb5.mono hb.size)).grown hg6 (Nat.le_trans hb.size hb5.size) (fun k h=>by cases h;omega)
   clear hb5 hown5 hg6 r0 hb hmin hfit hHeld hI0 hI1 hI2 hI3 hI4 hix hrow
   go_wp2_with fail
   go_roundw
   case rel=>exact⟨k+1,by omega,by go_num,by rw[HXS.out];exact hr6,r0',hb'⟩
   case measure=>simp[intOf];omega
  ·have e8:k=8:=by omega
   rw[e8,List.take_of_length_le (by rw[HWL.out];exact f1F _),show 32 - 4*8=0 from rfl,List.replicate_zero,List.append_nil,HW.out] at hrow
   have hV:f0M (shaS l).list=shaL l:=rfl
   rw[hV] at hrow
   obtain⟨V,hVq⟩:∃V,V=byts (shaL l):=⟨_,rfl⟩
   rw[←hVq] at hrow
   have hVl:V.length=32:=by rw[hVq,a0b];rfl
   have hone:=f1D (b0d (show ∀v∈V,v.oneCell'=true by rw[hVq];exact a0o _))
   have hsz:=f1D (show (prog.info? 23).map (·.size)=some V.toArray.size by rw[a0t,List.size_toArray,hVl])
   have hszo:=f1D (show (List.replicate 32 (Value.int .u8 0)).toArray.size=V.toArray.size by rw[List.size_toArray,List.size_toArray,List.length_replicate,hVl])
   have R1:=f1D (show wr.heap[w3.heap.size]?=some (.cells V.toArray 23 (0,0)) from hrow)
   have R0:=f1D (show wr.heap[w.heap.size]?=some (.cells (List.replicate 32 (Value.int .u8 0)).toArray 23 (0,0)) from r0)
   have HV:=f1D hVq
   clear hV hVq hVl hrow r0
   go_wp2_with (first
    | (with_reducible refine wpList_load_row rfl 23 (.tmp 4) rfl w3.heap.size rfl 23 V.toArray (0,0) (.array 32 5) R1.out underlying23 rfl hsz.out ?_)
    | ((with_reducible refine wpList_store_row rfl 23 (.tmp 2) (.tmp 31) rfl w.heap.size V.toArray rfl rfl 23 _ R0.out hsz.out hszo.out hone.out ?_);have HG:=f1D (setRow_heap wr w.heap.size _ V.toArray 23 (0,0) R0.out))
    | (with_reducible refine bodyPost_ret (results_cell_row rfl _ _ w.heap.size 23 V.toArray (0,0) (.array 32 5) rfl HG.out underlying23 rfl hsz.out) rfl ?_))
   exact⟨by rw[HV.out],below_setRow hb (f1F _) _⟩
abbrev Part:=Option Addr×Nat×List UInt8
def a1i (p:Part):Value:=.slice p.1 p.2.2.length p.2.1
structure h0h (w:World) (A:Option Addr) (c:Nat) (ps:List Part):Prop where
 sl:Sl w A c (ps.map a1i)
 each:∀p∈ps,Sl w p.1 p.2.1 (byts p.2.2)
def flat (ps:List Part):List UInt8:=ps.flatMap (·.2.2)
theorem h0h.later {w w':World} {A:Option Addr} {c:Nat} {ps:List Part} {B:Nat} (h:h0h w A c ps) (hB:w.heap.size≤B) (hb:Below B w w'):h0h w' A c ps :=
 ⟨h.sl.later hB hb,fun p hp=>(h.each p hp).later hB hb⟩
theorem o0a (ps:List Part) (k:Nat) (h:k < ps.length):flat (ps.take (k+1))=flat (ps.take k)++ps[k].2.2:=by
 unfold flat
 rw[List.take_add_one,List.flatMap_append]
 simp[h]
theorem r0y (ps:List Part) (k:Nat) (h:ps.length≤k):flat (ps.take k)=flat ps:=by rw[List.take_of_length_le h]
theorem v0W (ps:List Part) (k:Nat):(flat (ps.take k)).length≤(flat ps).length:=by
 have e:flat ps=flat (ps.take k)++flat (ps.drop k):=by unfold flat;rw[←List.flatMap_append,List.take_append_drop]
 rw[e,List.length_append];omega
theorem h0h.get {w:World} {b o c:Nat} {ps:List Part} (h:h0h w (some ⟨b,o,none⟩) c ps) (k:Nat) (hk:k < ps.length):w.cell? ⟨b,o+k,none⟩=some (a1i ps[k]):=by
 obtain⟨b',o',he,_,hc⟩:=h.sl.rd.get (i:=k) (by rw[List.length_map];exact hk)
 cases he
 rw[hc,List.getElem?_map,List.getElem?_eq_getElem hk];rfl
theorem c0Z {l:List UInt8} : (byts (shaL l)).length=32:=by rw[a0b];rfl
theorem c1y (b o c:Nat) (ps:List Part) (w:World) (hT:Tabs w) (hp:h0h w (some ⟨b,o,none⟩) c ps) (hm:(flat ps).length≤2305843009213693952) (hpl:ps.length≤9223372036854775807) :
  Calls prog 130 #[.slice (some ⟨b,o,none⟩) ps.length c] w fun e w'=>e=.returned (.agg (byts (shaL (flat ps))).toArray)∧Below w.heap.size w w':=by
 go_enter func130,ntmps130
 go_wp2_with (go_at_call 131;refine (q0r _ (hT.later ((Below.refl _ _).alloc (f1F _) _) (f1F _))).mono ?_;rintro e w1 ⟨g,rfl,hg1,hd1,hb1⟩;have hbA:Below w.heap.size w w1:=((Below.refl _ _).alloc (f1F _) _).trans (hb1.mono (by rw[World.size_alloc];omega));have r0:=(Row.new w 23 (List.replicate 32 (.int .u8 0))).later hb1 (Row.new w 23 (List.replicate 32 (.int .u8 0))).lt;rw[World.size_alloc] at hg1;clear hb1)
 go_loopw [9] (fun i wr=>∃k:Nat,k≤ps.length∧i=.int .i64 k∧Dgt wr g (flat (ps.take k))∧Row wr w.heap.size 23 (List.replicate 32 (.int .u8 0))∧Below w.heap.size w wr) (fun i _=>ps.length - (intOf i).toNat)
 case atStart=>exact⟨0,by omega,rfl,hd1,r0,hbA⟩
 case round =>
  clear hd1 r0 hbA
  obtain⟨k,hk,rfl,hd,r0,hb⟩:=hrel
  by_cases hlt:k < ps.length
  ·have hps:=hp.later (f1F _) hb
   have hck:=hps.get k hlt
   have hsk:=hps.each ps[k] (List.getElem_mem hlt)
   have hsw:=hp.each ps[k] (List.getElem_mem hlt)
   have HF:=f1D (o0a ps k hlt)
   have hfl:=v0W ps (k+1)
   rw[HF.out,List.length_append] at hfl
   unfold a1i at hck
   obtain⟨⟨Ak,ck,lk⟩,hpk⟩:∃p,p=ps[k]:=⟨_,rfl⟩
   rw[←hpk] at hck hsk hsw HF hfl
   dsimp only at hck hsk hsw HF hfl
   have hml:(flat (ps.take k)).length+lk.length≤4611686018427387904:=by omega
   clear hpk hps hfl
   go_wp2_with (go_at_call 93;refine (l0l g (flat (ps.take k)) lk Ak ck _ (hT.cu.later hb (f1F _)) hd hsk (fun h a ha=>by have:=hsw.block_lt (by rw[a0b];exact h) ha;omega) hml).mono ?_;rintro e w3 ⟨rfl,hd3,hg3⟩)
   have hb3:=hb.grown hg3 hb.size (fun k h=>by cases h;omega)
   have r3:=r0.grown hg3 (by omega)
   clear hd hb r0 hg3 hck hsk hsw
   go_roundw
   case rel=>exact⟨k+1,by omega,by go_num,by rw[HF.out];exact hd3,r3,hb3⟩
   case measure=>simp[intOf];omega
  ·rw[r0y ps k (by omega)] at hd
   have hC:=hT.cu.later hb (f1F _)
   obtain⟨V,hVq⟩:∃V,V=byts (shaL (flat ps)):=⟨_,rfl⟩
   have hsum:=f1D (show Calls prog 94 #[.pointer (some ⟨g,0,none⟩)] wr fun e w'=>e=.returned (.agg V.toArray)∧Below wr.heap.size wr w' by rw[hVq];exact n0q g (flat ps) wr hC hd hm)
   have hVl:V.length=32:=by rw[hVq];exact c0Z
   have hone:=f1D (b0d (show ∀v∈V,v.oneCell'=true by rw[hVq];exact a0o _))
   have hsz:=f1D (show (prog.info? 23).map (·.size)=some V.toArray.size by rw[a0t,List.size_toArray,hVl])
   have hszo:=f1D (show (List.replicate 32 (Value.int .u8 0)).toArray.size=V.toArray.size by rw[List.size_toArray,List.size_toArray,List.length_replicate,hVl])
   have HV:=f1D hVq
   clear hVq hVl hC hd
   go_wp2_with (first
    | (go_at_call 94;refine hsum.out.mono ?_;rintro e w3 ⟨rfl,hb3⟩;have R0:=f1D (show w3.heap[w.heap.size]?=some (.cells (List.replicate 32 (Value.int .u8 0)).toArray 23 (0,0)) from r0.later hb3 r0.lt))
    | ((with_reducible refine wpList_store_row rfl 23 (.tmp 2) (.tmp 18) rfl w.heap.size V.toArray rfl rfl 23 _ R0.out hsz.out hszo.out hone.out ?_);have HG:=f1D (setRow_heap w3 w.heap.size _ V.toArray 23 (0,0) R0.out))
    | (with_reducible refine bodyPost_ret (results_cell_row rfl _ _ w.heap.size 23 V.toArray (0,0) (.array 32 5) rfl HG.out underlying23 rfl hsz.out) rfl ?_))
   exact⟨by rw[HV.out],below_setRow (hb.trans (hb3.mono hb.size)) (f1F _) _⟩
theorem d1P (A:Option Addr) (c:Nat) (w:World) (hT:Tabs w) :
  Calls prog 130 #[.slice A 0 c] w fun e w'=>e=.returned (.agg (byts (shaL [])).toArray)∧Below w.heap.size w w':=by
 go_enter func130,ntmps130
 go_wp2_with (go_at_call 131;refine (q0r _ (hT.later ((Below.refl _ _).alloc (f1F _) _) (f1F _))).mono ?_;rintro e w1 ⟨g,rfl,hg1,hd1,hb1⟩;have hbA:Below w.heap.size w w1:=((Below.refl _ _).alloc (f1F _) _).trans (hb1.mono (by rw[World.size_alloc];omega));have r0:=(Row.new w 23 (List.replicate 32 (.int .u8 0))).later hb1 (Row.new w 23 (List.replicate 32 (.int .u8 0))).lt;rw[World.size_alloc] at hg1;clear hb1)
 go_loopw [9] (fun i wr=>i=.int .i64 0∧Dgt wr g []∧Row wr w.heap.size 23 (List.replicate 32 (.int .u8 0))∧Below w.heap.size w wr) (fun i _=>0 - (intOf i).toNat)
 case atStart=>exact⟨rfl,hd1,r0,hbA⟩
 case round =>
   clear hd1 r0 hbA
   obtain⟨rfl,hd,r0,hb⟩:=hrel
   have hC:=hT.cu.later hb (f1F _)
   obtain⟨V,hVq⟩:∃V,V=byts (shaL []):=⟨_,rfl⟩
   have hsum:=f1D (show Calls prog 94 #[.pointer (some ⟨g,0,none⟩)] wr fun e w'=>e=.returned (.agg V.toArray)∧Below wr.heap.size wr w' by rw[hVq];exact n0q g [] wr hC hd (by simp))
   have hVl:V.length=32:=by rw[hVq];exact c0Z
   have hone:=f1D (b0d (show ∀v∈V,v.oneCell'=true by rw[hVq];exact a0o _))
   have hsz:=f1D (show (prog.info? 23).map (·.size)=some V.toArray.size by rw[a0t,List.size_toArray,hVl])
   have hszo:=f1D (show (List.replicate 32 (Value.int .u8 0)).toArray.size=V.toArray.size by rw[List.size_toArray,List.size_toArray,List.length_replicate,hVl])
   have HV:=f1D hVq
   clear hVq hVl hC hd
   go_wp2_with (first
    | (go_at_call 94;refine hsum.out.mono ?_;rintro e w3 ⟨rfl,hb3⟩;have R0:=f1D (show w3.heap[w.heap.size]?=some (.cells (List.replicate 32 (Value.int .u8 0)).toArray 23 (0,0)) from r0.later hb3 r0.lt))
    | ((with_reducible refine wpList_store_row rfl 23 (.tmp 2) (.tmp 18) rfl w.heap.size V.toArray rfl rfl 23 _ R0.out hsz.out hszo.out hone.out ?_);have HG:=f1D (setRow_heap w3 w.heap.size _ V.toArray 23 (0,0) R0.out))
    | (with_reducible refine bodyPost_ret (results_cell_row rfl _ _ w.heap.size 23 V.toArray (0,0) (.array 32 5) rfl HG.out underlying23 rfl hsz.out) rfl ?_))
   exact⟨by rw[HV.out],below_setRow (hb.trans (hb3.mono hb.size)) (f1F _) _⟩
theorem d1N (A:Option Addr) (n c:Nat) (ps:List Part) (w:World) (hT:Tabs w) (hp:h0h w A c ps) (hn:n=ps.length) (hm:(flat ps).length≤2305843009213693952) (hpl:ps.length≤9223372036854775807) :
  Calls prog 130 #[.slice A n c] w fun e w'=>e=.returned (.agg (byts (shaL (flat ps))).toArray)∧Below w.heap.size w w':=by
 subst hn
 by_cases h0:0 < ps.length
 ·obtain⟨b,o,rfl,_⟩:=hp.sl.rd.get (i:=0) (by rw[List.length_map];exact h0)
  exact c1y b o c ps w hT hp hm hpl
 ·obtain rfl:ps=[]:=List.eq_nil_of_length_eq_zero (by omega)
  exact d1P A c w hT
theorem n0v (g n:Nat) (l b:List UInt8) (A:Option Addr) (c:Nat) (w:World) (hT:Cube w) (hd:Dgt w g l) (hs:Sl w A c (byts b)) (hA:0 < b.length→∀a,A=some a→a.block≠g) (hn:n=b.length) (hm:l.length+b.length≤4611686018427387904) :
  Calls prog 93 #[.pointer (some ⟨g,0,none⟩),.slice A n c] w fun e w'=>e=.returned (.tuple #[])∧Dgt w' g (l++b)∧w.grownBy w' (some g):=by
 subst hn
 exact l0l g l b A c w hT hd hs hA hm
theorem x0s {w:World} {A:Option Addr} {c:Nat} {l:List UInt8} (h:Sl w A c (byts l)):h0h (w.alloc (.cells #[.slice A l.length c] 61)) (some ⟨w.heap.size,0,none⟩) 1 [(A,c,l)]:=by
 have r:=Row.new w 61 [.slice A l.length c]
 refine⟨⟨Rd.row (ys:=[]) (by rw[List.append_nil];exact r),by simp,fun h=>by cases h⟩,fun p hp=>?_⟩
 obtain rfl:p=(A,c,l):=by simpa using hp
 exact h.later (f1F _) ((Below.refl _ w).alloc (f1F _) _)
theorem r0z (A:Option Addr) (c:Nat) (l:List UInt8):flat [(A,c,l)]=l:=by unfold flat;simp
theorem q0k (A:Option Addr) (b o n c k:Nat) (hA:A=some ⟨b,o,none⟩) (hk:k < n) (w:World) :
  (Instr.indexAt 104 (.slice A n c) (.int .i64 k)).run prog w=.ok (.pointer (some ⟨b,o+k,none⟩)) w:=by
 subst hA
 have h:(k:Int) < (n:Int):=by omega
 go_simp
def g0j (k:List UInt8):List UInt8:=if k.length≤64 then k else shaL k
def keyL (k:List UInt8):List UInt8:=g0j k++List.replicate (64 - (g0j k).length) 0
def xorL (x:UInt8) (l:List UInt8):List UInt8:=l.map (· ^^^ x)
def macL (k l:List UInt8):List UInt8:=shaL (xorL 92 (keyL k)++shaL (xorL 54 (keyL k)++l))
theorem m0O (k:List UInt8):(g0j k).length≤64:=by
 unfold g0j
 split
 ·assumption
 ·rw[c0K];omega
theorem c0J (k:List UInt8):(keyL k).length=64:=by
 unfold keyL
 have:=m0O k
 rw[List.length_append,List.length_replicate];omega
theorem b0W (x:UInt8) (l:List UInt8):(xorL x l).length=l.length:=by unfold xorL;simp
theorem k0r (k l:List UInt8):(macL k l).length=32:=c0K _
theorem j0d (s:List UInt8):splice (List.replicate 64 (Value.int .u8 0)) 0 (byts s)=byts (s++List.replicate (64 - s.length) 0):=by
 unfold splice
 rw[List.take_zero,List.nil_append,Nat.zero_add,List.drop_replicate,a0h,i0u,a0b]
theorem n0l:(prog.info? 139).map (·.size)=some 64:=by kernel_rfl
theorem x0t {w:World} {A:Option Addr} {c:Nat} {l:List UInt8} (h:Sl w A c (byts l)) (X Y:Obj):h0h (((w.alloc X).alloc Y).alloc (.cells #[.slice A l.length c] 61)) (some ⟨w.heap.size+1+1,0,none⟩) 1 [(A,c,l)]:=by
 have h:=x0s (h.later (f1F _) (g0q w X Y))
 rw[World.size_alloc,World.size_alloc] at h
 exact h
theorem t0g (x:UInt8) (k:List UInt8) (j:Nat) (h:j < k.length):(xorL x (k.take j)++k.drop j).getD j 0=k.getD j 0:=by
 have hl:(xorL x (k.take j)).length=j:=by rw[b0W,List.length_take];omega
 rw[List.getD_eq_getElem?_getD,List.getElem?_append_right (by omega),hl,Nat.sub_self,List.getElem?_drop,Nat.add_zero,List.getD_eq_getElem?_getD]
theorem a1X (x:UInt8) (k:List UInt8) (j:Nat) (h:j < k.length):(xorL x (k.take j)++k.drop j).set j (k.getD j 0 ^^^ x)=xorL x (k.take (j+1))++k.drop (j+1):=by
 have hl:(xorL x (k.take j)).length=j:=by rw[b0W,List.length_take];omega
 have e:k.take (j+1)=k.take j++[k[j]]:=by rw[List.take_add_one];simp[h]
 have g:k.getD j 0=k[j]:=by simp[h]
 rw[List.set_append_right _ _ (by omega),hl,Nat.sub_self,List.drop_eq_getElem_cons h,List.set_cons_zero,e,g]
 unfold xorL
 rw[List.map_append,List.append_assoc]
 rfl
theorem y0G (A:Option Addr) (n c:Nat) (k:List UInt8) (w:World) (hT:Tabs w) (hs:Sl w A c (byts k)) (hn:n=k.length) (hm:k.length≤2305843009213693952) :
  Calls prog 91 #[.slice A n c] w fun e w'=>e=.returned (.agg (byts (keyL k)).toArray)∧Below w.heap.size w w':=by
 subst hn
 obtain⟨V,hVq⟩:∃V,V=byts (keyL k):=⟨_,rfl⟩
 have hVl:V.length=64:=by rw[hVq,a0b,c0J]
 have hone:=f1D (b0d (show ∀v∈V,v.oneCell'=true by rw[hVq];exact a0o _))
 have hsz:=f1D (show (prog.info? 139).map (·.size)=some V.toArray.size by rw[n0l,List.size_toArray,hVl])
 have hszo:=f1D (show (List.replicate 64 (Value.int .u8 0)).toArray.size=V.toArray.size by rw[List.size_toArray,List.size_toArray,List.length_replicate,hVl])
 have HV:=f1D hVq
 by_cases h64:k.length≤64
 ·have HSP:=f1D (show splice (List.replicate 64 (Value.int .u8 0)) 0 (byts k)=V by rw[hVq,j0d];unfold keyL g0j;rw[if_pos h64])
  have hcl:(byts k).length=Nat.min k.length 64:=by rw[a0b];show _=min _ _;omega
  have hle:=f1D (show (byts k).length≤64 by rw[a0b];exact h64)
  clear hVq hVl
  go_enter func91,ntmps91
  go_wp2_with (first
   | ((with_reducible refine wpList_copy_splice rfl (.tmp 8) (.tmp 9) 61 61 rfl 5 underlying61 sizeByte _ _ _ _ _ _ rfl rfl (w.heap.size+1) 0 _ _ (heap_alloc2_new w _ _) (byts k) hcl (fun h=>⟨rfl,(hs.later (f1F _) (g0q w _ _)).hpos h⟩) (by simpa using hle.out) (a0o _) (w.heap.size+1) _ (Below.refl _ _) (f1F _) ?_);intro w2 HG2 hB2;have R1:=f1D (show w2.heap[w.heap.size+1]?=some (.cells V.toArray 139 (0,0)) by rw[←HSP.out];exact HG2.out);have R0:=f1D (show w2.heap[w.heap.size]?=some (.cells (List.replicate 64 (Value.int .u8 0)).toArray 139 (0,0)) from (hB2.block _ (by omega)).trans (heap_alloc2_old w _ _));have hb2:=(g0q w _ _).trans (hB2.mono (by omega));clear HG2 hB2)
   | (with_reducible refine wpList_load_row rfl 139 (.tmp 3) rfl (w.heap.size+1) rfl 139 V.toArray (0,0) (.array 64 5) R1.out underlying139 rfl hsz.out ?_)
   | ((with_reducible refine wpList_store_row rfl 139 (.tmp 2) (.tmp 11) rfl w.heap.size V.toArray rfl rfl 139 _ R0.out hsz.out hszo.out hone.out ?_);have HG:=f1D (setRow_heap w2 w.heap.size _ V.toArray 139 (0,0) R0.out))
   | (with_reducible refine bodyPost_ret (results_cell_row rfl _ _ w.heap.size 139 V.toArray (0,0) (.array 64 5) rfl HG.out underlying139 rfl hsz.out) rfl ?_))
  exact⟨by rw[HV.out],below_setRow hb2 (f1F _) _⟩
 ·have HSP:=f1D (show splice (List.replicate 64 (Value.int .u8 0)) 0 (byts (shaL k))=V by rw[hVq,j0d];unfold keyL g0j;rw[if_neg h64])
  obtain⟨X,hX⟩:∃X,X=byts (shaL k):=⟨_,rfl⟩
  have hXl:X.length=32:=by rw[hX];exact c0Z
  have honeX:=f1D (b0d (show ∀v∈X,v.oneCell'=true by rw[hX];exact a0o _))
  have hszX:=f1D (show (prog.info? 23).map (·.size)=some X.toArray.size by rw[a0t,List.size_toArray,hXl])
  have h32:=f1D (show 32=X.toArray.size by rw[List.size_toArray,hXl])
  have HX:=f1D hX
  clear hVq hVl hX hXl
  go_enter func91,ntmps91
  go_wp2_with (first
   | (go_at_call 130;refine (d1N _ 1 1 [(A,c,k)] _ (hT.later ((g0q w _ _).alloc (by rw[World.size_alloc,World.size_alloc];omega) _) (f1F _)) (x0t hs _ _) rfl (by rw[r0z];exact hm) (by simp)).mono ?_;rintro e w3 ⟨rfl,hb3⟩;rw[r0z,←HX.out];obtain⟨e0,e1,hbA,hz3⟩:=r0d hb3;have r0:Row w3 w.heap.size 139 (List.replicate 64 (.int .u8 0)):=e0;have r1:Row w3 (w.heap.size+1) 139 (List.replicate 64 (.int .u8 0)):=e1;clear e0 e1 hb3)
   | (with_reducible refine wpList_store_row rfl 23 (.tmp 4) (.tmp 14) rfl w3.heap.size X.toArray rfl rfl 23 _ (heap_alloc_new w3 _) hszX.out (Eq.trans (by kernel_rfl) h32.out) honeX.out ?_;refine Hid.out ?_))
  refine f1D ?_
  generalize hw4:World.setRow _ _ _=w4
  obtain⟨r4,hb4⟩:=a0v (xs:=X) hw4
  rw[HX.out] at r4
  have r0:=r0.later hb4 r0.lt
  have r1:=r1.later hb4 r1.lt
  have hbB:=hbA.trans (hb4.mono hbA.size)
  have hsum:Sl w4 (some ⟨w3.heap.size,0,none⟩) 32 (byts (shaL k)):=⟨Rd.row (ys:=[]) (by rw[List.append_nil];exact r4),by rw[c0Z];exact f1F _,fun h=>by cases h⟩
  have hsum:=hsum.later (f1F _) ((Below.refl w4.heap.size w4).drew)
  have R1:=f1D (show w4.drew.heap[w.heap.size+1]?=some (.cells (List.replicate 64 (Value.int .u8 0)).toArray 139 (0,0)) from r1)
  clear hw4 r4 hb4 hbA r1
  go_wp2_with fail
  refine wp_region_noPanic ?_
  refine wp_region_held_drew (S:=fun _=>True) (by kernel_rfl) (trivial) (fun hHeld=>?_)
  refine rt 0 15 hHeld ?_
  refine rt 1 16 hHeld ?_
  refine rc1 2 fun K hK=>?_
  refine d0X (some 17) rfl (by rfl) (.tmp 15) (.tmp 16) 61 61 rfl 5 underlying61 sizeByte (w.heap.size+1) 0 64 64 _ 32 32 rfl rfl 139 _ (show Row _ _ _ _ from R1.out) (byts (shaL k)) 32 c0Z (by decide) hsum.rd.at_add (by rw[c0Z,List.length_replicate];decide) (a0o _) ?_;intro w6 hr6 hg6
  refine rk hK (trivial) fun _=>?_
  clear hK K
  refine wpAnyH_done (by kernel_rfl) ?_ _
  refine NoPanic.normal ?_
  rw[HSP.out] at hr6
  have R0:=f1D (show w6.heap[w.heap.size]?=some (.cells (List.replicate 64 (Value.int .u8 0)).toArray 139 (0,0)) from r0.drew.grown hg6 (by omega))
  have R1:=f1D (show w6.heap[w.heap.size+1]?=some (.cells V.toArray 139 (0,0)) from hr6)
  have hb6:=hbB.drew.grown hg6 hbB.size (fun k h=>by cases h;omega)
  clear hr6 hg6 hbB r0 hsum hHeld
  go_wp2_with (first
   | (with_reducible refine wpList_load_row rfl 139 (.tmp 3) rfl (w.heap.size+1) rfl 139 V.toArray (0,0) (.array 64 5) R1.out underlying139 rfl hsz.out ?_)
   | ((with_reducible refine wpList_store_row rfl 139 (.tmp 2) (.tmp 18) rfl w.heap.size V.toArray rfl rfl 139 _ R0.out hsz.out hszo.out hone.out ?_);have HG:=f1D (setRow_heap w6 w.heap.size _ V.toArray 139 (0,0) R0.out))
   | (with_reducible refine bodyPost_ret (results_cell_row rfl _ _ w.heap.size 139 V.toArray (0,0) (.array 64 5) rfl HG.out underlying139 rfl hsz.out) rfl ?_))
  exact⟨by rw[HV.out],below_setRow hb6 (f1F _) _⟩
theorem n0F (k:List UInt8) (hk:k.length=64) (x:UInt8) (w:World) (hT:Tabs w) :
  Calls prog 92 #[.agg (byts k).toArray,.int .u8 (x.toNat:Int)] w (j0O (xorL x k) w):=by
 go_enter func92,ntmps92
 go_wp2
 go_loopw [7] (fun i wr=>∃j:Nat,j≤64∧i=.int .i64 j∧Row wr w.heap.size 139 (byts (xorL x (k.take j)++k.drop j))∧Below w.heap.size w wr) (fun i _=>64 - (intOf i).toNat)
 case atStart=>exact⟨0,by omega,rfl,by simpa [xorL] using Row.new w 139 (byts k),(Below.refl _ w).alloc (f1F _) _⟩
 case round =>
  obtain⟨j,hj,rfl,hrow,hb⟩:=hrel
  by_cases hlt:j < 64
  ·have hl:(xorL x (k.take j)++k.drop j).length=64:=by rw[List.length_append,b0W,List.length_take,List.length_drop];omega
   have HS:=f1D (a1X x k j (by omega))
   have hc:wr.cell? ⟨w.heap.size,j,none⟩=some (.int .u8 ((k.getD j 0).toNat:Int)):=by
    rw[hrow.cell,c0d _ _ (by omega),t0g x k j (by omega)]
   have hfr:=hrow.free j
   have hx:=f0P (k.getD j 0) x
   generalize k.getD j 0=y at *
   go_wp2
   go_roundw
   case rel =>
    refine⟨j+1,by omega,by go_num,?_,hb.setCell (f1F _) _⟩
    rw[←HS.out,←g0Q,UInt8.toNat_xor]
    exact hrow.set j _
   case measure=>simp[intOf];omega
  ·have e64:j=64:=by omega
   have hl:(xorL x k).length=64:=by rw[b0W,hk]
   have el:xorL x (k.take j)++k.drop j=xorL x k:=by rw[List.take_of_length_le (by omega),List.drop_of_length_le (by omega),List.append_nil]
   rw[el] at hrow
   have HL:=f1D hl
   generalize xorL x k=m at *
   have hTr:=hT.later hb (f1F _)
   clear hT hk el hl
   go_wp2_with (first
    | (go_at_call 131;refine (q0r _ hTr).mono ?_;rintro e w1 ⟨g,rfl,hg1,hd1,hb1⟩;have hbA:=hb.trans (hb1.mono hb.size);have r1:=hrow.later hb1 hrow.lt;have hC1:=hTr.cu.later hb1 (f1F _);have hne:w.heap.size < g:=Nat.lt_of_lt_of_le hrow.lt hg1;clear hb1 hb hg1)
    | (go_at_call 93;refine (n0v g 64 [] m (some ⟨w.heap.size,0,none⟩) 64 _ hC1 hd1 ⟨Rd.row (ys:=[]) (by rw[List.append_nil];exact r1),by rw[a0b,HL.out];exact f1F _,fun h=>by cases h⟩ (fun _ a ha=>by cases ha;show w.heap.size≠g;omega) HL.out.symm (by rw[HL.out];decide)).mono ?_;rintro e w3 ⟨rfl,hd3,hg3⟩))
   go_ret
   exact⟨g,rfl,by omega,hd3,hbA.grown hg3 hbA.size (fun k h=>by cases h;omega)⟩
open Go.RowKit
def s0p (xs:List Int):List Value:=xs.map (Value.int .u32)
theorem q0S (w:World) :
  Calls prog 214 #[] w fun e w'=>e=.returned (.slice (some ⟨w.heap.size,0,none⟩) 64 64)∧Row w' w.heap.size 147 (s0p h0O)∧Below w.heap.size w w':=by
 go_enter func214,ntmps214
 go_wp2
 go_ret
 refine⟨rfl,heap_alloc_new w _,(Below.refl _ _).alloc (f1F _) _⟩
theorem t0h (xs:List Int) (i:Nat) (h:i < xs.length):(s0p xs)[i]?=some (.int .u32 (xs.getD i 0)):=by
 unfold s0p;simp[h]
theorem o0z:h0O.length=64:=rfl
theorem Row.cube {w:World} {g:Nat} {t:TypeId} (h:Row w g t (s0p h0O)) (i:Nat) (hi:i < 64):w.cell? ⟨g,i,none⟩=some (.int .u32 (h0O.getD i 0)):=by
 rw[h.cell,t0h _ _ (by rw[o0z];exact hi)]
end Go.Proofs.YtcbilopdeiapjaaGreatDoor
