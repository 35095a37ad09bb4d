import Derived.Test.YtimdhdimhboboaaGreatDoorRbaa
import Derived.Test.YtimdhdimhboboaaGreatDoorRbah
import Derived.Test.YtimdhdimhboboaaGreatDoorRbap
import Derived.Deep.Slices
import Derived.ChangeSame
import Derived.Test.YtimdhdimhboboaaGreatDoorRbbc
import Derived.Test.YtimdhdimhboboaaGreatDoorRbal
import Derived.Test.YtimdhdimhboboaaGreatDoorRbam
namespace Go.Proofs.YtimdhdimhboboaaGreatDoor
set_option maxRecDepth 100000
open Go.ChangeShapes Go.WideShapes Go.ChangeAt Go.RowKit
instance:Inhabited Cav:=⟨⟨false,[],0,[],[]⟩⟩
theorem n0f:Tryz.prog.cellsOf 29=5:=by kernel_rfl
theorem u0A:Tryz.prog.cellsOf 27=36:=by kernel_rfl
theorem n0g:Tryz.prog.cellsOf 23=32:=by kernel_rfl
theorem y0m:Tryz.prog.cellsOf 5=1:=by kernel_rfl
theorem n0h:Tryz.prog.cellsOf 24=1:=by kernel_rfl
theorem k0W:Tryz.prog.cellsOf 4=1:=by kernel_rfl
theorem r0V:Tryz.prog.cellsOf 25=1:=by kernel_rfl
section
variable {H:Type} {enc:TypeId×Value→H} {W:World} {held:Bool} {b1:Nat}
theorem i0R {P:Program} {e:TypeId} {ds:List (DataW H)} {d:DataW H} (h:d∈ds):∀n∈d.weights P e,n∈DataW.weightsAll P e ds:=by
 induction ds with
 | nil=>cases h
 | cons q ds ih =>
  intro n hn
  show n∈DataW.weights P e q++DataW.weightsAll P e ds
  rcases List.mem_cons.1 h with rfl | h
  ·exact List.mem_append_left _ hn
  ·exact List.mem_append_right _ (ih h n hn)
theorem len5 {α:Type} (l:List α) (h:l.length=5):∃a b c d e,l=[a,b,c,d,e]:=by
 match l,h with
 | [a,b,c,d,e],_=>exact⟨a,b,c,d,e,rfl⟩
theorem y0X {n:Nat} {cs:List Value} {x:DataW H×List MemPlace} (h:DataW.trod enc Tryz.prog W b1 (fun _=>true) held n 29 cs=some x) :
  ∃cv:Cav,cs=cavV cv∧cv.party < 18446744073709551616∧cv.text.length∈x.1.weights Tryz.prog 29∧cv.id.length∈x.1.weights Tryz.prog 29∧cv.vault.length∈x.1.weights Tryz.prog 29:=by
 obtain⟨xs,m,_,rfl,hcl,hxl,hf⟩:=DataW.trod_struct Tryz.underlying29 h
 rw[n0f] at hcl
 obtain⟨v0,v1,v2,v3,v4,rfl⟩:=len5 cs hcl
 obtain⟨y0,y1,y2,y3,y4,rfl⟩:=len5 xs hxl
 have g0:DataW.trod enc Tryz.prog W b1 (fun _=>true) held m 4 (([v0,v1,v2,v3,v4].drop 0).take (Tryz.prog.cellsOf 4))=some y0:=hf 0 _ rfl
 rw[k0W] at g0
 have g1:DataW.trod enc Tryz.prog W b1 (fun _=>true) held m 9 (([v0,v1,v2,v3,v4].drop 1).take (Tryz.prog.cellsOf 9))=some y1:=hf 1 _ rfl
 rw[h0x] at g1
 have g2:DataW.trod enc Tryz.prog W b1 (fun _=>true) held m 24 (([v0,v1,v2,v3,v4].drop 2).take (Tryz.prog.cellsOf 24))=some y2:=hf 2 _ rfl
 rw[n0h] at g2
 have g3:DataW.trod enc Tryz.prog W b1 (fun _=>true) held m 9 (([v0,v1,v2,v3,v4].drop 3).take (Tryz.prog.cellsOf 9))=some y3:=hf 3 _ rfl
 rw[h0x] at g3
 have g4:DataW.trod enc Tryz.prog W b1 (fun _=>true) held m 9 (([v0,v1,v2,v3,v4].drop 4).take (Tryz.prog.cellsOf 9))=some y4:=hf 4 _ rfl
 rw[h0x] at g4
 clear hf hcl hxl h
 obtain⟨b,e0,_⟩:=DataW.trod_bool Tryz.underlying4 g0
 obtain⟨s1,e1,q1,_⟩:=DataW.trod_string Tryz.underlying9 g1
 obtain⟨z,e2,_,hwf⟩:=DataW.trod_int Tryz.underlying24 g2
 obtain⟨s3,e3,q3,_⟩:=DataW.trod_string Tryz.underlying9 g3
 obtain⟨s4,e4,q4,_⟩:=DataW.trod_string Tryz.underlying9 g4
 have hb:=bounds_u64 hwf
 simp at e0 e1 e2 e3 e4
 subst e0 e1 e2 e3 e4 q1 q3 q4
 refine⟨⟨b,s1.data.toList,z.toNat,s3.data.toList,s4.data.toList⟩,?_,?_,?_,?_,?_⟩
 ·unfold cavV
  dsimp only
  rw[h0t,h0t,h0t,show ((z.toNat:Nat):Int)=z by omega]
 ·show z.toNat < _;omega
 all_goals
  simp only[DataW.weights,Tryz.underlying29,List.map_cons,List.map_nil,DataW.weightsEach,List.mem_append,List.mem_singleton]
  simp
theorem cut5 {α:Type} (l:List α):l=(l.drop 0).take 1++((l.drop 1).take 1++((l.drop 2).take 1++((l.drop 3).take 1++l.drop 4))):=by
 match l with
 | []=>rfl
 | [_]=>rfl
 | [_,_]=>rfl
 | [_,_,_]=>rfl
 | _ :: _ :: _ :: _ :: _=>rfl
theorem w0g {n:Nat} {cs:List Value} {x:DataW H×List MemPlace} (h:DataW.trod enc Tryz.prog W b1 (fun _=>true) held n 25 cs=some x) (hsz:∀k∈x.1.weights Tryz.prog 25,k≤reachBytes) :
  ∃(A:Option Addr) (c:Nat) (cvs:List Cav),cs=[.slice A cvs.length c]∧Sl W A (c*5) (cvs.flatMap cavV)∧cvs.length≤9223372036854775807∧(∀cv∈cvs,cv.party < 18446744073709551616) ∧
   ∀cv∈cvs,cv.text.length≤140737488351232∧cv.id.length≤140737488351232∧cv.vault.length≤140737488351232:=by
 rcases Deep.open_slice Tryz.underlying25 h with ⟨rfl,rfl⟩ | ⟨a,len,cap,m,k,D,Pl,rfl,_,hl,hm,hmm,rfl,hx⟩
 ·exact⟨none,0,[],rfl,⟨.inl rfl,Nat.le_refl _,fun _=>rfl⟩,by simp,(fun _ h=>by cases h),(fun _ h=>by cases h)⟩
 ·have hmc:m=cap:=by simpa using hmm
  unfold maxLen at hm
  have each:∀i,i < m→∃cv:Cav,(∀j,j < 5→W.cell? (a.add (i*5+j))=(cavV cv)[j]?)∧cv.party < 18446744073709551616∧cv.text.length∈(D i).weights Tryz.prog 29∧cv.id.length∈(D i).weights Tryz.prog 29∧cv.vault.length∈(D i).weights Tryz.prog 29:=by
   intro i hi
   obtain⟨cs',h1,h2⟩:=hx i hi
   rw[n0f] at h1
   obtain⟨cv,rfl,p1,p2,p3,p4⟩:=y0X h2
   obtain⟨_,_,hcell⟩:=World.cells?_some h1
   refine⟨cv,fun j hj=>?_,p1,p2,p3,p4⟩
   have:=hcell j hj
   rwa [Deep.add_add] at this
  obtain⟨Q,hQ⟩:=Deep.choose_lt each
  have hlen:((List.range len).map Q).length=len:=by simp
  refine⟨some a,cap,(List.range len).map Q,by rw[hlen],⟨?_,by rw[b0d,hlen];omega,fun h=>by cases h⟩,by rw[hlen];omega,fun cv hcv=>?_,fun cv hcv=>?_⟩
  ·by_cases h0:len=0
   ·subst h0;exact .inl rfl
   ·obtain⟨b,off,spot⟩:=a
    have hc0:=(hQ 0 (by omega)).1 0 (by omega)
    have hc0:W.cell? ((⟨b,off,spot⟩:Addr).add (0*5+0))=some (.bool (Q 0).third):=hc0
    have hspot:spot=none:=by simpa [Addr.add] using World.cell?_spot hc0
    subst hspot
    refine .inr ⟨b,off,rfl,?_,fun i hi=>?_⟩
    ·have:=World.block_lt_of_cell? W _ hc0
     rw[Addr.add_lit] at this;exact this
    ·rw[b0d,hlen] at hi
     have hi5:i/5 < len:=by omega
     have hk:=(hQ (i/5) (by omega)).1 (i%5) (by omega)
     rw[Addr.add_lit,show off+(i/5*5+i%5)=off+i by omega] at hk
     have hfl:=u0T cavV 5 ((List.range len).map Q) (fun _ _=>rfl) (i/5) (Q (i/5)) (by simp[hi5]) (i%5) (by omega)
     rw[show i/5*5+i%5=i by omega] at hfl
     rw[hfl];exact hk
  ·obtain⟨i,hi,rfl⟩:=List.mem_map.1 hcv
   have hir:=List.mem_range.1 hi
   exact (hQ i (by omega)).2.1
  ·obtain⟨i,hi,rfl⟩:=List.mem_map.1 hcv
   have hir:=List.mem_range.1 hi
   have key:∀n∈(D i).weights Tryz.prog 29,n≤140737488351232:=by
    intro n hn
    have:=hsz n (by
     simp only[DataW.weights,Tryz.underlying25]
     exact List.mem_cons_of_mem _ (List.mem_append_left _ (i0R (List.mem_map.2 ⟨i,hi,rfl⟩) n hn)))
    unfold reachBytes at this
    exact this
   obtain⟨_,_,w1,w2,w3⟩:=hQ i (by omega)
   exact⟨key _ w1,key _ w2,key _ w3⟩
theorem y0Y {n:Nat} {cs:List Value} {x:DataW H×List MemPlace} (h:DataW.trod enc Tryz.prog W b1 (fun _=>true) held n 23 cs=some x):∃l:List UInt8,l.length=32∧cs=byts l:=by
 obtain⟨xs,m,_,_,hcl,hxl,hf⟩:=DataW.trod_array Tryz.underlying23 h
 rw[n0g] at hcl
 have hel:∀i,i < cs.length→∃z,cs[i]?=some (.int .u8 z)∧(Lit.int .u8 z).wf=true:=by
  intro i hi
  have h1:=hf i (by omega)
  rw[y0m,List.getElem?_eq_getElem (by omega)] at h1
  obtain⟨z,hc,_,hw⟩:=DataW.trod_int Tryz.underlying5 h1
  refine⟨z,?_,hw⟩
  have:=congrArg (·[0]?) hc
  simpa [List.getElem?_take,List.getElem?_drop] using this
 obtain⟨zs,h1,h2,h3⟩:=n0M (k:=.u8) cs hel
 obtain⟨l,q1,q2⟩:=l0V zs (fun j hj=>bounds_u8 (h3 j (by omega)))
 exact⟨l,by omega,by rw[h2,q2]⟩
theorem y0Z {n:Nat} {cs:List Value} {x:DataW H×List MemPlace} (h:DataW.trod enc Tryz.prog W b1 (fun _=>true) held n 27 cs=some x) (hsz:∀k∈x.1.weights Tryz.prog 27,k≤reachBytes) :
  ∃(t:Tok) (A:Option Addr) (c:Nat),cs=tokV t A c∧t.Ok∧t.Fit∧Sl W A (c*5) (t.cavs.flatMap cavV):=by
 obtain⟨xs,m,_,rfl,hcl,hxl,hf⟩:=DataW.trod_struct Tryz.underlying27 h
 rw[u0A] at hcl
 obtain⟨y0,y1,y2,y3,y4,rfl⟩:=len5 xs hxl
 have g0:DataW.trod enc Tryz.prog W b1 (fun _=>true) held m 24 ((cs.drop 0).take (Tryz.prog.cellsOf 24))=some y0:=hf 0 _ rfl
 have g1:DataW.trod enc Tryz.prog W b1 (fun _=>true) held m 9 ((cs.drop 1).take (Tryz.prog.cellsOf 9))=some y1:=hf 1 _ rfl
 have g2:DataW.trod enc Tryz.prog W b1 (fun _=>true) held m 25 ((cs.drop 2).take (Tryz.prog.cellsOf 25))=some y2:=hf 2 _ rfl
 have g3:DataW.trod enc Tryz.prog W b1 (fun _=>true) held m 4 ((cs.drop 3).take (Tryz.prog.cellsOf 4))=some y3:=hf 3 _ rfl
 have g4:DataW.trod enc Tryz.prog W b1 (fun _=>true) held m 23 ((cs.drop 4).take (Tryz.prog.cellsOf 23))=some y4:=hf 4 _ rfl
 rw[n0h] at g0
 rw[h0x] at g1
 rw[r0V] at g2
 rw[k0W] at g3
 rw[n0g,List.take_of_length_le (by rw[List.length_drop];omega)] at g4
 have hwe:∀k,(k∈y1.1.weights Tryz.prog 9∨k∈y2.1.weights Tryz.prog 25)→k≤reachBytes:=by
  intro k hk
  refine hsz k ?_
  simp only[DataW.weights,Tryz.underlying27,List.map_cons,List.map_nil,DataW.weightsEach,List.mem_append]
  rcases hk with hk | hk
  ·exact .inr (.inl hk)
  ·exact .inr (.inr (.inl hk))
 obtain⟨z,e0,_,hwf⟩:=DataW.trod_int Tryz.underlying24 g0
 obtain⟨s1,e1,q1,_⟩:=DataW.trod_string Tryz.underlying9 g1
 obtain⟨A,c,cvs,e2,hsl,hmany,hparty,hfit⟩:=w0g g2 (fun k hk=>hwe k (.inr hk))
 obtain⟨b,e3,_⟩:=DataW.trod_bool Tryz.underlying4 g3
 obtain⟨l,hl,e4⟩:=y0Y g4
 have hb:=bounds_u64 hwf
 refine⟨⟨z.toNat,s1.data.toList,cvs,b,l⟩,A,c,?_,⟨by show z.toNat < _;omega,hparty,hl⟩,⟨?_,hmany,hfit⟩,hsl⟩
 ·rw[cut5 cs,e0,e1,e2,e3,e4]
  unfold tokV tokH
  dsimp only
  rw[h0t,show ((z.toNat:Nat):Int)=z by omega]
  rfl
 ·have:=hwe s1.data.toList.length (.inl (by rw[q1];simp[DataW.weights]))
  unfold reachBytes at this
  exact this
end
set_option maxRecDepth 100000 in
theorem p0F {H:Type} {enc:TypeId×Value→H} {W:World} {held:Bool} {b0 b1:Nat} {r:Reach} {v:Value} {d:DataW H} {p:List MemPlace} {ts:List TypeId} {ds:List (DataW H)}
  (hv:Value.okWide Tryz.prog W r b0 27 v) (h:DataW.Trod enc Tryz.prog W b1 (fun _=>true) held 27 v d p) (hsz:(DataW.weightsEach Tryz.prog ts ds).all (·≤reachBytes)=true) {j:Nat} (ht:ts[j]?=some 27) (hd:ds[j]?=some d) :
  ∃(t:Tok) (A:Option Addr) (c:Nat),v=.agg (tokV t A c).toArray∧t.Ok∧t.Fit∧Sl W A (c*5) (t.cavs.flatMap cavV):=by
 simp only[Value.okWide,Tryz.underlying27] at hv
 obtain⟨cs,rfl,_,_⟩:=hv
 obtain⟨fuel,hf⟩:=h
 obtain⟨t,A,c,e,h1,h2,h3⟩:=y0Z hf (fun k hk=>of_decide_eq_true (List.all_eq_true.1 hsz k (DataW.weights_mem_each ht hd k hk)))
 refine⟨t,A,c,?_,h1,h2,h3⟩
 have e:cs.toList=tokV t A c:=e
 rw[←e]
def z0X:Value:=.agg (#[.int .u64 0,.string { data:=#[] },.slice none 0 0,.bool false]++Array.replicate 32 (.int .u8 0))
def d1r {H:Type} : DataW H:=.agg [.lit (.int .u64 0),.lit (.string []),.nil,.lit (.bool false),.agg (List.replicate 32 (.lit (.int .u8 0)))]
end Go.Proofs.YtimdhdimhboboaaGreatDoor
namespace Go.Proofs.YtimdhdimhboboaaGreatDoor
set_option maxRecDepth 100000
open Go Go.RowKit
set_option maxHeartbeats 400000 in
theorem o0A (s:List UInt8) (hs:s.length≤4000) (w:World):Calls Tryz.prog 33 #[.string (bstr s)] w (f0m (c0x s) w):=by
 have hzs:=a0f s
 have HE:=Lib.hid (fun t=>b0S t s)
 obtain⟨Z,hZ⟩:∃Z,Z=prdV f0Y none 0:=⟨_,rfl⟩
 have hZl0:Z.length=23:=by rw[hZ];exact a0Z _ j0r.net.a _ _
 have hzZ:=Lib.hid (show (Tryz.prog.info? 70).map (·.size)=some Z.toArray.size by rw[List.size_toArray,hZl0];exact c0F)
 have hZ1:=Lib.hid (show Z.toArray.all (·.oneCell')=true by rw[hZ];exact d0N _ _ _)
 have hZe:=Lib.hid (hZ.trans j0l)
 have hZd:=Lib.hid (show Z=prdV f0Y none 0 from hZ)
 have hZl:=Lib.hid hZl0
 obtain⟨w1,hw1⟩:∃w1,w1=w.alloc (.cells Z.toArray 70):=⟨_,rfl⟩
 have q1:Row w1 w.heap.size 70 Z:=by rw[hw1];exact Row.new w _ _
 have hb1:Below w.heap.size w w1:=by rw[hw1];exact (Below.refl _ w).alloc (Nat.le_refl _) _
 have HW:=Lib.hid (hw1.trans (show w.alloc (.cells Z.toArray 70)=w.alloc (.cells [Value.int .i64 0,.int .u64 0,.slice none 0 0,.string { data:=#[] },.bool false,.int .u8 0,.int .u8 0,.int .u8 0,.int .u8 0,.int .u8 0,.int .u8 0,.int .u8 0,.int .u8 0,.int .u8 0,.int .u8 0,.int .u8 0,.int .u8 0,.int .u8 0,.int .u8 0,.int .u8 0,.int .u8 0,.int .i64 0,.float .f64 0].toArray 70) by rw[hZe.out]))
 clear hw1 hZ hZl0
 have HNO:=Lib.hid (fun h=>p0d s h)
 have HAT:=Lib.hid (fun k hk h hn=>u0p s k hk h hn)
 have HIX:=Lib.hid (fun k (hk:k < s.length) w'=>a0Q s k hk w')
 have HCUT:=Lib.hid (fun k=>(show (bstr s).extract (k+1) s.length=bstr (s.drop (k+1)) by rw[a0y,List.take_of_length_le (by rw[List.length_drop];omega)]))
 have HPL:=Lib.hid (fun h=>s0S s h)
 have HPW:=Lib.hid (fun h1 h2=>p0K s h1 h2)
 have HPH:=Lib.hid (fun k j h1 h2 h3 h4 h5=>w0r s k j h1 h2 h3 h4 h5)
 have HPM:=Lib.hid (fun k h1 h2 h3=>s0T s k h1 h2 h3)
 obtain⟨S,hS⟩:∃S,S=bstr s:=⟨_,rfl⟩
 rw[←hS] at hzs HIX HCUT HE ⊢
 clear hS
 by_cases hlong:512 < s.length
 ·have hl':(512:Int) < (s.length:Int):=by omega
  go_enter Tryz.func33,Tryz.ntmps33
  have HX:=Lib.hid (HPL.out hlong)
  have Q2:=Lib.hid (show w1.heap[w.heap.size]?=some (.cells Z.toArray 70 (0,0)) from q1)
  go_wp2_with (have _t:=Q2;rw[←HW.out];refine wpList_store_row rfl 70 (.tmp 2) (.tmp 19) rfl w.heap.size Z.toArray rfl (by rw[hZe.out];rfl) 70 Z.toArray Q2.out hzZ.out rfl hZ1.out ?_;refine Hid.out ?_)
  refine Lib.hid ?_
  generalize hw8:World.setRow _ _ _=w8
  obtain⟨r8,hg8⟩:=a0z (show Row w1 w.heap.size 70 Z from Q2.out) hw8
  have hb8:=hb1.grown hg8 hb1.size (fun k h=>by cases h;exact Nat.le_refl _)
  have R8:=Lib.hid (show w8.heap[w.heap.size]?=some (.cells Z.toArray 70 (0,0)) from r8)
  clear hw8 r8 hg8 Q2
  go_wp2_with fail
  exact⟨rfl,_,a0g rfl _ _ w.heap.size 70 Z.toArray (0,0) _ rfl R8.out Tryz.underlying70 rfl hzZ.out _ rfl,none,0,by rw[HX.out,hZd.out];rfl,by rw[HX.out];exact i0t _,hb8⟩
 ·have hl':(s.length:Int)≤512:=by omega
  have hl2:s.length≤512:=by omega
  clear hlong
  go_enter Tryz.func33,Tryz.ntmps33
  go_wp2
  rw[←HW.out]
  clear HW
  go_loopw [4] (fun i wr=>∃k:Nat,k≤s.length∧i=.int .i64 k∧(∀j,j < k→s.getD j 0≠32)∧Row wr w.heap.size 70 Z∧Below w.heap.size w wr) (fun i _=>s.length - (intOf i).toNat)
  case atStart=>exact⟨0,Nat.zero_le _,rfl,fun j hj=>by omega,q1,hb1⟩
  case round =>
   clear q1 hb1
   obtain⟨k,hk,rfl,hz,q1,hb1⟩:=hrel
   by_cases hlt:k < s.length
   ·have hlt':(k:Int) < (s.length:Int):=by omega
    have hix:=HIX.out k hlt
    by_cases hx:s.getD k 0=32
    ·have HBL:=Lib.hid (HAT.out k hlt hx hz)
     rw[hx] at hix
     have hix:∀w,(Instr.index 9 (.string S) (.int .i64 (k:Int))).run Tryz.prog w=.ok (.int .u8 32) w:=hix
     have hcut:=HCUT.out k
     have HH:=Lib.hid (fun j h3 h4 h5=>HPH.out k j hl2 HBL.out h3 h4 h5)
     have HM:=Lib.hid (fun h=>HPM.out k hl2 HBL.out h)
     have hbl:(s.drop (k+1)).length≤600:=by rw[List.length_drop];omega
     have hks:(k:Int)+1≤(s.length:Int):=by omega
     have hwk:IntKind.i64.wrap ((k:Int)+1)=(k:Int)+1:=by rw[IntKind.wrap_i64];omega
     have hkn:((k:Int)+1).toNat=k+1:=by omega
     clear HPH HPM HBL HAT HNO HPL HPW HIX HCUT hz hx
     generalize s.drop (k+1)=b at *
     have hnum:=fun w'=>m0B b (by omega) w'
     have hnam:=fun w'=>o0w b (by omega) w'
     rw[show o0c (a0F b)=.tuple #[.int .u64 (((a0F b).getD 0:Nat):Int),.bool (a0F b).isSome] from rfl] at hnum
     unfold i0U at hnam
     have hnum:=Lib.hid hnum
     have hnam:=Lib.hid hnam
     have hnet:=fun w'=>o0z b (by omega) w'
     have hcst:=Lib.hid (fun w'=>s0m b (by omega) w')
     rw[o0h] at hnet
     have hnet:=Lib.hid hnet
     have HCA:=Lib.hid (fun A c w' h j hj=>a1F b hbl A c w' h j hj)
     have HC:=Lib.hid (u0y b)
     have hro:=(g0B b _ (i0X b 4 (by omega))).net
     rw[HC.out.2.2.2.2.1] at hro
     have hro:((b0p b).getD a0P).Ok:=hro
     generalize (a0F b).getD 0=n at *
     generalize (c0g b).getD []=l at *
     generalize (b0o b).getD 0=f at *
     obtain⟨r,hr⟩:∃r,r=(b0p b).getD a0P:=⟨_,rfl⟩
     rw[←hr] at hnet HC hro
     obtain⟨N,hN⟩:∃N,N=rngV r:=⟨_,rfl⟩
     have hNl:=Lib.hid (show N.length=18 by rw[hN];exact a0w _ hro.a)
     have hzN:=Lib.hid (show (Tryz.prog.info? 67).map (·.size)=some N.length by rw[hNl.out];exact c0f)
     have hzN2:=Lib.hid (show (Tryz.prog.info? 67).map (·.size)=some N.toArray.size by rw[List.size_toArray,hNl.out];exact c0f)
     have h18:=Lib.hid (show 18=N.toArray.size by rw[List.size_toArray,hNl.out])
     have hN1:=Lib.hid (show N.toArray.all (·.oneCell')=true by rw[hN];exact d0d _)
     have HN:=Lib.hid hN
     rw[←hN] at hnet
     clear hr hN hro hbl
     generalize hBB:bstr b=B at *
     have HB:=Lib.hid hBB
     clear hBB
     go_wp2_with (first
      | (go_at_call 51;refine (hnum.out _).mono ?_;rintro e w2 ⟨rfl,hq2⟩;have q2:=q1.later hq2 q1.lt;have hb2:=hb1.trans (hq2.mono hb1.size))
      | (go_at_call 52;refine (hnam.out _).mono ?_;rintro e w3 ⟨A,c,rfl,sl3,hap,hq3⟩;have hap:=Lib.hid (hap _ q2.lt);have q3:=q2.later hq3 q2.lt;have hb3:=hb2.trans (hq3.mono hb2.size))
      | (go_at_call 53;refine (hnet.out _).mono ?_;rintro e w4 ⟨rfl,hq4⟩;have q4:=q3.later hq4 q3.lt;have sl4:=sl3.later (Nat.le_refl _) hq4;have hb4:=hb3.trans (hq4.mono hb3.size))
      | (have _t:=hb4;refine wpList_store_row rfl 67 (.tmp 10) (.tmp 47) rfl w4.heap.size N.toArray rfl rfl 67 _ (heap_alloc_new w4 _) hzN2.out h18.out hN1.out ?_;refine Hid.out ?_))
     refine Lib.hid ?_
     generalize hw5:World.setRow _ _ _=w5
     obtain⟨r5,hb5'⟩:=a0p (xs:=N) hw5
     have q5:=q4.later hb5' q4.lt
     have sl5:=sl4.later (Nat.le_refl _) hb5'
     have hb5:=hb4.trans (hb5'.mono hb4.size)
     clear hw5 hb5' q1 q2 q3 q4 sl3 sl4 hix hcut hnum hnam hnet hb1 hb2 hb3 hb4 hq2 hq3 hq4
     generalize w4.heap.size=g at *
     go_wp2_with (first
      | (go_at_call 54;refine (hcst.out _).mono ?_;rintro e w6 ⟨rfl,hq6⟩;have q6:=q5.later hq6 q5.lt;have r6:=r5.later hq6 r5.lt;have sl6:=sl5.later (Nat.le_refl _) hq6;have hb6:=hb5.trans (hq6.mono hb5.size);refine Hid.out ?_))
     refine Lib.hid ?_
     clear q5 r5 sl5 hb5 hq6 hcst
     obtain⟨X,hX⟩:∃X:Nat→List Value,X=fun j=>prdV (d0h b j) (i0L A c j).1 (i0L A c j).2:=⟨_,rfl⟩
     have HXl:=Lib.hid (show ∀j,j < 6→(X j).length=23 by intro j hj;rw[hX];exact a0Z _ (HCA.out A c w6 sl6 j hj).ok.net.a _ _)
     have hB0:∀w',(Instr.build 70 #[(0,.int .i64 1),(1,.int .u64 (n:Int))]).run Tryz.prog w'=.ok (.agg (X 0).toArray) w':=by
      intro w';rw[hX];show _=Result.ok (Value.agg (prdV (d0h b 0) none 0).toArray) w';rw[HC.out.1];exact u0t n 1 w'
     have hB1:∀w',(Instr.build 70 #[(0,.int .i64 2),(1,.int .u64 (n:Int))]).run Tryz.prog w'=.ok (.agg (X 1).toArray) w':=by
      intro w';rw[hX];show _=Result.ok (Value.agg (prdV (d0h b 1) none 0).toArray) w';rw[HC.out.2.1];exact u0t n 2 w'
     have hB2:∀w',(Instr.build 70 #[(0,.int .i64 3),(2,.slice A l.length c)]).run Tryz.prog w'=.ok (.agg (X 2).toArray) w':=by
      intro w';rw[hX];show _=Result.ok (Value.agg (prdV (d0h b 2) A c).toArray) w';rw[HC.out.2.2.1];exact a1A A l c w'
     have hB3:∀w',(Instr.build 70 #[(0,.int .i64 4),(3,.string B)]).run Tryz.prog w'=.ok (.agg (X 3).toArray) w':=by
      intro w';rw[hX,←HB.out];show _=Result.ok (Value.agg (prdV (d0h b 3) none 0).toArray) w';rw[HC.out.2.2.2.1];exact a1B b w'
     have hB4:∀w',(Instr.build 70 #[(0,.int .i64 5),(4,.agg N.toArray)]).run Tryz.prog w'=.ok (.agg (X 4).toArray) w':=by
      intro w';rw[hX];show _=Result.ok (Value.agg (prdV (d0h b 4) none 0).toArray) w';rw[HC.out.2.2.2.2.1];refine (a1C N hNl.out w').trans ?_;rw[HN.out];rfl
     have hB5:∀w',(Instr.build 70 #[(0,.int .i64 6),(5,.float .f64 f)]).run Tryz.prog w'=.ok (.agg (X 5).toArray) w':=by
      intro w';rw[hX];show _=Result.ok (Value.agg (prdV (d0h b 5) none 0).toArray) w';rw[HC.out.2.2.2.2.2];exact a1D f w'
     have HXe:=Lib.hid (show ∀j,X j=prdV (d0h b j) (i0L A c j).1 (i0L A c j).2 by intro j;rw[hX])
     obtain⟨R,hR1,hR2,hR3⟩:=x0d X HXl.out
     have HR2:=Lib.hid hR2
     have HR3:=Lib.hid hR3
     have HB0:=Lib.hid hB0
     have HB1:=Lib.hid hB1
     have HB2:=Lib.hid hB2
     have HB3:=Lib.hid hB3
     have HB4:=Lib.hid hB4
     have HB5:=Lib.hid hB5
     clear hX hR1 hR2 hR3 hB0 hB1 hB2 hB3 hB4 hB5
     go_wp2_with (first
      | (refine b0a rfl 70 0 1 _ _ rfl (.int .i64 1) (.int .u64 (n:Int)) (.agg (X 0).toArray) rfl rfl (HB0.out _) ?_)
      | (refine b0a rfl 70 0 1 _ _ rfl (.int .i64 2) (.int .u64 (n:Int)) (.agg (X 1).toArray) rfl rfl (HB1.out _) ?_)
      | (refine b0a rfl 70 0 2 _ _ rfl (.int .i64 3) (.slice A l.length c) (.agg (X 2).toArray) rfl rfl (HB2.out _) ?_)
      | (refine b0a rfl 70 0 3 _ _ rfl (.int .i64 4) (.string B) (.agg (X 3).toArray) rfl rfl (HB3.out _) ?_)
      | (with_reducible refine wpList_load_mid rfl 67 (.tmp 10) rfl g 0 rfl N _ (a0m r6) Tryz.underlying67 rfl hzN.out ?_)
      | (refine b0a rfl 70 0 4 _ _ rfl (.int .i64 5) (.agg N.toArray) (.agg (X 4).toArray) rfl rfl (HB4.out _) ?_)
      | (refine b0a rfl 70 0 5 _ _ rfl (.int .i64 6) (.float .f64 f) (.agg (X 5).toArray) rfl rfl (HB5.out _) ?_)
      | (refine m0O rfl 99 6 [_,_,_,_,_,_] rfl [(0,.agg (X 0).toArray),(1,.agg (X 1).toArray),(2,.agg (X 2).toArray),(3,.agg (X 3).toArray),(4,.agg (X 4).toArray),(5,.agg (X 5).toArray)] rfl _ (HR2.out _) ?_;refine Hid.out ?_))
     refine Lib.hid ?_
     obtain⟨w7,hw7⟩:∃w7,w7=w6.alloc (.cells R.toArray 70):=⟨_,rfl⟩
     rw[←hw7]
     have s7:Row w7 w6.heap.size 70 R:=by rw[hw7];exact Row.new _ _ _
     have hb7':Below w6.heap.size w6 w7:=by rw[hw7];exact (Below.refl _ _).alloc (Nat.le_refl _) _
     have q7:=q6.later hb7' q6.lt
     have sl7:=sl6.later (Nat.le_refl _) hb7'
     have hb7:=hb6.trans (hb7'.mono hb6.size)
     clear hw7 hb7' q6 r6 sl6 hb6 HB0 HB1 HB2 HB3 HB4 HB5 HR2
     generalize w6.heap.size=gs at *
     go_wp2
     go_loopw [68] (fun i wr2=>∃j:Nat,j≤6∧i=.int .i64 j∧(∀i,i < j→c0p (d0h b i)≠s)∧Row wr2 w.heap.size 70 Z∧Row wr2 gs 70 R∧Sl wr2 A c (a0I l)∧Below w.heap.size w wr2) (fun i _=>6 - (intOf i).toNat)
     case atStart=>exact⟨0,Nat.zero_le _,rfl,fun j hj=>by omega,q7,s7,sl7,hb7⟩
     case round =>
      clear q7 s7 sl7 hb7
      obtain⟨j,hj,rfl,hz,q7,s7,sl7,hb7⟩:=hrel
      by_cases hlt6:j < 6
      ·have hlt6':(j:Int) < 6:=by omega
       have hix:∀W,(Instr.indexAt 99 (.slice (some ⟨gs,0,none⟩) 6 6) (.int .i64 (j:Int))).run Tryz.prog W=.ok (.pointer (some ⟨gs,j*23,none⟩)) W:=by
        intro W
        have:=v0s (some ⟨gs,0,none⟩) gs 0 6 6 j rfl hlt6 W
        rw[Nat.zero_add] at this;exact this
       have hrg:wr.rangeAt gs (j*23) (X j):=fun i v hv=>by
        rw[s7.cell];exact HR3.out j hlt6 i v hv
       have hpa:=HCA.out A c wr sl7 j hlt6
       have htx:=fun w' (h:Below wr.heap.size wr w')=>q0d (d0h b j) (i0L A c j).1 (i0L A c j).2 w' (hpa.later (Nat.le_refl _) h)
       rw[←HXe.out j] at htx
       have heq:=HE.out (c0p (d0h b j))
       have HHJ:=Lib.hid (HH.out j hlt6 hz)
       have hXl:=HXl.out j hlt6
       have hXe:=HXe.out j
       have hX1:=Lib.hid (show (X j).toArray.all (·.oneCell')=true by rw[hXe];exact d0N _ _ _)
       have htx:=Lib.hid htx
       have HPA:=Lib.hid hpa
       have HEX:=Lib.hid hXe
       generalize X j=Y at *
       have hzY:=Lib.hid (show (Tryz.prog.info? 70).map (·.size)=some Y.length by rw[hXl];exact c0F)
       have hzY2:=Lib.hid (show (Tryz.prog.info? 70).map (·.size)=some Y.toArray.size by rw[List.size_toArray,hXl];exact c0F)
       have h23:=Lib.hid (show 23=Y.toArray.size by rw[List.size_toArray,hXl])
       have hZY:=Lib.hid (show Z.toArray.size=Y.toArray.size by rw[List.size_toArray,List.size_toArray,hXl,hZl.out])
       have HZZ:=Lib.hid hz
       have HRG:=Lib.hid hrg
       clear hXl hXe hz hpa hrg
       go_wp2_with (first
        | (with_reducible refine wpList_load_mid rfl 70 (.tmp 70) rfl gs (j*23) rfl Y _ HRG.out Tryz.underlying70 rfl hzY.out ?_)
        | (refine wpList_store_row rfl 70 (.tmp 15) (.tmp 71) rfl wr.heap.size Y.toArray rfl rfl 70 _ (heap_alloc_new wr _) hzY2.out h23.out hX1.out ?_;refine Hid.out ?_))
       refine Lib.hid ?_
       generalize hw9:World.setRow _ _ _=w9
       obtain⟨r9,hb9'⟩:=a0p (xs:=Y) hw9
       have q9:=q7.later hb9' q7.lt
       have s9:=s7.later hb9' s7.lt
       have sl9:=sl7.later (Nat.le_refl _) hb9'
       have hb9:=hb7.trans (hb9'.mono hb7.size)
       have hpa:=HPA.out.later (Nat.le_refl _) hb9'
       have HTX:=Lib.hid (htx.out w9 hb9')
       clear htx hw9 hb9' q7 s7 sl7 hb7 hix HRG HPA
       generalize wr.heap.size=g9 at *
       go_wp2_with (first
        | (with_reducible refine wpList_load_mid rfl 70 (.tmp 15) rfl g9 0 rfl Y _ (a0m r9) Tryz.underlying70 rfl hzY.out ?_)
        | (go_at_call 55;refine HTX.out.mono ?_;rintro e w10 ⟨rfl,hq10⟩;have r10:=r9.later hq10 r9.lt;have q10:=q9.later hq10 q9.lt;have s10:=s9.later hq10 s9.lt;have sl10:=sl9.later (Nat.le_refl _) hq10;have hpa:=hpa.later (Nat.le_refl _) hq10;have hb10:=hb9.trans (hq10.mono hb9.size);clear r9 q9 s9 sl9 hb9;refine Hid.out ?_))
       refine Lib.hid ?_
       clear HTX hq10
       by_cases hT:c0p (d0h b j)=s
       ·have HX:=Lib.hid (HHJ.out hT)
        rw[decide_eq_true hT] at heq
        have Q2:=Lib.hid (show w10.heap[w.heap.size]?=some (.cells Z.toArray 70 (0,0)) from q10)
        have HPA:=Lib.hid hpa
        clear hT HZZ q10 s10 sl10 hpa
        generalize bstr (c0p (d0h b j))=TX at *
        go_wp2_with (first
         | (with_reducible refine wpList_load_mid rfl 70 (.tmp 15) rfl g9 0 rfl Y _ (a0m r10) Tryz.underlying70 rfl hzY.out ?_)
         | (with_reducible refine wpList_store_row rfl 70 (.tmp 2) (.tmp 76) rfl w.heap.size Y.toArray rfl rfl 70 Z.toArray Q2.out hzY2.out hZY.out hX1.out ?_;refine Hid.out ?_))
        refine Lib.hid ?_
        generalize hw8:World.setRow _ _ _=w8
        obtain⟨r8,hg8⟩:=a0z (show Row w10 w.heap.size 70 Z from Q2.out) hw8
        have hb8:=hb10.grown hg8 hb10.size (fun k h=>by cases h;exact Nat.le_refl _)
        have hpa:=HPA.out.apart hg8 (p0a A c j _ hap.out)
        have R8:=Lib.hid (show w8.heap[w.heap.size]?=some (.cells Y.toArray 70 (0,0)) from r8)
        clear hw8 r8 hg8 Q2
        go_wp2_with fail
        exact⟨rfl,_,a0g rfl _ _ w.heap.size 70 Y.toArray (0,0) _ rfl R8.out Tryz.underlying70 rfl hzY2.out _ rfl,(i0L A c j).1,(i0L A c j).2,by rw[HX.out,HEX.out];rfl,by rw[HX.out];exact hpa,hb8⟩
       ·have HZ:=Lib.hid (show ∀i:Nat,i < j+1→c0p (d0h b i)≠s from fun i hi=>by
         by_cases e:i=j
         ·rw[e];exact hT
         ·exact HZZ.out i (by omega))
        rw[decide_eq_false hT] at heq
        clear hT HZZ HHJ
        generalize bstr (c0p (d0h b j))=TX at *
        go_wp2
        go_roundw
        case rel=>exact⟨j+1,by omega,by go_num,HZ.out,q10,s10,sl10,hb10⟩
        case measure=>simp[intOf];omega
      ·obtain rfl:j=6:=by omega
       have HZ:=Lib.hid hz
       clear hz
       have HX:=Lib.hid (HM.out HZ.out)
       have Q2:=Lib.hid (show wr.heap[w.heap.size]?=some (.cells Z.toArray 70 (0,0)) from q7)
       go_wp2_with (have _t:=Q2;refine wpList_store_row rfl 70 (.tmp 2) (.tmp 78) rfl w.heap.size Z.toArray rfl (by rw[hZe.out];rfl) 70 Z.toArray Q2.out hzZ.out rfl hZ1.out ?_;refine Hid.out ?_)
       refine Lib.hid ?_
       generalize hw8:World.setRow _ _ _=w8
       obtain⟨r8,hg8⟩:=a0z (show Row wr w.heap.size 70 Z from Q2.out) hw8
       have hb8:=hb7.grown hg8 hb7.size (fun k h=>by cases h;exact Nat.le_refl _)
       have R8:=Lib.hid (show w8.heap[w.heap.size]?=some (.cells Z.toArray 70 (0,0)) from r8)
       clear hw8 r8 hg8 Q2
       go_wp2_with fail
       exact⟨rfl,_,a0g rfl _ _ w.heap.size 70 Z.toArray (0,0) _ rfl R8.out Tryz.underlying70 rfl hzZ.out _ rfl,none,0,by rw[HX.out,hZd.out];rfl,by rw[HX.out];exact i0t _,hb8⟩
    ·have hx2:((s.getD k 0).toNat:Int)≠32:=by
      intro h
      exact hx (UInt8.toNat_inj.1 (by show _=32;omega))
     generalize hxx:(s.getD k 0).toNat=x at *
     have HXX:=Lib.hid hx
     clear hx hxx
     go_wp2
     go_roundw
     case rel=>exact⟨k+1,by omega,by go_num,fun j hj=>by
      by_cases h:j < k
      ·exact hz j h
      ·obtain rfl:j=k:=by omega
       exact HXX.out,q1,hb1⟩
     case measure=>simp[intOf];omega
   ·obtain rfl:k=s.length:=by omega
    have HZ0:=Lib.hid hz
    clear hz
    have HX:=Lib.hid (HPW.out hl2 (HNO.out HZ0.out))
    have Q2:=Lib.hid (show wr.heap[w.heap.size]?=some (.cells Z.toArray 70 (0,0)) from q1)
    go_wp2_with (have _t:=Q2;refine wpList_store_row rfl 70 (.tmp 2) (.tmp 79) rfl w.heap.size Z.toArray rfl (by rw[hZe.out];rfl) 70 Z.toArray Q2.out hzZ.out rfl hZ1.out ?_;refine Hid.out ?_)
    refine Lib.hid ?_
    generalize hw8:World.setRow _ _ _=w8
    obtain⟨r8,hg8⟩:=a0z (show Row wr w.heap.size 70 Z from Q2.out) hw8
    have hb8:=hb1.grown hg8 hb1.size (fun k h=>by cases h;exact Nat.le_refl _)
    have R8:=Lib.hid (show w8.heap[w.heap.size]?=some (.cells Z.toArray 70 (0,0)) from r8)
    clear hw8 r8 hg8 Q2
    go_wp2_with fail
    exact⟨rfl,_,a0g rfl _ _ w.heap.size 70 Z.toArray (0,0) _ rfl R8.out Tryz.underlying70 rfl hzZ.out _ rfl,none,0,by rw[HX.out,hZd.out];rfl,by rw[HX.out];exact i0t _,hb8⟩
def i0y (t:Tok) (s:List UInt8):Int:=if t.bound=true then 6 else if (c0x s).isSome=true then b0K t (b0m s) else 2
def attT (t:Tok) (s:List UInt8):Tok:=if i0y t s=0 then d0L t (b0m s) else d0j
theorem r0T (s:List UInt8):(capB (b0m s)).length≤12+s.length*12:=by
 have h:(capB (b0m s)).length=(c0I (3,s)++([]:List UInt8)).length:=rfl
 have h2:=c0a s.length
 rw[h,List.append_nil,d0a]
 show 1+(varL s.length).length+s.length≤_
 omega
set_option maxHeartbeats 8000000 in
theorem z0A (t:Tok) (ht:t.Ok) (s:List UInt8) (hl:s.length≤4000) (hm:t.cavs.length≤1000000) (A:Option Addr) (c:Nat) (w:World) (hs:Sl w A (c*5) (t.cavs.flatMap cavV)) :
  Calls Tryz.prog 20 #[.agg (tokV t A c).toArray,.string (bstr s)] w (d0z (attT t s) (i0y t s) w):=by
 obtain⟨Z,hZ⟩:∃Z,Z=tokV d0j none 0:=⟨_,rfl⟩
 have hZl:Z.length=36:=by rw[hZ];exact a0u d0p none 0
 have hZe:=Lib.hid (hZ.trans ztok)
 have hzZ:=Lib.hid (show (Tryz.prog.info? 27).map (·.size)=some Z.toArray.size by rw[List.size_toArray,hZl];exact a0T)
 have hZ1:=Lib.hid (show Z.toArray.all (·.oneCell')=true by rw[hZ,List.all_toArray,List.all_eq_true];exact b0W _ _ _)
 obtain⟨X,hX⟩:∃X,X=tokV t A c:=⟨_,rfl⟩
 have hXl:X.length=36:=by rw[hX];exact a0u ht A c
 have hzX2:=Lib.hid (show (Tryz.prog.info? 27).map (·.size)=some X.toArray.size by rw[List.size_toArray,hXl];exact a0T)
 obtain⟨w1,hw1⟩:∃w1,w1=(w.alloc (.cells X.toArray 27)).alloc (.cells Z.toArray 27):=⟨_,rfl⟩
 obtain⟨r1,r2,hb1⟩:=f0F hw1.symm
 have HW:=Lib.hid (hw1.trans (by rw[hZe.out]))
 have hc3:w1.cell? ⟨w.heap.size,3,none⟩=some (.bool t.bound):=by rw[r1.cell,hX];rfl
 have hadd:=Lib.hid (show ∀w',Sl w' A (c*5) (t.cavs.flatMap cavV)→Calls Tryz.prog 15 #[.agg X.toArray,.agg #[.bool false,.string (bstr s),.int .u64 0,.string { data:=#[] },.string { data:=#[] }]] w' (d0z (addT t (b0m s)) (b0K t (b0m s)) w') by
  rw[hX];exact fun w' h=>z0y t ht (b0m s) (by show (0:Nat) < _;decide) (by have:=r0T s;omega) hm A c w' h)
 have ts:=hs.later (Nat.le_refl _) hb1
 have HZ:=Lib.hid hZ
 have Q2:=Lib.hid (show w1.heap[w.heap.size+1]?=some (.cells Z.toArray 27 (0,0)) from r2)
 have HE:=Lib.hid (show i0y t s=if t.bound=true then 6 else if (c0x s).isSome=true then b0K t (b0m s) else 2 from rfl)
 have HG:=Lib.hid (show attT t s=if i0y t s=0 then d0L t (b0m s) else d0j from rfl)
 have HA:=Lib.hid (show addT t (b0m s)=if b0K t (b0m s)=0 then d0L t (b0m s) else d0j from rfl)
 rw[←hX]
 have tok1:True:=trivial
 clear hw1 hZ hX hs
 generalize i0y t s=er at *
 generalize attT t s=U at *
 cases hbd:t.bound with
 | true =>
  rw[hbd] at hc3 HE
  have e1:er=6:=HE.out.trans (if_pos rfl)
  have e2:U=d0j:=by rw[HG.out,e1];rfl
  have E1:=Lib.hid e1
  have E2:=Lib.hid e2
  clear e1 e2 HE HG r1 r2 ts hadd HA hZl hXl
  go_enter Tryz.func20,Tryz.ntmps20
  go_wp2_with (first
   | (have _t:=tok1;rw[←HW.out];clear tok1)
   | (have _t:=Q2;refine wpList_store_row rfl 27 (.tmp 4) (.tmp 10) rfl (w.heap.size+1) Z.toArray rfl (by rw[hZe.out];rfl) 27 Z.toArray Q2.out hzZ.out rfl hZ1.out ?_;refine Hid.out ?_))
  refine Lib.hid ?_
  generalize hw8:World.setRow _ _ _=w8
  obtain⟨r8,hg8⟩:=a0z (show Row w1 (w.heap.size+1) 27 Z from Q2.out) hw8
  have hb8:=hb1.grown hg8 hb1.size (fun k h=>by cases h;omega)
  have R8:=Lib.hid (show w8.heap[w.heap.size+1]?=some (.cells Z.toArray 27 (0,0)) from r8)
  clear hw8 r8 Q2
  go_wp2_with fail
  exact⟨rfl,_,a0g rfl _ _ (w.heap.size+1) 27 Z.toArray (0,0) _ rfl R8.out Tryz.underlying27 rfl hzZ.out _ rfl,none,0,by rw[E2.out,E1.out,HZ.out];rfl,by rw[E2.out];exact d0O _,(fun a h=>by cases h),hb8⟩
 | false =>
  rw[hbd] at hc3 HE
  have hpa:=Lib.hid (show ∀w',Calls Tryz.prog 33 #[.string (bstr s)] w' (f0m (c0x s) w') from fun w'=>o0A s hl w')
  unfold f0m at hpa
  generalize hx:(c0x s).getD f0Y=x at *
  generalize hok:(c0x s).isSome=ok at *
  have R1:=Lib.hid (show w1.heap[w.heap.size]?=some (.cells X.toArray 27 (0,0)) from r1)
  clear hZl hXl
  go_enter Tryz.func20,Tryz.ntmps20
  go_wp2_with (first
   | (have _t:=tok1;rw[←HW.out];clear tok1)
   | (go_at_call 33;refine (hpa.out _).mono ?_;rintro e w2 ⟨A2,c2,rfl,ax,hq⟩;have hlx:=a0Z x ax.ok.net.a A2 c2;have hzP:=Lib.hid (show (Tryz.prog.info? 70).map (·.size)=some (prdV x A2 c2).toArray.size by rw[List.size_toArray,hlx];exact c0F);have h23:=Lib.hid (show 23=(prdV x A2 c2).toArray.size by rw[List.size_toArray,hlx]);have hP1:=Lib.hid (d0N x A2 c2);clear hlx)
   | (have _t:=hzP;refine wpList_store_row rfl 70 (.tmp 6) (.tmp 14) rfl w2.heap.size (prdV x A2 c2).toArray rfl rfl 70 _ (heap_alloc_new w2 _) hzP.out h23.out hP1.out ?_;refine Hid.out ?_))
  refine Lib.hid ?_
  generalize hww:World.setRow _ _ _=w3
  obtain⟨x1,hq3⟩:=a0p (xs:=prdV x A2 c2) hww
  have hq:=hq.trans (hq3.mono hq.size)
  have r1:=r1.later hq r1.lt
  have r2:=r2.later hq r2.lt
  have ts:=ts.later (Nat.le_refl _) hq
  have hb1:=hb1.trans (hq.mono hb1.size)
  have R1:=Lib.hid (show w3.heap[w.heap.size]?=some (.cells X.toArray 27 (0,0)) from r1)
  have Q2:=Lib.hid (show w3.heap[w.heap.size+1]?=some (.cells Z.toArray 27 (0,0)) from r2)
  generalize w2.heap.size=g2 at *
  clear hww hq hq3 x1 hpa hzP h23 hP1 ax hc3 HW hx
  generalize prdV x A2 c2=PV at *
  have HE:=Lib.hid (HE.out.trans (if_neg (by decide)))
  cases ok with
  | false =>
   have e1:er=2:=HE.out.trans (if_neg (by decide))
   have e2:U=d0j:=by rw[HG.out,e1];rfl
   have E1:=Lib.hid e1
   have E2:=Lib.hid e2
   clear e1 e2 HE HG r1 r2 ts hadd HA R1
   go_wp2_with (have _t:=Q2;refine wpList_store_row rfl 27 (.tmp 4) (.tmp 18) rfl (w.heap.size+1) Z.toArray rfl (by rw[hZe.out];rfl) 27 Z.toArray Q2.out hzZ.out rfl hZ1.out ?_;refine Hid.out ?_)
   refine Lib.hid ?_
   generalize hw8:World.setRow _ _ _=w8
   obtain⟨r8,hg8⟩:=a0z (show Row w3 (w.heap.size+1) 27 Z from Q2.out) hw8
   have hb8:=hb1.grown hg8 hb1.size (fun k h=>by cases h;omega)
   have R8:=Lib.hid (show w8.heap[w.heap.size+1]?=some (.cells Z.toArray 27 (0,0)) from r8)
   clear hw8 r8 Q2
   go_wp2_with fail
   exact⟨rfl,_,a0g rfl _ _ (w.heap.size+1) 27 Z.toArray (0,0) _ rfl R8.out Tryz.underlying27 rfl hzZ.out _ rfl,none,0,by rw[E2.out,E1.out,HZ.out];rfl,by rw[E2.out];exact d0O _,(fun a h=>by cases h),hb8⟩
  | true =>
   have e1:er=b0K t (b0m s):=HE.out.trans (if_pos rfl)
   have e2:U=addT t (b0m s):=by rw[HG.out,e1,HA.out]
   have hUo:(addT t (b0m s)).Ok:=by
    rw[HA.out];split
    ·exact h0D ht (by show (0:Nat) < _;decide)
    ·exact d0p
   rw[←e1,←e2] at hadd
   rw[←e2] at hUo
   clear e1 e2 HE HG HA
   unfold d0z at hadd
   have r2L:=Lib.hid r2.lt
   go_wp2_with (first
    | (with_reducible refine wpList_load_row rfl 27 (.tmp 2) rfl w.heap.size rfl 27 X.toArray (0,0) _ R1.out Tryz.underlying27 rfl hzX2.out ?_)
    | (go_at_call 15;refine (hadd.out _ ts).mono ?_;rintro e w4 ⟨B,d,rfl,s4,hap,hb4⟩;have r2:=r2.later hb4 r2.lt;have Q2:=Lib.hid (show w4.heap[w.heap.size+1]?=some (.cells Z.toArray 27 (0,0)) from r2);have hb4:=hb1.trans (hb4.mono hb1.size);have hVl:=a0u hUo B d;have hzV:=Lib.hid (show (Tryz.prog.info? 27).map (·.size)=some (tokV U B d).toArray.size by rw[List.size_toArray,hVl];exact a0T);have hV1:=Lib.hid (show (tokV U B d).toArray.all (·.oneCell')=true by rw[List.all_toArray,List.all_eq_true];exact b0W _ _ _);have hVZ:=Lib.hid (show Z.toArray.size=(tokV U B d).toArray.size by rw[List.size_toArray,List.size_toArray,hVl,HZ.out];exact a0u d0p none 0);clear hVl)
    | (have _t:=hb4;refine wpList_store_row rfl 27 (.tmp 4) (.tmp 23) rfl (w.heap.size+1) (tokV U B d).toArray rfl rfl 27 Z.toArray Q2.out hzV.out hVZ.out hV1.out ?_;refine Hid.out ?_))
   refine Lib.hid ?_
   generalize hw8:World.setRow _ _ _=w8
   obtain⟨r8,hg8⟩:=a0z (show Row w4 (w.heap.size+1) 27 Z from Q2.out) hw8
   have hb8:=hb4.grown hg8 hb4.size (fun k h=>by cases h;omega)
   have R8:=Lib.hid (show w8.heap[w.heap.size+1]?=some (.cells (tokV U B d).toArray 27 (0,0)) from r8)
   have hl3:=r2L.out
   have s8:=s4.apart hg8 (fun _ a ha=>by have:=hap a ha;omega)
   clear hw8 r8 Q2 hg8 s4
   go_wp2_with fail
   exact⟨rfl,_,a0g rfl _ _ (w.heap.size+1) 27 (tokV U B d).toArray (0,0) _ rfl R8.out Tryz.underlying27 rfl hzV.out _ rfl,B,d,rfl,s8,(fun a ha=>by have:=hap a ha;omega),hb8⟩
theorem b1Z (xs ys:List UInt8) (hx:xs.length=32) (hy:ys.length=32) (w:World):(Op.equalIn 10000 23 (.agg (byts xs).toArray) (.agg (byts ys).toArray)).run Tryz.prog w=.ok (decide (xs=ys)) w:=by
 obtain⟨i0,hi,_⟩:=info_parts infoByte
 exact g0v 23 32 i0 Tryz.underlying23 hi xs ys hx hy w
theorem t0v (a b:Cav) (w:World):(Op.equalIn 10000 29 (.agg (cavV a).toArray) (.agg (cavV b).toArray)).run Tryz.prog w=.ok (decide (a=b)) w:=by
 obtain⟨a1,a2,a3,a4,a5⟩:=a
 obtain⟨b1,b2,b3,b4,b5⟩:=b
 show (Op.equalIn 10000 29 (.agg #[.bool a1,.string (bstr a2),.int .u64 a3,.string (bstr a4),.string (bstr a5)]) (.agg #[.bool b1,.string (bstr b2),.int .u64 b3,.string (bstr b4),.string (bstr b5)])).run Tryz.prog w=_
 go_simp
 simp only[a0n]
 by_cases h1:a1=b1<;>by_cases h2:a2=b2<;>by_cases h3:a3=b3<;>by_cases h4:a4=b4<;>by_cases h5:a5=b5<;>simp[h1,h2,h3,h4,h5]
 all_goals omega
theorem x0t {cs ds:List Cav} {k:Nat} {a:Cav} (h:cs.take k=ds.take k) (ha:cs[k]?=some a) (hb:ds[k]?=some a):cs.take (k+1)=ds.take (k+1):=by
 rw[List.take_add_one,List.take_add_one,h,ha,hb]
set_option maxRecDepth 100000 in
set_option maxHeartbeats 4000000 in
theorem w0L (t u:Tok) (ht:t.Ok) (hu:u.Ok) (A:Option Addr) (c:Nat) (B:Option Addr) (d:Nat) (w:World) (hs:Sl w A (c*5) (t.cavs.flatMap cavV)) (hp:Sl w B (d*5) (u.cavs.flatMap cavV)) (hcl:t.cavs.length≤9223372036854775807) :
  Calls Tryz.prog 18 #[.agg (tokV t A c).toArray,.agg (tokV u B d).toArray] w fun e w'=>e=.returned (.bool (decide (t=u)))∧Below w.heap.size w w':=by
 have hgt:=g0Q t A c
 have hgu:=g0Q u B d
 obtain⟨V,hV⟩:∃V,V=tokV t A c:=⟨_,rfl⟩
 obtain⟨U,hU⟩:∃U,U=tokV u B d:=⟨_,rfl⟩
 obtain⟨r0,r1,hb1,hz⟩:=f0W (w:=w) (A:=V) (B:=U) (tA:=27) (tB:=27) rfl
 rw[←hV,←hU]
 have tt:=(x0A ht (by rw[←hV];exact r0)).range
 have tu:=(x0A hu (by rw[←hU];exact r1)).range
 rw[←hV] at hgt
 rw[←hU] at hgu
 clear hV hU hz
 have hzt:=Lib.hid (show (Tryz.prog.info? 23).map (·.size)=some (byts t.tag).length by rw[a0C,a0b,ht.tag])
 have hzu:=Lib.hid (show (Tryz.prog.info? 23).map (·.size)=some (byts u.tag).length by rw[a0C,a0b,hu.tag])
 have hE:=b1Z t.tag u.tag ht.tag hu.tag
 have hne:∀p:Prop,(t=u→p)→¬p→decide (t=u)=false:=fun p h1 h2=>decide_eq_false fun e=>h2 (h1 e)
 have c0:((w.alloc (.cells V.toArray 27)).alloc (.cells U.toArray 27)).cell? ⟨w.heap.size,0,none⟩=some (.int .u64 t.key):=by rw[r0.cell];exact hgt.1
 have c1:((w.alloc (.cells V.toArray 27)).alloc (.cells U.toArray 27)).cell? ⟨w.heap.size,1,none⟩=some (.string (bstr t.id)):=by rw[r0.cell];exact hgt.2.1
 have c2:((w.alloc (.cells V.toArray 27)).alloc (.cells U.toArray 27)).cell? ⟨w.heap.size,2,none⟩=some (.slice A t.cavs.length c):=by rw[r0.cell];exact hgt.2.2.1
 have c3:((w.alloc (.cells V.toArray 27)).alloc (.cells U.toArray 27)).cell? ⟨w.heap.size,3,none⟩=some (.bool t.bound):=by rw[r0.cell];exact hgt.2.2.2
 have d0:((w.alloc (.cells V.toArray 27)).alloc (.cells U.toArray 27)).cell? ⟨w.heap.size+1,0,none⟩=some (.int .u64 u.key):=by rw[r1.cell];exact hgu.1
 have d1:((w.alloc (.cells V.toArray 27)).alloc (.cells U.toArray 27)).cell? ⟨w.heap.size+1,1,none⟩=some (.string (bstr u.id)):=by rw[r1.cell];exact hgu.2.1
 have d2:((w.alloc (.cells V.toArray 27)).alloc (.cells U.toArray 27)).cell? ⟨w.heap.size+1,2,none⟩=some (.slice B u.cavs.length d):=by rw[r1.cell];exact hgu.2.2.1
 have d3:((w.alloc (.cells V.toArray 27)).alloc (.cells U.toArray 27)).cell? ⟨w.heap.size+1,3,none⟩=some (.bool u.bound):=by rw[r1.cell];exact hgu.2.2.2
 have hs1:=hs.later (Nat.le_refl _) hb1
 have hp1:=hp.later (Nat.le_refl _) hb1
 have hlt1:=r0.lt
 have hlt2:=r1.lt
 clear hgt hgu hs hp r0 r1
 go_enter Tryz.func18,Tryz.ntmps18
 by_cases hK:t.key=u.key
 ·have HK:=Lib.hid hK
  rw[←hK] at d0
  clear hK
  by_cases hI:t.id=u.id
  ·have HI:=Lib.hid hI
   rw[←hI] at d1
   clear hI
   by_cases hB:t.bound=u.bound
   ·have HB:=Lib.hid hB
    rw[←hB] at d3
    clear hB
    by_cases hT:t.tag=u.tag
    ·rw[decide_eq_true hT] at hE
     have HT:=Lib.hid hT
     clear hT
     by_cases hL:t.cavs.length=u.cavs.length
     ·have HL:=Lib.hid hL
      rw[←hL] at d2
      clear hL
      go_wp2_with (first
       | (refine wpList_step fun K hK=>?_;refine a0X (some 27) rfl (by rfl) 23 (.tmp 26) rfl w.heap.size 4 rfl (byts t.tag) _ tt Tryz.underlying23 rfl hzt.out ?_;refine hK _ _ ?_)
       | (refine wpList_step fun K hK=>?_;refine a0X (some 29) rfl (by rfl) 23 (.tmp 28) rfl (w.heap.size+1) 4 rfl (byts u.tag) _ tu Tryz.underlying23 rfl hzu.out ?_;refine hK _ _ ?_))
      have HEq:=Lib.hid (fun (h:t.cavs=u.cavs)=>(show t=u from (Tok.ext_iff' t u).2 ⟨HK.out,HI.out,h,HB.out,HT.out⟩))
      have HNe:=Lib.hid (fun (h:t.cavs≠u.cavs)=>hne (t.cavs=u.cavs) (fun e=>by rw[e]) h)
      generalize (w.alloc (.cells V.toArray 27)).alloc (.cells U.toArray 27)=w1 at *
      have hc2:∀w',Below w1.heap.size w1 w'→w'.cell? ⟨w.heap.size,2,none⟩=some (.slice A t.cavs.length c):=fun w' h=>by rw[h.cell (p:=⟨w.heap.size,2,none⟩) hlt1];exact c2
      have hd2:∀w',Below w1.heap.size w1 w'→w'.cell? ⟨w.heap.size+1,2,none⟩=some (.slice B t.cavs.length d):=fun w' h=>by rw[h.cell (p:=⟨w.heap.size+1,2,none⟩) hlt2];exact d2
      have hL:=HL.out
      clear c0 c1 c2 c3 d0 d1 d2 d3 hE hne HK HI HB HT tt tu hzt hzu HL
      generalize t.cavs=cs at *
      generalize u.cavs=ds at *
      go_loopw [44] (fun i wr=>∃k:Nat,k≤cs.length∧i=.int .i64 k∧cs.take k=ds.take k∧Below w1.heap.size w1 wr) (fun i _=>cs.length - (intOf i).toNat)
      case atStart=>exact⟨0,by omega,rfl,rfl,Below.refl _ _⟩
      case round =>
       obtain⟨k,hk,rfl,hsame,hb⟩:=hrel
       by_cases hlt:k < cs.length
       ·obtain⟨a,ha⟩:∃a,cs[k]?=some a:=⟨_,List.getElem?_eq_getElem hlt⟩
        obtain⟨e,he⟩:∃e,ds[k]?=some e:=⟨_,List.getElem?_eq_getElem (by omega)⟩
        obtain⟨b,o,rfl,hb0,hr0⟩:=hs1.rd.get (i:=0) (by rw[b0d];omega)
        clear hb0 hr0
        obtain⟨b',o',rfl,hb0,hr0⟩:=hp1.rd.get (i:=0) (by rw[b0d];omega)
        clear hb0 hr0
        have hix:=f0w (some ⟨b,o,none⟩) b o cs.length c k rfl hlt
        have hiy:=f0w (some ⟨b',o',none⟩) b' o' cs.length d k rfl hlt
        have hrx:=Lib.hid (show ∀w',Below w1.heap.size w1 w'→w'.rangeAt b (o+k*5) (cavV a) from fun w' h=>(hs1.later (Nat.le_refl _) h).thing (k:=5) (fun _ _=>rfl) k a ha)
        have hry:=Lib.hid (show ∀w',Below w1.heap.size w1 w'→w'.rangeAt b' (o' + k*5) (cavV e) from fun w' h=>(hp1.later (Nat.le_refl _) h).thing (k:=5) (fun _ _=>rfl) k e he)
        have hzx:=Lib.hid (show (Tryz.prog.info? 29).map (·.size)=some (cavV a).length from c0r)
        have hzy:=Lib.hid (show (Tryz.prog.info? 29).map (·.size)=some (cavV e).length from c0r)
        have hE:=t0v a e
        obtain⟨VX,hVX⟩:∃V,V=cavV a:=⟨_,rfl⟩
        obtain⟨VY,hVY⟩:∃V,V=cavV e:=⟨_,rfl⟩
        rw[←hVX] at hrx hzx hE
        rw[←hVY] at hry hzy hE
        clear hVX hVY
        by_cases hae:a=e
        ·have HS:=Lib.hid (x0t hsame ha (by rw[hae];exact he))
         rw[decide_eq_true hae] at hE
         clear hae ha he hsame hs1 hp1
         go_wp2_with fail
         refine wp_region_noPanic ?_
         refine wp_region_held_drew (S:=fun w'=>Below w1.heap.size w1 w') (by kernel_rfl) (hb.drew) (fun hHeld=>?_)
         refine rt 0 47 hHeld ?_
         refine rt 1 48 hHeld ?_
         refine rt 2 49 hHeld ?_
         refine rt 3 50 hHeld ?_
         refine rt 4 51 hHeld ?_ (hy:=by intro w hS;exact a0A 29 (.tmp 50) rfl b (o+k*5) rfl VX _ (hrx.out _ hS) Tryz.underlying29 rfl hzx.out)
         refine rt 5 52 hHeld ?_
         refine rt 6 53 hHeld ?_
         refine rt 7 54 hHeld ?_
         refine rt 8 55 hHeld ?_
         refine rt 9 56 hHeld ?_ (hy:=by intro w hS;exact a0A 29 (.tmp 55) rfl b' (o' + k*5) rfl VY _ (hry.out _ hS) Tryz.underlying29 rfl hzy.out)
         refine rt 10 57 hHeld ?_
         refine wpAnyH_done (by kernel_rfl) ?_ _
         refine NoPanic.normal ?_
         go_wp2_with fail
         go_roundw
         case rel=>exact⟨k+1,by omega,by go_num,HS.out,hHeld⟩
         case measure=>simp[intOf];omega
        ·have HF:=Lib.hid (HNe.out (fun h=>hae (by rw[h] at ha;rw[ha] at he;exact Option.some.inj he)))
         rw[decide_eq_false hae] at hE
         clear hae ha he hsame hs1 hp1
         go_wp2_with fail
         refine wp_region_noPanic ?_
         refine wp_region_held_drew (S:=fun w'=>Below w1.heap.size w1 w') (by kernel_rfl) (hb.drew) (fun hHeld=>?_)
         refine rt 0 47 hHeld ?_
         refine rt 1 48 hHeld ?_
         refine rt 2 49 hHeld ?_
         refine rt 3 50 hHeld ?_
         refine rt 4 51 hHeld ?_ (hy:=by intro w hS;exact a0A 29 (.tmp 50) rfl b (o+k*5) rfl VX _ (hrx.out _ hS) Tryz.underlying29 rfl hzx.out)
         refine rt 5 52 hHeld ?_
         refine rt 6 53 hHeld ?_
         refine rt 7 54 hHeld ?_
         refine rt 8 55 hHeld ?_
         refine rt 9 56 hHeld ?_ (hy:=by intro w hS;exact a0A 29 (.tmp 55) rfl b' (o' + k*5) rfl VY _ (hry.out _ hS) Tryz.underlying29 rfl hzy.out)
         refine rt 10 57 hHeld ?_
         refine wpAnyH_done (by kernel_rfl) ?_ _
         refine NoPanic.normal ?_
         go_wp2
         go_ret
         exact⟨by rw[HF.out];rfl,hb1.trans (hHeld.mono hb1.size)⟩
       ·obtain rfl:k=cs.length:=by omega
        rw[List.take_length,hL,List.take_length] at hsame
        have HF:=Lib.hid (decide_eq_true (HEq.out hsame))
        clear hlt hk hs1 hp1 hsame HEq HNe
        generalize cs.length=n at *
        go_wp2
        go_ret
        exact⟨by rw[HF.out];rfl,hb1.trans (hb.mono hb1.size)⟩
     ·have HE:=Lib.hid (hne (t.cavs.length=u.cavs.length) (fun e=>by rw[e]) hL)
      have hL':((t.cavs.length:Int)==(u.cavs.length:Int))=false:=by rw[beq_eq_false_iff_ne];omega
      clear hL hs1 hp1 hne
      go_wp2_with (first
       | (refine wpList_step fun K hK=>?_;refine a0X (some 27) rfl (by rfl) 23 (.tmp 26) rfl w.heap.size 4 rfl (byts t.tag) _ tt Tryz.underlying23 rfl hzt.out ?_;refine hK _ _ ?_)
       | (refine wpList_step fun K hK=>?_;refine a0X (some 29) rfl (by rfl) 23 (.tmp 28) rfl (w.heap.size+1) 4 rfl (byts u.tag) _ tu Tryz.underlying23 rfl hzu.out ?_;refine hK _ _ ?_))
      go_ret
      exact⟨by rw[HE.out];rfl,hb1⟩
    ·have HE:=Lib.hid (hne _ (fun e=>by rw[e]) hT)
     rw[decide_eq_false hT] at hE
     clear hT hne hs1 hp1
     go_wp2_with (first
      | (refine wpList_step fun K hK=>?_;refine a0X (some 27) rfl (by rfl) 23 (.tmp 26) rfl w.heap.size 4 rfl (byts t.tag) _ tt Tryz.underlying23 rfl hzt.out ?_;refine hK _ _ ?_)
      | (refine wpList_step fun K hK=>?_;refine a0X (some 29) rfl (by rfl) 23 (.tmp 28) rfl (w.heap.size+1) 4 rfl (byts u.tag) _ tu Tryz.underlying23 rfl hzu.out ?_;refine hK _ _ ?_))
     go_ret
     exact⟨by rw[HE.out];rfl,hb1⟩
   ·have HE:=Lib.hid (hne _ (fun e=>by rw[e]) hB)
    have hL':(t.bound==u.bound)=false:=by rw[beq_eq_false_iff_ne];exact hB
    clear hB hne hs1 hp1
    go_wp2
    go_ret
    exact⟨by rw[HE.out];rfl,hb1⟩
  ·have HE:=Lib.hid (hne _ (fun e=>by rw[e]) hI)
   have hL':¬(bstr t.id).toList=(bstr u.id).toList:=by rw[a0n,a0n];exact hI
   clear hI hne hs1 hp1
   go_wp2
   go_ret
   exact⟨by rw[HE.out];rfl,hb1⟩
 ·have HE:=Lib.hid (hne _ (fun e=>by rw[e]) hK)
  have hL':¬(t.key:Int)=(u.key:Int):=by omega
  clear hK hne hs1 hp1
  go_wp2
  go_ret
  exact⟨by rw[HE.out];rfl,hb1⟩
end Go.Proofs.YtimdhdimhboboaaGreatDoor
