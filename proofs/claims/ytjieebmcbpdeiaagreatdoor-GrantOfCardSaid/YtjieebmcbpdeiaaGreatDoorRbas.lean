import Derived.Test.YtjieebmcbpdeiaaGreatDoorRbar
import Derived.Test.YtjieebmcbpdeiaaGreatDoorRbac
namespace Go.Proofs.YtjieebmcbpdeiaaGreatDoor
set_option maxRecDepth 100000
open Go Go.RowKit
def ofOp (r:Req):List Prd:=if name16 r.op=true then [⟨3,0,[r.op],[],zeroR,0⟩] else []
def ofPath (r:Req):List Prd:=match normL r.path with
 | some x=>[⟨4,0,[],x,zeroR,0⟩]
 | none=>[]
def ofNet (r:Req):List Prd:=if checkA r.src=true then [⟨5,0,[],[],⟨r.src,(mostA r.src.v6:Nat)⟩,0⟩] else []
def ofCost (r:Req):List Prd:=if nanC r.cost=true then [] else [⟨6,0,[],[],zeroR,r.cost⟩]
def ofL (r:Req):List Prd:=ofOp r++(ofPath r++(ofNet r++ofCost r))
theorem step_sliceN {P:Program} {w w':World} {ops:Array Oper} {o:Oper} {a:Act} {K:Act→World→Prop} {Q:Exit→Act→World→Prop} {E:Prop} (dst:Option Tmp) (hdst:o.dst=dst) (hgd:Region.wanted o (yielded ops a.tmps)=true) (ty:TypeId) (n:Nat) (parts:List (Nat×Operand)) (ho:o.op=.buildSlice ty n parts.toArray) (vals:List (Nat×Value)) (hx:parts.map (fun p=>(p.1,a.eval p.2))=vals) (v:Value)
  (hv:(Instr.buildSlice ty n vals.toArray).run P w=.ok v w') (h:K (a.put dst v) w'):if Region.wanted o (yielded ops a.tmps)=true then Oper.wp P o a w K Q else E:=by
 subst hdst hx
 rw[if_pos hgd]
 unfold Oper.wp execOp
 simp only[ho,Sem.run_bind,Sem.run_pure,Result.andThen_ok,List.map_toArray,hv]
 exact h
theorem sl_row {w:World} {g t:Nat} {xs:List Value} (h:Row w g t xs):Sl w (some ⟨g,0,none⟩) xs.length xs :=
 ⟨Rd.row (ys:=[]) (by rw[List.append_nil];exact h),Nat.le_refl _,fun h=>by cases h⟩
theorem own_base_k {w:World} {b b' t k n:Nat} {v:Value} {xs:List Value} (h:w.ownsRow b t k v n xs) (hb:b'≤b):w.ownsRow b' t k v n xs:=by
 obtain⟨hl,h | ⟨g,cap,cur,rfl,hg,h⟩⟩:=h
 ·exact⟨hl,.inl h⟩
 ·exact⟨hl,.inr ⟨g,cap,cur,rfl,Nat.le_trans hb hg,h⟩⟩
theorem at_op {W:World} {g:Nat} (s:List UInt8) (hs:s.length≤1000) (nm:Row W g 9 [Value.string (bstr s)]):PrdAt W ⟨3,0,[s],[],zeroR,0⟩ (some ⟨g,0,none⟩) 1 :=
 ⟨⟨zeroR_ok,by show (0:Nat) < _;omega,by show (0:Nat) < _;omega⟩,sl_row nm,by show (-9223372036854775808:Int)≤3;omega,by show (3:Int)≤_;omega,by show (0:Nat)≤_;omega,by show s.length+1+0≤4000;omega⟩
theorem at_path (W:World) (x:List UInt8) (hx:x.length≤256):PrdAt W ⟨4,0,[],x,zeroR,0⟩ none 0 :=
 ⟨⟨zeroR_ok,by show (0:Nat) < _;omega,by show (0:Nat) < _;omega⟩,sl_none16 W,by show (-9223372036854775808:Int)≤4;omega,by show (4:Int)≤_;omega,by show x.length≤4000;omega,by show (0:Nat)≤_;omega⟩
theorem at_net (W:World) (r:Req) (hr:r.Ok):PrdAt W ⟨5,0,[],[],⟨r.src,(mostA r.src.v6:Nat)⟩,0⟩ none 0:=by
 have hm:mostA r.src.v6≤128:=by unfold mostA;split<;>omega
 exact⟨⟨⟨hr.src,by show (-9223372036854775808:Int)≤((mostA r.src.v6:Nat):Int);omega,by show ((mostA r.src.v6:Nat):Int)≤_;omega⟩,by show (0:Nat) < _;omega,by show (0:Nat) < _;omega⟩,sl_none16 W,by show (-9223372036854775808:Int)≤5;omega,by show (5:Int)≤_;omega,by show (0:Nat)≤_;omega,by show (0:Nat)≤_;omega⟩
theorem at_cost (W:World) (c:Nat) (hc:c < 2^64):PrdAt W ⟨6,0,[],[],zeroR,c⟩ none 0 :=
 ⟨⟨zeroR_ok,by show (0:Nat) < _;omega,hc⟩,sl_none16 W,by show (-9223372036854775808:Int)≤6;omega,by show (6:Int)≤_;omega,by show (0:Nat)≤_;omega,by show (0:Nat)≤_;omega⟩
theorem run_build_op2 {P:Program} {w:World} {o:Oper} {a:Act} (ty:TypeId) (k0 k1:Nat) (x0 x1:Operand) (ho:o.op=.build ty #[(k0,x0),(k1,x1)]) (v0 v1 v:Value) (hx0:a.eval x0=v0) (hx1:a.eval x1=v1) (hv:(Instr.build ty #[(k0,v0),(k1,v1)]).run P w=.ok v w):(execOp a.eval o).run P w=.ok (.value v) w:=by
 unfold execOp
 simp only[ho,Sem.run_bind,Sem.run_pure,Result.andThen_ok,List.map_toArray,List.map_cons,List.map_nil,hx0,hx1,hv]
theorem step_onep {w:World} {ops:Array Oper} {o:Oper} {a:Act} {K:Act→World→Prop} {Q:Exit→Act→World→Prop} {E:Prop} (dst:Option Tmp) (hdst:o.dst=dst) (hgd:Region.wanted o (yielded ops a.tmps)=true) (x:Operand) (ho:o.op=.buildSlice 44 1 #[(0,x)]) (X:List Value) (hX:X.length=23) (hx:a.eval x=.agg X.toArray)
  (h:∀w',Sl w' (some ⟨w.heap.size,0,none⟩) (1*23) X→Below w.heap.size w w'→K (a.put dst (.slice (some ⟨w.heap.size,0,none⟩) 1 1)) w'):if Region.wanted o (yielded ops a.tmps)=true then Oper.wp Tryz.prog o a w K Q else E:=by
 refine step_sliceN dst hdst hgd 44 1 [(0,x)] ho [(0,.agg X.toArray)] (by show [(0,a.eval x)]=_;rw[hx]) _ (slice_onep X hX w) (h _ ?_ ((Below.refl _ w).alloc (Nat.le_refl _) _))
 have:=sl_row (Row.new w 31 X)
 rw[hX] at this
 exact this
theorem infoP18:∃i z b,Tryz.prog.info? 31=some i∧i.zero=some z∧i.size=23∧i.bytes=b∧z.cells.size=23∧b≤200:=by
 have h:(Tryz.prog.info? 31).map (fun i=>(i.size,(i.zero.map fun z=>z.cells.size),decide (i.bytes≤200)))=some (23,some 23,true):=by kernel_rfl
 cases hq:Tryz.prog.info? 31 with
 | none=>rw[hq] at h;cases h
 | some i =>
  rw[hq] at h
  simp only[Option.map_some,Option.some.injEq,Prod.mk.injEq] at h
  obtain⟨h1,h2,h3⟩:=h
  cases hz:i.zero with
  | none=>rw[hz] at h2;cases h2
  | some z =>
   rw[hz] at h2
   exact⟨i,z,i.bytes,rfl,hz,h1,rfl,Option.some.inj h2,of_decide_eq_true h3⟩
theorem req_row (r:Req) (w:World) (g:Nat) (h:Row w g 33 (reqV r)) (hr:r.src.Ok):w.cell? ⟨g,0,none⟩=some (.string (bstr r.op))∧w.cell? ⟨g,1,none⟩=some (.string (bstr r.path))∧w.rangeAt g 2 (adrV r.src)∧w.cell? ⟨g,19,none⟩=some (.float .f64 r.cost):=req_cells hr h
theorem ne_types:31≠33∧31≠9:=by decide
set_option maxHeartbeats 4000000 in
theorem rof_0000 (r:Req) (w:World) (hr:r.Ok) (h0:name16 r.op=false) (h1:normL r.path=none) (h2:checkA r.src=false) (h3:nanC r.cost=true) :
  Calls Tryz.prog 17 #[.agg (reqV r).toArray] w fun e w'=>∃v xs,e=.returned v∧xs.map (·.1)=ofL r∧PrdsOwn w' w.heap.size v xs∧Below w.heap.size w w':=by
 obtain⟨i0,z0,by0,hi,hz0,hsz0,hby0,hzs0,hle0⟩:=infoP18
 have hL:=Lib.hid (show ofL r=[]++([]++([]++([]))) by unfold ofL ofOp ofPath ofNet ofCost;rw[h0,h1,h2,h3];rfl)
 have RC:=Lib.hid (fun W g (h:Row W g 33 (reqV r))=>req_row r W g h hr.src)
 have hsA:=Lib.hid (show (Tryz.prog.info? 26).map (·.size)=some (adrV r.src).length by rw[length_adrV hr.src];exact size_adr)
 have hnm:=fun w'=>rname16_any r.op (by have:=hr.op;omega) w'
 have hno:=fun w'=>rnormal_any r.path (by have:=hr.path;omega) w'
 have hck:=fun w'=>rcheckA_any r.src hr.src w'
 have hms:=Lib.hid (fun w'=>rmost_any r.src w')
 rw[h0] at hnm
 rw[h1] at hno
 rw[h2] at hck
 have o3:=order_nan r.cost hr.cost h3
 have x0:(reqV r)[0]?=some (.string (bstr r.op)):=rfl
 have hnm:=Lib.hid hnm
 have hno:=Lib.hid hno
 have hck:=Lib.hid hck
 obtain⟨R,hR⟩:∃R,R=reqV r:=⟨_,rfl⟩
 obtain⟨w1,hw1⟩:∃w1,w1=(w.alloc (.cells R.toArray 33)).alloc (.cells ([]:List Value).toArray 31):=⟨_,rfl⟩
 obtain⟨r1,-,hb0⟩:=two_boxes hw1.symm
 have hs1:(w.alloc (.cells R.toArray 33)).heap.size=w.heap.size+1:=Array.size_push _
 have own:w1.ownsRow (w.heap.size+1) 31 23 (.slice (some ⟨w.heap.size+1,0,none⟩) 0 0) 0 []:=by
  have:=World.ownsRow_lit (w.alloc (.cells R.toArray 33)) (e:=31) (size:=23) #[] 0 (Nat.le_refl _) (by unfold maxLen;omega) rfl
  rw[hs1] at this
  rw[hw1];exact this
 have HW:=Lib.hid hw1
 rw[←hR] at RC x0 ⊢
 have hmx:(w.heap.size+1)≤w1.heap.size:=by have:=own;rw[hw1];show _≤((w.alloc (.cells R.toArray 33)).heap.push _).size;rw[Array.size_push,hs1];omega
 obtain⟨nt1,nt2⟩:=ne_types
 have NT1:=Lib.hid nt1
 have NT2:=Lib.hid nt2
 clear hw1 hs1 hR nt1 nt2 h0 h1 h2 h3
 go_enter Tryz.func17,Tryz.ntmps17
 go_wp2_with (first
  | (go_at_call 44;rw[←HW.out];refine (hnm.out _).mono ?_;rintro e w' ⟨rfl,rfl⟩;obtain⟨j0,j1,j2,j19⟩:=RC.out _ _ r1)
  | (go_at_call 33;refine (hno.out _).mono ?_;rintro e w4 ⟨rfl,hq⟩;clear j0 j1 j2 j19;have r1:=r1.later hq r1.lt;have own:=ownk_later own hq (Nat.le_refl _);have hmx:=Nat.le_trans hmx hq.size;have hb0:=hb0.trans (hq.mono hb0.size);clear hq;obtain⟨j0,j1,j2,j19⟩:=RC.out _ _ r1)
  | (with_reducible refine wpList_load_mid rfl 26 (.tmp 29) rfl w.heap.size 2 rfl (adrV r.src) _ j2 Tryz.underlying26 rfl hsA.out ?_)
  | (go_at_call 45;refine (hck.out _).mono ?_;rintro e w6 ⟨rfl,hq⟩;clear j0 j1 j2 j19;have r1:=r1.later hq r1.lt;have own:=ownk_later own hq (Nat.le_refl _);have hmx:=Nat.le_trans hmx hq.size;have hb0:=hb0.trans (hq.mono hb0.size);clear hq;obtain⟨j0,j1,j2,j19⟩:=RC.out _ _ r1))
 go_ret
 refine⟨_,([]:List PrdX),rfl,by rw[hL.out];rfl,⟨?_,?_⟩,hb0⟩
 ·exact own_base_k own (Nat.le_succ _)
 ·intro y hy;cases hy
set_option maxHeartbeats 4000000 in
theorem rof_0001 (r:Req) (w:World) (hr:r.Ok) (h0:name16 r.op=false) (h1:normL r.path=none) (h2:checkA r.src=false) (h3:nanC r.cost=false) :
  Calls Tryz.prog 17 #[.agg (reqV r).toArray] w fun e w'=>∃v xs,e=.returned v∧xs.map (·.1)=ofL r∧PrdsOwn w' w.heap.size v xs∧Below w.heap.size w w':=by
 obtain⟨i0,z0,by0,hi,hz0,hsz0,hby0,hzs0,hle0⟩:=infoP18
 have hL:=Lib.hid (show ofL r=[]++([]++([]++([⟨6,0,[],[],zeroR,r.cost⟩]))) by unfold ofL ofOp ofPath ofNet ofCost;rw[h0,h1,h2,h3];rfl)
 have RC:=Lib.hid (fun W g (h:Row W g 33 (reqV r))=>req_row r W g h hr.src)
 have hsA:=Lib.hid (show (Tryz.prog.info? 26).map (·.size)=some (adrV r.src).length by rw[length_adrV hr.src];exact size_adr)
 have hnm:=fun w'=>rname16_any r.op (by have:=hr.op;omega) w'
 have hno:=fun w'=>rnormal_any r.path (by have:=hr.path;omega) w'
 have hck:=fun w'=>rcheckA_any r.src hr.src w'
 have hms:=Lib.hid (fun w'=>rmost_any r.src w')
 rw[h0] at hnm
 rw[h1] at hno
 rw[h2] at hck
 have o3:=order_eq r.cost hr.cost h3
 have x0:(reqV r)[0]?=some (.string (bstr r.op)):=rfl
 have hnm:=Lib.hid hnm
 have hno:=Lib.hid hno
 have hck:=Lib.hid hck
 obtain⟨R,hR⟩:∃R,R=reqV r:=⟨_,rfl⟩
 obtain⟨w1,hw1⟩:∃w1,w1=(w.alloc (.cells R.toArray 33)).alloc (.cells ([]:List Value).toArray 31):=⟨_,rfl⟩
 obtain⟨r1,-,hb0⟩:=two_boxes hw1.symm
 have hs1:(w.alloc (.cells R.toArray 33)).heap.size=w.heap.size+1:=Array.size_push _
 have own:w1.ownsRow (w.heap.size+1) 31 23 (.slice (some ⟨w.heap.size+1,0,none⟩) 0 0) 0 []:=by
  have:=World.ownsRow_lit (w.alloc (.cells R.toArray 33)) (e:=31) (size:=23) #[] 0 (Nat.le_refl _) (by unfold maxLen;omega) rfl
  rw[hs1] at this
  rw[hw1];exact this
 have HW:=Lib.hid hw1
 rw[←hR] at RC x0 ⊢
 have hmx:(w.heap.size+1)≤w1.heap.size:=by have:=own;rw[hw1];show _≤((w.alloc (.cells R.toArray 33)).heap.push _).size;rw[Array.size_push,hs1];omega
 obtain⟨nt1,nt2⟩:=ne_types
 have NT1:=Lib.hid nt1
 have NT2:=Lib.hid nt2
 clear hw1 hs1 hR nt1 nt2 h0 h1 h2 h3
 obtain⟨P6,hP6⟩:∃P,P=prdV ⟨6,0,[],[],zeroR,r.cost⟩ none 0:=⟨_,rfl⟩
 have hl6:=Lib.hid (show P6.length=23 by rw[hP6];exact length_prdV _ zeroA_ok _ _)
 have ho6:=Lib.hid (show ∀u∈P6,u.oneCell'=true by have:=prdV_one ⟨6,0,[],[],zeroR,r.cost⟩ none 0;rw[←hP6,List.all_toArray] at this;exact fun u hu=>List.all_eq_true.1 this u hu)
 have hB6:=Lib.hid (show ∀w',(Instr.build 31 #[(0,.int .i64 6),(5,.float .f64 r.cost)]).run Tryz.prog w'=.ok (.agg P6.toArray) w' from fun w'=>by rw[hP6];exact build_6 r.cost w')
 have HP6:=Lib.hid hP6
 clear hP6
 go_enter Tryz.func17,Tryz.ntmps17
 go_wp2_with (first
  | (go_at_call 44;rw[←HW.out];refine (hnm.out _).mono ?_;rintro e w' ⟨rfl,rfl⟩;obtain⟨j0,j1,j2,j19⟩:=RC.out _ _ r1)
  | (go_at_call 33;refine (hno.out _).mono ?_;rintro e w4 ⟨rfl,hq⟩;clear j0 j1 j2 j19;have r1:=r1.later hq r1.lt;have own:=ownk_later own hq (Nat.le_refl _);have hmx:=Nat.le_trans hmx hq.size;have hb0:=hb0.trans (hq.mono hb0.size);clear hq;obtain⟨j0,j1,j2,j19⟩:=RC.out _ _ r1)
  | (with_reducible refine wpList_load_mid rfl 26 (.tmp 29) rfl w.heap.size 2 rfl (adrV r.src) _ j2 Tryz.underlying26 rfl hsA.out ?_)
  | (go_at_call 45;refine (hck.out _).mono ?_;rintro e w6 ⟨rfl,hq⟩;clear j0 j1 j2 j19;have r1:=r1.later hq r1.lt;have own:=ownk_later own hq (Nat.le_refl _);have hmx:=Nat.le_trans hmx hq.size;have hb0:=hb0.trans (hq.mono hb0.size);clear hq;obtain⟨j0,j1,j2,j19⟩:=RC.out _ _ r1)
  | (refine wpList_build2 rfl 31 0 5 _ _ rfl (.int .i64 6) (.float .f64 r.cost) (.agg P6.toArray) rfl rfl (hB6.out _) ?_)
  | (refine wpList_sliceN rfl 44 1 [_] rfl [(0,.agg P6.toArray)] rfl _ (slice_onep P6 hl6.out _) ?_;refine Hid.out ?_))
 refine Lib.hid ?_
 obtain⟨w8,hw2⟩:∃w2,w2=w6.alloc (.cells P6.toArray 31):=⟨_,rfl⟩
 rw[←hw2]
 obtain⟨s6,hq⟩:=one_box hw2.symm
 have sl6:=sl_row s6
 rw[hl6.out] at sl6
 clear hw2 s6 j0 j1 j2 j19
 have r1:=r1.later hq r1.lt
 have own:=ownk_later own hq (Nat.le_refl _)
 have hmx:=Nat.le_trans hmx hq.size
 have hb0:=hb0.trans (hq.mono hb0.size)
 clear hq
 obtain⟨j0,j1,j2,j19⟩:=RC.out _ _ r1
 go_wp2_with (first
  | (at_builtin;refine wpList_append_k rfl (.tmp 47) (.tmp 51) 44 rfl (w.heap.size+1) 31 i0 z0 23 by0 Tryz.underlying44 hi hz0 hsz0 (by omega) hby0 hzs0 _ 0 [] rfl own (some ⟨w6.heap.size,0,none⟩) 1 1 P6 rfl hl6.out sl6 ho6.out (by unfold maxLen;omega) (by omega) hmx ?_;intro v6 wa6 own6 hg;have r1:=Row.keptT r1 own hg NT1.out;have hb0:=hb0.grown hg hb0.size (fun k hk=>Nat.le_trans (Nat.le_succ _) (own.lt k hk).1);have hmx:=Nat.le_trans hmx hg.size;clear own hg;have own:=own6;clear own6;clear j0 j1 j2 j19;obtain⟨j0,j1,j2,j19⟩:=RC.out _ _ r1))
 go_ret
 refine⟨_,([(⟨6,0,[],[],zeroR,r.cost⟩,none,0)]:List PrdX),rfl,by rw[hL.out];rfl,⟨?_,?_⟩,hb0⟩
 ·have e:([]++P6)=List.flatMap prdX ([(⟨6,0,[],[],zeroR,r.cost⟩,none,0)]:List PrdX):=by rw[HP6.out];simp[prdX]
  rw[←e]
  exact own_base_k own (Nat.le_succ _)
 ·intro y hy
  simp only[List.mem_cons,List.not_mem_nil,or_false] at hy
  subst hy
  exact at_cost _ r.cost hr.cost
set_option maxHeartbeats 4000000 in
theorem rof_0010 (r:Req) (w:World) (hr:r.Ok) (h0:name16 r.op=false) (h1:normL r.path=none) (h2:checkA r.src=true) (h3:nanC r.cost=true) :
  Calls Tryz.prog 17 #[.agg (reqV r).toArray] w fun e w'=>∃v xs,e=.returned v∧xs.map (·.1)=ofL r∧PrdsOwn w' w.heap.size v xs∧Below w.heap.size w w':=by
 obtain⟨i0,z0,by0,hi,hz0,hsz0,hby0,hzs0,hle0⟩:=infoP18
 have hL:=Lib.hid (show ofL r=[]++([]++([⟨5,0,[],[],⟨r.src,(mostA r.src.v6:Nat)⟩,0⟩]++([]))) by unfold ofL ofOp ofPath ofNet ofCost;rw[h0,h1,h2,h3];rfl)
 have RC:=Lib.hid (fun W g (h:Row W g 33 (reqV r))=>req_row r W g h hr.src)
 have hsA:=Lib.hid (show (Tryz.prog.info? 26).map (·.size)=some (adrV r.src).length by rw[length_adrV hr.src];exact size_adr)
 have hnm:=fun w'=>rname16_any r.op (by have:=hr.op;omega) w'
 have hno:=fun w'=>rnormal_any r.path (by have:=hr.path;omega) w'
 have hck:=fun w'=>rcheckA_any r.src hr.src w'
 have hms:=Lib.hid (fun w'=>rmost_any r.src w')
 rw[h0] at hnm
 rw[h1] at hno
 rw[h2] at hck
 have o3:=order_nan r.cost hr.cost h3
 have x0:(reqV r)[0]?=some (.string (bstr r.op)):=rfl
 have hnm:=Lib.hid hnm
 have hno:=Lib.hid hno
 have hck:=Lib.hid hck
 obtain⟨R,hR⟩:∃R,R=reqV r:=⟨_,rfl⟩
 obtain⟨w1,hw1⟩:∃w1,w1=(w.alloc (.cells R.toArray 33)).alloc (.cells ([]:List Value).toArray 31):=⟨_,rfl⟩
 obtain⟨r1,-,hb0⟩:=two_boxes hw1.symm
 have hs1:(w.alloc (.cells R.toArray 33)).heap.size=w.heap.size+1:=Array.size_push _
 have own:w1.ownsRow (w.heap.size+1) 31 23 (.slice (some ⟨w.heap.size+1,0,none⟩) 0 0) 0 []:=by
  have:=World.ownsRow_lit (w.alloc (.cells R.toArray 33)) (e:=31) (size:=23) #[] 0 (Nat.le_refl _) (by unfold maxLen;omega) rfl
  rw[hs1] at this
  rw[hw1];exact this
 have HW:=Lib.hid hw1
 rw[←hR] at RC x0 ⊢
 have hmx:(w.heap.size+1)≤w1.heap.size:=by have:=own;rw[hw1];show _≤((w.alloc (.cells R.toArray 33)).heap.push _).size;rw[Array.size_push,hs1];omega
 obtain⟨nt1,nt2⟩:=ne_types
 have NT1:=Lib.hid nt1
 have NT2:=Lib.hid nt2
 clear hw1 hs1 hR nt1 nt2 h0 h1 h2 h3
 obtain⟨P5,hP5⟩:∃P,P=prdV ⟨5,0,[],[],⟨r.src,(mostA r.src.v6:Nat)⟩,0⟩ none 0:=⟨_,rfl⟩
 have hl5:=Lib.hid (show P5.length=23 by rw[hP5];exact length_prdV _ hr.src _ _)
 have ho5:=Lib.hid (show ∀u∈P5,u.oneCell'=true by have:=prdV_one ⟨5,0,[],[],⟨r.src,(mostA r.src.v6:Nat)⟩,0⟩ none 0;rw[←hP5,List.all_toArray] at this;exact fun u hu=>List.all_eq_true.1 this u hu)
 obtain⟨N5,hN5⟩:∃N,N=adrV r.src++[Value.int .i64 ((mostA r.src.v6:Nat):Int)]:=⟨_,rfl⟩
 have hBR:=Lib.hid (show ∀w',(Instr.build 28 #[(0,.agg (adrV r.src).toArray),(1,.int .i64 ((mostA r.src.v6:Nat):Int))]).run Tryz.prog w'=.ok (.agg N5.toArray) w' from fun w'=>by rw[hN5];exact build_rng (adrV r.src) _ (length_adrV hr.src) w')
 have hB5:=Lib.hid (show ∀w',(Instr.build 31 #[(0,.int .i64 5),(4,.agg N5.toArray)]).run Tryz.prog w'=.ok (.agg P5.toArray) w' from fun w'=>by
  have hl:N5.length=18:=by rw[hN5,List.length_append,length_adrV hr.src];rfl
  refine (build_5 N5 hl w').trans ?_
  rw[hP5,hN5];rfl)
 have HP5:=Lib.hid hP5
 clear hP5 hN5
 go_enter Tryz.func17,Tryz.ntmps17
 go_wp2_with (first
  | (go_at_call 44;rw[←HW.out];refine (hnm.out _).mono ?_;rintro e w' ⟨rfl,rfl⟩;obtain⟨j0,j1,j2,j19⟩:=RC.out _ _ r1)
  | (go_at_call 33;refine (hno.out _).mono ?_;rintro e w4 ⟨rfl,hq⟩;clear j0 j1 j2 j19;have r1:=r1.later hq r1.lt;have own:=ownk_later own hq (Nat.le_refl _);have hmx:=Nat.le_trans hmx hq.size;have hb0:=hb0.trans (hq.mono hb0.size);clear hq;obtain⟨j0,j1,j2,j19⟩:=RC.out _ _ r1)
  | (with_reducible refine wpList_load_mid rfl 26 (.tmp 29) rfl w.heap.size 2 rfl (adrV r.src) _ j2 Tryz.underlying26 rfl hsA.out ?_)
  | (go_at_call 45;refine (hck.out _).mono ?_;rintro e w6 ⟨rfl,hq⟩;clear j0 j1 j2 j19;have r1:=r1.later hq r1.lt;have own:=ownk_later own hq (Nat.le_refl _);have hmx:=Nat.le_trans hmx hq.size;have hb0:=hb0.trans (hq.mono hb0.size);clear hq;obtain⟨j0,j1,j2,j19⟩:=RC.out _ _ r1))
 refine wp_region_noPanic ?_
 refine wp_region_held_drew (S:=fun w'=>Row w' w.heap.size 33 R) (by kernel_rfl) (r1.later ((Below.refl _ _).drew) r1.lt) (fun hHeld=>?_)
 have hB:Below w6.heap.size w6 w6.drew:=(Below.refl _ _).drew
 refine rtake 0 _ (some 32) _ rfl rfl (by kernel_rfl) (by kernel_rfl) (by kernel_rfl) (fun _ _ _ h=>h) (by rfl) hHeld (by intro w hS;go_simp;try with_reducible rfl) ?_
 try (first | (rw[put_some];dsimp only[List.set]) | rw[put_none])
 refine rtake 1 _ (some 33) _ rfl rfl (by kernel_rfl) (by kernel_rfl) (by kernel_rfl) (fun _ _ _ h=>h) (by rfl) hHeld (by intro w hS;go_simp;try with_reducible rfl) ?_
 try (first | (rw[put_some];dsimp only[List.set]) | rw[put_none])
 refine rtake 2 _ (some 34) _ rfl rfl (by kernel_rfl) (by kernel_rfl) (by kernel_rfl) (fun _ _ _ h=>h) (by rfl) hHeld (by intro w hS;exact run_load_op 26 (.tmp 33) rfl _ 2 rfl (adrV r.src) _ (RC.out _ _ hS).2.2.1 Tryz.underlying26 rfl hsA.out) ?_
 try (first | (rw[put_some];dsimp only[List.set]) | rw[put_none])
 refine rtake 3 _ (some 35) _ rfl rfl (by kernel_rfl) (by kernel_rfl) (by kernel_rfl) (fun _ _ _ h=>h) (by rfl) hHeld (by intro w hS;go_simp;try with_reducible rfl) ?_
 try (first | (rw[put_some];dsimp only[List.set]) | rw[put_none])
 refine rtake 4 _ (some 36) _ rfl rfl (by kernel_rfl) (by kernel_rfl) (by kernel_rfl) (fun _ _ _ h=>h) (by rfl) hHeld (by intro w hS;exact run_load_op 26 (.tmp 35) rfl _ 2 rfl (adrV r.src) _ (RC.out _ _ hS).2.2.1 Tryz.underlying26 rfl hsA.out) ?_
 try (first | (rw[put_some];dsimp only[List.set]) | rw[put_none])
 refine wpAnyH_ready (rs:=[5]) (by kernel_rfl) (by simp) (AllReadyH.cons (o:=_) rfl (fun K hK=>?_) AllReadyH.nil)
 go_simp
 refine (hms.out _).mono ?_;rintro e wq5 ⟨rfl,hq5⟩
 try go_wp2_with fail
 refine hK.out _ _ (hHeld.later hq5 hHeld.lt) (fun _=>?_)
 clear hK K
 try (first | (rw[put_some];dsimp only[List.set]) | rw[put_none])
 have hB:=below_step hB hq5
 have hHeld:=r1.later hB r1.lt
 refine rtake 6 _ (some 38) _ rfl rfl (by kernel_rfl) (by kernel_rfl) (by kernel_rfl) (fun _ _ _ h=>h) (by rfl) hHeld (by intro w hS;exact run_build_op2 28 0 1 (.tmp 34) (.tmp 37) rfl (.agg (adrV r.src).toArray) (.int .i64 ((mostA r.src.v6:Nat):Int)) (.agg N5.toArray) rfl rfl (hBR.out _)) ?_
 try (first | (rw[put_some];dsimp only[List.set]) | rw[put_none])
 refine rtake 7 _ (some 39) _ rfl rfl (by kernel_rfl) (by kernel_rfl) (by kernel_rfl) (fun _ _ _ h=>h) (by rfl) hHeld (by intro w hS;exact run_build_op2 31 0 4 _ (.tmp 38) rfl (.int .i64 5) (.agg N5.toArray) (.agg P5.toArray) rfl rfl (hB5.out _)) ?_
 try (first | (rw[put_some];dsimp only[List.set]) | rw[put_none])
 refine wpAnyH_ready (rs:=[8]) (by kernel_rfl) (by simp) (AllReadyH.cons (o:=_) rfl (fun K hK=>?_) AllReadyH.nil)
 refine step_onep (some 40) rfl (by rfl) (.tmp 39) rfl P5 hl5.out rfl ?_
 intro wq8 sl5 hq8
 refine hK.out _ _ (hHeld.later hq8 hHeld.lt) (fun _=>?_)
 clear hK K
 try (first | (rw[put_some];dsimp only[List.set]) | rw[put_none])
 have hB:=below_step hB hq8
 have hHeld:=r1.later hB r1.lt
 have ownq:=ownk_later own hB (Nat.le_refl _)
 refine wpAnyH_ready (rs:=[9]) (by kernel_rfl) (by simp) (AllReadyH.cons (o:=_) rfl (fun K hK=>?_) AllReadyH.nil)
 refine step_append_k (some 41) rfl (by rfl) (.tmp 32) (.tmp 40) 44 rfl (w.heap.size+1) 31 i0 z0 23 by0 Tryz.underlying44 hi hz0 hsz0 (by omega) hby0 hzs0 _ 0 [] rfl ownq (some ⟨wq5.heap.size,0,none⟩) 1 1 P5 rfl hl5.out sl5 ho5.out (by unfold maxLen;omega) (by omega) (Nat.le_trans hmx hB.size) ?_
 intro v5 wq9 own5 hg
 have r1:=Row.keptT hHeld ownq hg NT1.out
 have hb0:=(hb0.trans (hB.mono hb0.size)).grown hg (Nat.le_trans hb0.size hB.size) (fun k hk=>Nat.le_trans (Nat.le_succ _) (ownq.lt k hk).1)
 have hmx:=Nat.le_trans (Nat.le_trans hmx hB.size) hg.size
 refine hK.out _ _ r1 (fun _=>?_)
 clear hK K
 try (first | (rw[put_some];dsimp only[List.set]) | rw[put_none])
 clear hHeld
 have hHeld:=r1
 clear own ownq hg hB j0 j1 j2 j19
 have own:=own5
 clear own5
 refine rtake 10 _ (some 3) _ rfl rfl (by kernel_rfl) (by kernel_rfl) (by kernel_rfl) (fun _ _ _ h=>h) (by rfl) hHeld (by intro w hS;go_simp;try with_reducible rfl) ?_
 try (first | (rw[put_some];dsimp only[List.set]) | rw[put_none])
 refine wpAnyH_done (by kernel_rfl) ?_ _
 refine NoPanic.normal ?_
 obtain⟨j0,j1,j2,j19⟩:=RC.out _ _ r1
 go_wp2
 go_ret
 refine⟨_,([(⟨5,0,[],[],⟨r.src,(mostA r.src.v6:Nat)⟩,0⟩,none,0)]:List PrdX),rfl,by rw[hL.out];rfl,⟨?_,?_⟩,hb0⟩
 ·have e:([]++P5)=List.flatMap prdX ([(⟨5,0,[],[],⟨r.src,(mostA r.src.v6:Nat)⟩,0⟩,none,0)]:List PrdX):=by rw[HP5.out];simp[prdX]
  rw[←e]
  exact own_base_k own (Nat.le_succ _)
 ·intro y hy
  simp only[List.mem_cons,List.not_mem_nil,or_false] at hy
  subst hy
  exact at_net _ r hr
set_option maxHeartbeats 4000000 in
theorem rof_0011 (r:Req) (w:World) (hr:r.Ok) (h0:name16 r.op=false) (h1:normL r.path=none) (h2:checkA r.src=true) (h3:nanC r.cost=false) :
  Calls Tryz.prog 17 #[.agg (reqV r).toArray] w fun e w'=>∃v xs,e=.returned v∧xs.map (·.1)=ofL r∧PrdsOwn w' w.heap.size v xs∧Below w.heap.size w w':=by
 obtain⟨i0,z0,by0,hi,hz0,hsz0,hby0,hzs0,hle0⟩:=infoP18
 have hL:=Lib.hid (show ofL r=[]++([]++([⟨5,0,[],[],⟨r.src,(mostA r.src.v6:Nat)⟩,0⟩]++([⟨6,0,[],[],zeroR,r.cost⟩]))) by unfold ofL ofOp ofPath ofNet ofCost;rw[h0,h1,h2,h3];rfl)
 have RC:=Lib.hid (fun W g (h:Row W g 33 (reqV r))=>req_row r W g h hr.src)
 have hsA:=Lib.hid (show (Tryz.prog.info? 26).map (·.size)=some (adrV r.src).length by rw[length_adrV hr.src];exact size_adr)
 have hnm:=fun w'=>rname16_any r.op (by have:=hr.op;omega) w'
 have hno:=fun w'=>rnormal_any r.path (by have:=hr.path;omega) w'
 have hck:=fun w'=>rcheckA_any r.src hr.src w'
 have hms:=Lib.hid (fun w'=>rmost_any r.src w')
 rw[h0] at hnm
 rw[h1] at hno
 rw[h2] at hck
 have o3:=order_eq r.cost hr.cost h3
 have x0:(reqV r)[0]?=some (.string (bstr r.op)):=rfl
 have hnm:=Lib.hid hnm
 have hno:=Lib.hid hno
 have hck:=Lib.hid hck
 obtain⟨R,hR⟩:∃R,R=reqV r:=⟨_,rfl⟩
 obtain⟨w1,hw1⟩:∃w1,w1=(w.alloc (.cells R.toArray 33)).alloc (.cells ([]:List Value).toArray 31):=⟨_,rfl⟩
 obtain⟨r1,-,hb0⟩:=two_boxes hw1.symm
 have hs1:(w.alloc (.cells R.toArray 33)).heap.size=w.heap.size+1:=Array.size_push _
 have own:w1.ownsRow (w.heap.size+1) 31 23 (.slice (some ⟨w.heap.size+1,0,none⟩) 0 0) 0 []:=by
  have:=World.ownsRow_lit (w.alloc (.cells R.toArray 33)) (e:=31) (size:=23) #[] 0 (Nat.le_refl _) (by unfold maxLen;omega) rfl
  rw[hs1] at this
  rw[hw1];exact this
 have HW:=Lib.hid hw1
 rw[←hR] at RC x0 ⊢
 have hmx:(w.heap.size+1)≤w1.heap.size:=by have:=own;rw[hw1];show _≤((w.alloc (.cells R.toArray 33)).heap.push _).size;rw[Array.size_push,hs1];omega
 obtain⟨nt1,nt2⟩:=ne_types
 have NT1:=Lib.hid nt1
 have NT2:=Lib.hid nt2
 clear hw1 hs1 hR nt1 nt2 h0 h1 h2 h3
 obtain⟨P5,hP5⟩:∃P,P=prdV ⟨5,0,[],[],⟨r.src,(mostA r.src.v6:Nat)⟩,0⟩ none 0:=⟨_,rfl⟩
 have hl5:=Lib.hid (show P5.length=23 by rw[hP5];exact length_prdV _ hr.src _ _)
 have ho5:=Lib.hid (show ∀u∈P5,u.oneCell'=true by have:=prdV_one ⟨5,0,[],[],⟨r.src,(mostA r.src.v6:Nat)⟩,0⟩ none 0;rw[←hP5,List.all_toArray] at this;exact fun u hu=>List.all_eq_true.1 this u hu)
 obtain⟨N5,hN5⟩:∃N,N=adrV r.src++[Value.int .i64 ((mostA r.src.v6:Nat):Int)]:=⟨_,rfl⟩
 have hBR:=Lib.hid (show ∀w',(Instr.build 28 #[(0,.agg (adrV r.src).toArray),(1,.int .i64 ((mostA r.src.v6:Nat):Int))]).run Tryz.prog w'=.ok (.agg N5.toArray) w' from fun w'=>by rw[hN5];exact build_rng (adrV r.src) _ (length_adrV hr.src) w')
 have hB5:=Lib.hid (show ∀w',(Instr.build 31 #[(0,.int .i64 5),(4,.agg N5.toArray)]).run Tryz.prog w'=.ok (.agg P5.toArray) w' from fun w'=>by
  have hl:N5.length=18:=by rw[hN5,List.length_append,length_adrV hr.src];rfl
  refine (build_5 N5 hl w').trans ?_
  rw[hP5,hN5];rfl)
 have HP5:=Lib.hid hP5
 clear hP5 hN5
 obtain⟨P6,hP6⟩:∃P,P=prdV ⟨6,0,[],[],zeroR,r.cost⟩ none 0:=⟨_,rfl⟩
 have hl6:=Lib.hid (show P6.length=23 by rw[hP6];exact length_prdV _ zeroA_ok _ _)
 have ho6:=Lib.hid (show ∀u∈P6,u.oneCell'=true by have:=prdV_one ⟨6,0,[],[],zeroR,r.cost⟩ none 0;rw[←hP6,List.all_toArray] at this;exact fun u hu=>List.all_eq_true.1 this u hu)
 have hB6:=Lib.hid (show ∀w',(Instr.build 31 #[(0,.int .i64 6),(5,.float .f64 r.cost)]).run Tryz.prog w'=.ok (.agg P6.toArray) w' from fun w'=>by rw[hP6];exact build_6 r.cost w')
 have HP6:=Lib.hid hP6
 clear hP6
 go_enter Tryz.func17,Tryz.ntmps17
 go_wp2_with (first
  | (go_at_call 44;rw[←HW.out];refine (hnm.out _).mono ?_;rintro e w' ⟨rfl,rfl⟩;obtain⟨j0,j1,j2,j19⟩:=RC.out _ _ r1)
  | (go_at_call 33;refine (hno.out _).mono ?_;rintro e w4 ⟨rfl,hq⟩;clear j0 j1 j2 j19;have r1:=r1.later hq r1.lt;have own:=ownk_later own hq (Nat.le_refl _);have hmx:=Nat.le_trans hmx hq.size;have hb0:=hb0.trans (hq.mono hb0.size);clear hq;obtain⟨j0,j1,j2,j19⟩:=RC.out _ _ r1)
  | (with_reducible refine wpList_load_mid rfl 26 (.tmp 29) rfl w.heap.size 2 rfl (adrV r.src) _ j2 Tryz.underlying26 rfl hsA.out ?_)
  | (go_at_call 45;refine (hck.out _).mono ?_;rintro e w6 ⟨rfl,hq⟩;clear j0 j1 j2 j19;have r1:=r1.later hq r1.lt;have own:=ownk_later own hq (Nat.le_refl _);have hmx:=Nat.le_trans hmx hq.size;have hb0:=hb0.trans (hq.mono hb0.size);clear hq;obtain⟨j0,j1,j2,j19⟩:=RC.out _ _ r1))
 refine wp_region_noPanic ?_
 refine wp_region_held_drew (S:=fun w'=>Row w' w.heap.size 33 R) (by kernel_rfl) (r1.later ((Below.refl _ _).drew) r1.lt) (fun hHeld=>?_)
 have hB:Below w6.heap.size w6 w6.drew:=(Below.refl _ _).drew
 refine rtake 0 _ (some 32) _ rfl rfl (by kernel_rfl) (by kernel_rfl) (by kernel_rfl) (fun _ _ _ h=>h) (by rfl) hHeld (by intro w hS;go_simp;try with_reducible rfl) ?_
 try (first | (rw[put_some];dsimp only[List.set]) | rw[put_none])
 refine rtake 1 _ (some 33) _ rfl rfl (by kernel_rfl) (by kernel_rfl) (by kernel_rfl) (fun _ _ _ h=>h) (by rfl) hHeld (by intro w hS;go_simp;try with_reducible rfl) ?_
 try (first | (rw[put_some];dsimp only[List.set]) | rw[put_none])
 refine rtake 2 _ (some 34) _ rfl rfl (by kernel_rfl) (by kernel_rfl) (by kernel_rfl) (fun _ _ _ h=>h) (by rfl) hHeld (by intro w hS;exact run_load_op 26 (.tmp 33) rfl _ 2 rfl (adrV r.src) _ (RC.out _ _ hS).2.2.1 Tryz.underlying26 rfl hsA.out) ?_
 try (first | (rw[put_some];dsimp only[List.set]) | rw[put_none])
 refine rtake 3 _ (some 35) _ rfl rfl (by kernel_rfl) (by kernel_rfl) (by kernel_rfl) (fun _ _ _ h=>h) (by rfl) hHeld (by intro w hS;go_simp;try with_reducible rfl) ?_
 try (first | (rw[put_some];dsimp only[List.set]) | rw[put_none])
 refine rtake 4 _ (some 36) _ rfl rfl (by kernel_rfl) (by kernel_rfl) (by kernel_rfl) (fun _ _ _ h=>h) (by rfl) hHeld (by intro w hS;exact run_load_op 26 (.tmp 35) rfl _ 2 rfl (adrV r.src) _ (RC.out _ _ hS).2.2.1 Tryz.underlying26 rfl hsA.out) ?_
 try (first | (rw[put_some];dsimp only[List.set]) | rw[put_none])
 refine wpAnyH_ready (rs:=[5]) (by kernel_rfl) (by simp) (AllReadyH.cons (o:=_) rfl (fun K hK=>?_) AllReadyH.nil)
 go_simp
 refine (hms.out _).mono ?_;rintro e wq5 ⟨rfl,hq5⟩
 try go_wp2_with fail
 refine hK.out _ _ (hHeld.later hq5 hHeld.lt) (fun _=>?_)
 clear hK K
 try (first | (rw[put_some];dsimp only[List.set]) | rw[put_none])
 have hB:=below_step hB hq5
 have hHeld:=r1.later hB r1.lt
 refine rtake 6 _ (some 38) _ rfl rfl (by kernel_rfl) (by kernel_rfl) (by kernel_rfl) (fun _ _ _ h=>h) (by rfl) hHeld (by intro w hS;exact run_build_op2 28 0 1 (.tmp 34) (.tmp 37) rfl (.agg (adrV r.src).toArray) (.int .i64 ((mostA r.src.v6:Nat):Int)) (.agg N5.toArray) rfl rfl (hBR.out _)) ?_
 try (first | (rw[put_some];dsimp only[List.set]) | rw[put_none])
 refine rtake 7 _ (some 39) _ rfl rfl (by kernel_rfl) (by kernel_rfl) (by kernel_rfl) (fun _ _ _ h=>h) (by rfl) hHeld (by intro w hS;exact run_build_op2 31 0 4 _ (.tmp 38) rfl (.int .i64 5) (.agg N5.toArray) (.agg P5.toArray) rfl rfl (hB5.out _)) ?_
 try (first | (rw[put_some];dsimp only[List.set]) | rw[put_none])
 refine wpAnyH_ready (rs:=[8]) (by kernel_rfl) (by simp) (AllReadyH.cons (o:=_) rfl (fun K hK=>?_) AllReadyH.nil)
 refine step_onep (some 40) rfl (by rfl) (.tmp 39) rfl P5 hl5.out rfl ?_
 intro wq8 sl5 hq8
 refine hK.out _ _ (hHeld.later hq8 hHeld.lt) (fun _=>?_)
 clear hK K
 try (first | (rw[put_some];dsimp only[List.set]) | rw[put_none])
 have hB:=below_step hB hq8
 have hHeld:=r1.later hB r1.lt
 have ownq:=ownk_later own hB (Nat.le_refl _)
 refine wpAnyH_ready (rs:=[9]) (by kernel_rfl) (by simp) (AllReadyH.cons (o:=_) rfl (fun K hK=>?_) AllReadyH.nil)
 refine step_append_k (some 41) rfl (by rfl) (.tmp 32) (.tmp 40) 44 rfl (w.heap.size+1) 31 i0 z0 23 by0 Tryz.underlying44 hi hz0 hsz0 (by omega) hby0 hzs0 _ 0 [] rfl ownq (some ⟨wq5.heap.size,0,none⟩) 1 1 P5 rfl hl5.out sl5 ho5.out (by unfold maxLen;omega) (by omega) (Nat.le_trans hmx hB.size) ?_
 intro v5 wq9 own5 hg
 have r1:=Row.keptT hHeld ownq hg NT1.out
 have hb0:=(hb0.trans (hB.mono hb0.size)).grown hg (Nat.le_trans hb0.size hB.size) (fun k hk=>Nat.le_trans (Nat.le_succ _) (ownq.lt k hk).1)
 have hmx:=Nat.le_trans (Nat.le_trans hmx hB.size) hg.size
 refine hK.out _ _ r1 (fun _=>?_)
 clear hK K
 try (first | (rw[put_some];dsimp only[List.set]) | rw[put_none])
 clear hHeld
 have hHeld:=r1
 clear own ownq hg hB j0 j1 j2 j19
 have own:=own5
 clear own5
 refine rtake 10 _ (some 3) _ rfl rfl (by kernel_rfl) (by kernel_rfl) (by kernel_rfl) (fun _ _ _ h=>h) (by rfl) hHeld (by intro w hS;go_simp;try with_reducible rfl) ?_
 try (first | (rw[put_some];dsimp only[List.set]) | rw[put_none])
 refine wpAnyH_done (by kernel_rfl) ?_ _
 refine NoPanic.normal ?_
 obtain⟨j0,j1,j2,j19⟩:=RC.out _ _ r1
 go_wp2_with (first
  | (refine wpList_build2 rfl 31 0 5 _ _ rfl (.int .i64 6) (.float .f64 r.cost) (.agg P6.toArray) rfl rfl (hB6.out _) ?_)
  | (refine wpList_sliceN rfl 44 1 [_] rfl [(0,.agg P6.toArray)] rfl _ (slice_onep P6 hl6.out _) ?_;refine Hid.out ?_))
 refine Lib.hid ?_
 obtain⟨w8,hw2⟩:∃w2,w2=wq9.alloc (.cells P6.toArray 31):=⟨_,rfl⟩
 rw[←hw2]
 obtain⟨s6,hq⟩:=one_box hw2.symm
 have sl6:=sl_row s6
 rw[hl6.out] at sl6
 clear hw2 s6 j0 j1 j2 j19
 have r1:=r1.later hq r1.lt
 have own:=ownk_later own hq (Nat.le_refl _)
 have hmx:=Nat.le_trans hmx hq.size
 have hb0:=hb0.trans (hq.mono hb0.size)
 clear hq
 obtain⟨j0,j1,j2,j19⟩:=RC.out _ _ r1
 go_wp2_with (first
  | (at_builtin;refine wpList_append_k rfl (.tmp 47) (.tmp 51) 44 rfl (w.heap.size+1) 31 i0 z0 23 by0 Tryz.underlying44 hi hz0 hsz0 (by omega) hby0 hzs0 _ (0+1) ([]++P5) rfl own (some ⟨wq9.heap.size,0,none⟩) 1 1 P6 rfl hl6.out sl6 ho6.out (by unfold maxLen;omega) (by omega) hmx ?_;intro v6 wa6 own6 hg;have r1:=Row.keptT r1 own hg NT1.out;have hb0:=hb0.grown hg hb0.size (fun k hk=>Nat.le_trans (Nat.le_succ _) (own.lt k hk).1);have hmx:=Nat.le_trans hmx hg.size;clear own hg;have own:=own6;clear own6;clear j0 j1 j2 j19;obtain⟨j0,j1,j2,j19⟩:=RC.out _ _ r1))
 go_ret
 refine⟨_,([(⟨5,0,[],[],⟨r.src,(mostA r.src.v6:Nat)⟩,0⟩,none,0),(⟨6,0,[],[],zeroR,r.cost⟩,none,0)]:List PrdX),rfl,by rw[hL.out];rfl,⟨?_,?_⟩,hb0⟩
 ·have e:(([]++P5)++P6)=List.flatMap prdX ([(⟨5,0,[],[],⟨r.src,(mostA r.src.v6:Nat)⟩,0⟩,none,0),(⟨6,0,[],[],zeroR,r.cost⟩,none,0)]:List PrdX):=by rw[HP5.out,HP6.out];simp[prdX]
  rw[←e]
  exact own_base_k own (Nat.le_succ _)
 ·intro y hy
  simp only[List.mem_cons,List.not_mem_nil,or_false] at hy
  rcases hy with rfl | rfl
  ·exact at_net _ r hr
  ·exact at_cost _ r.cost hr.cost
set_option maxHeartbeats 4000000 in
theorem rof_0100 (r:Req) (w:World) (hr:r.Ok) (h0:name16 r.op=false) (x:List UInt8) (h1:normL r.path=some x) (h2:checkA r.src=false) (h3:nanC r.cost=true) :
  Calls Tryz.prog 17 #[.agg (reqV r).toArray] w fun e w'=>∃v xs,e=.returned v∧xs.map (·.1)=ofL r∧PrdsOwn w' w.heap.size v xs∧Below w.heap.size w w':=by
 obtain⟨i0,z0,by0,hi,hz0,hsz0,hby0,hzs0,hle0⟩:=infoP18
 have hL:=Lib.hid (show ofL r=[]++([⟨4,0,[],x,zeroR,0⟩]++([]++([]))) by unfold ofL ofOp ofPath ofNet ofCost;rw[h0,h1,h2,h3];rfl)
 have RC:=Lib.hid (fun W g (h:Row W g 33 (reqV r))=>req_row r W g h hr.src)
 have hsA:=Lib.hid (show (Tryz.prog.info? 26).map (·.size)=some (adrV r.src).length by rw[length_adrV hr.src];exact size_adr)
 have hnm:=fun w'=>rname16_any r.op (by have:=hr.op;omega) w'
 have hno:=fun w'=>rnormal_any r.path (by have:=hr.path;omega) w'
 have hck:=fun w'=>rcheckA_any r.src hr.src w'
 have hms:=Lib.hid (fun w'=>rmost_any r.src w')
 have hx256:=Lib.hid (norm_len r.path x h1)
 rw[h0] at hnm
 rw[h1] at hno
 rw[h2] at hck
 have o3:=order_nan r.cost hr.cost h3
 have x0:(reqV r)[0]?=some (.string (bstr r.op)):=rfl
 have hnm:=Lib.hid hnm
 have hno:=Lib.hid hno
 have hck:=Lib.hid hck
 obtain⟨R,hR⟩:∃R,R=reqV r:=⟨_,rfl⟩
 obtain⟨w1,hw1⟩:∃w1,w1=(w.alloc (.cells R.toArray 33)).alloc (.cells ([]:List Value).toArray 31):=⟨_,rfl⟩
 obtain⟨r1,-,hb0⟩:=two_boxes hw1.symm
 have hs1:(w.alloc (.cells R.toArray 33)).heap.size=w.heap.size+1:=Array.size_push _
 have own:w1.ownsRow (w.heap.size+1) 31 23 (.slice (some ⟨w.heap.size+1,0,none⟩) 0 0) 0 []:=by
  have:=World.ownsRow_lit (w.alloc (.cells R.toArray 33)) (e:=31) (size:=23) #[] 0 (Nat.le_refl _) (by unfold maxLen;omega) rfl
  rw[hs1] at this
  rw[hw1];exact this
 have HW:=Lib.hid hw1
 rw[←hR] at RC x0 ⊢
 have hmx:(w.heap.size+1)≤w1.heap.size:=by have:=own;rw[hw1];show _≤((w.alloc (.cells R.toArray 33)).heap.push _).size;rw[Array.size_push,hs1];omega
 obtain⟨nt1,nt2⟩:=ne_types
 have NT1:=Lib.hid nt1
 have NT2:=Lib.hid nt2
 clear hw1 hs1 hR nt1 nt2 h0 h1 h2 h3
 obtain⟨P4,hP4⟩:∃P,P=prdV ⟨4,0,[],x,zeroR,0⟩ none 0:=⟨_,rfl⟩
 have hl4:=Lib.hid (show P4.length=23 by rw[hP4];exact length_prdV _ zeroA_ok _ _)
 have ho4:=Lib.hid (show ∀u∈P4,u.oneCell'=true by have:=prdV_one ⟨4,0,[],x,zeroR,0⟩ none 0;rw[←hP4,List.all_toArray] at this;exact fun u hu=>List.all_eq_true.1 this u hu)
 have hB4:=Lib.hid (show ∀w',(Instr.build 31 #[(0,.int .i64 4),(3,.string (bstr x))]).run Tryz.prog w'=.ok (.agg P4.toArray) w' from fun w'=>by rw[hP4];exact build_4 x w')
 have HP4:=Lib.hid hP4
 clear hP4
 go_enter Tryz.func17,Tryz.ntmps17
 go_wp2_with (first
  | (go_at_call 44;rw[←HW.out];refine (hnm.out _).mono ?_;rintro e w' ⟨rfl,rfl⟩;obtain⟨j0,j1,j2,j19⟩:=RC.out _ _ r1)
  | (go_at_call 33;refine (hno.out _).mono ?_;rintro e w4 ⟨rfl,hq⟩;clear j0 j1 j2 j19;have r1:=r1.later hq r1.lt;have own:=ownk_later own hq (Nat.le_refl _);have hmx:=Nat.le_trans hmx hq.size;have hb0:=hb0.trans (hq.mono hb0.size);clear hq;obtain⟨j0,j1,j2,j19⟩:=RC.out _ _ r1)
  | (refine wpList_build2 rfl 31 0 3 _ _ rfl (.int .i64 4) (.string (bstr x)) (.agg P4.toArray) rfl rfl (hB4.out _) ?_)
  | (refine wpList_sliceN rfl 44 1 [_] rfl [(0,.agg P4.toArray)] rfl _ (slice_onep P4 hl4.out _) ?_;refine Hid.out ?_))
 refine Lib.hid ?_
 obtain⟨w5,hw2⟩:∃w2,w2=w4.alloc (.cells P4.toArray 31):=⟨_,rfl⟩
 rw[←hw2]
 obtain⟨s4,hq⟩:=one_box hw2.symm
 have sl4:=sl_row s4
 rw[hl4.out] at sl4
 clear hw2 s4 j0 j1 j2 j19
 have r1:=r1.later hq r1.lt
 have own:=ownk_later own hq (Nat.le_refl _)
 have hmx:=Nat.le_trans hmx hq.size
 have hb0:=hb0.trans (hq.mono hb0.size)
 clear hq
 obtain⟨j0,j1,j2,j19⟩:=RC.out _ _ r1
 go_wp2_with (first
  | (at_builtin;refine wpList_append_k rfl (.tmp 24) (.tmp 27) 44 rfl (w.heap.size+1) 31 i0 z0 23 by0 Tryz.underlying44 hi hz0 hsz0 (by omega) hby0 hzs0 _ 0 [] rfl own (some ⟨w4.heap.size,0,none⟩) 1 1 P4 rfl hl4.out sl4 ho4.out (by unfold maxLen;omega) (by omega) hmx ?_;intro v4 wa4 own4 hg;have r1:=Row.keptT r1 own hg NT1.out;have hb0:=hb0.grown hg hb0.size (fun k hk=>Nat.le_trans (Nat.le_succ _) (own.lt k hk).1);have hmx:=Nat.le_trans hmx hg.size;clear own hg;have own:=own4;clear own4;clear j0 j1 j2 j19;obtain⟨j0,j1,j2,j19⟩:=RC.out _ _ r1)
  | (with_reducible refine wpList_load_mid rfl 26 (.tmp 29) rfl w.heap.size 2 rfl (adrV r.src) _ j2 Tryz.underlying26 rfl hsA.out ?_)
  | (go_at_call 45;refine (hck.out _).mono ?_;rintro e w6 ⟨rfl,hq⟩;clear j0 j1 j2 j19;have r1:=r1.later hq r1.lt;have own:=ownk_later own hq (Nat.le_refl _);have hmx:=Nat.le_trans hmx hq.size;have hb0:=hb0.trans (hq.mono hb0.size);clear hq;obtain⟨j0,j1,j2,j19⟩:=RC.out _ _ r1))
 go_ret
 refine⟨_,([(⟨4,0,[],x,zeroR,0⟩,none,0)]:List PrdX),rfl,by rw[hL.out];rfl,⟨?_,?_⟩,hb0⟩
 ·have e:([]++P4)=List.flatMap prdX ([(⟨4,0,[],x,zeroR,0⟩,none,0)]:List PrdX):=by rw[HP4.out];simp[prdX]
  rw[←e]
  exact own_base_k own (Nat.le_succ _)
 ·intro y hy
  simp only[List.mem_cons,List.not_mem_nil,or_false] at hy
  subst hy
  exact at_path _ x hx256.out
set_option maxHeartbeats 4000000 in
theorem rof_0101 (r:Req) (w:World) (hr:r.Ok) (h0:name16 r.op=false) (x:List UInt8) (h1:normL r.path=some x) (h2:checkA r.src=false) (h3:nanC r.cost=false) :
  Calls Tryz.prog 17 #[.agg (reqV r).toArray] w fun e w'=>∃v xs,e=.returned v∧xs.map (·.1)=ofL r∧PrdsOwn w' w.heap.size v xs∧Below w.heap.size w w':=by
 obtain⟨i0,z0,by0,hi,hz0,hsz0,hby0,hzs0,hle0⟩:=infoP18
 have hL:=Lib.hid (show ofL r=[]++([⟨4,0,[],x,zeroR,0⟩]++([]++([⟨6,0,[],[],zeroR,r.cost⟩]))) by unfold ofL ofOp ofPath ofNet ofCost;rw[h0,h1,h2,h3];rfl)
 have RC:=Lib.hid (fun W g (h:Row W g 33 (reqV r))=>req_row r W g h hr.src)
 have hsA:=Lib.hid (show (Tryz.prog.info? 26).map (·.size)=some (adrV r.src).length by rw[length_adrV hr.src];exact size_adr)
 have hnm:=fun w'=>rname16_any r.op (by have:=hr.op;omega) w'
 have hno:=fun w'=>rnormal_any r.path (by have:=hr.path;omega) w'
 have hck:=fun w'=>rcheckA_any r.src hr.src w'
 have hms:=Lib.hid (fun w'=>rmost_any r.src w')
 have hx256:=Lib.hid (norm_len r.path x h1)
 rw[h0] at hnm
 rw[h1] at hno
 rw[h2] at hck
 have o3:=order_eq r.cost hr.cost h3
 have x0:(reqV r)[0]?=some (.string (bstr r.op)):=rfl
 have hnm:=Lib.hid hnm
 have hno:=Lib.hid hno
 have hck:=Lib.hid hck
 obtain⟨R,hR⟩:∃R,R=reqV r:=⟨_,rfl⟩
 obtain⟨w1,hw1⟩:∃w1,w1=(w.alloc (.cells R.toArray 33)).alloc (.cells ([]:List Value).toArray 31):=⟨_,rfl⟩
 obtain⟨r1,-,hb0⟩:=two_boxes hw1.symm
 have hs1:(w.alloc (.cells R.toArray 33)).heap.size=w.heap.size+1:=Array.size_push _
 have own:w1.ownsRow (w.heap.size+1) 31 23 (.slice (some ⟨w.heap.size+1,0,none⟩) 0 0) 0 []:=by
  have:=World.ownsRow_lit (w.alloc (.cells R.toArray 33)) (e:=31) (size:=23) #[] 0 (Nat.le_refl _) (by unfold maxLen;omega) rfl
  rw[hs1] at this
  rw[hw1];exact this
 have HW:=Lib.hid hw1
 rw[←hR] at RC x0 ⊢
 have hmx:(w.heap.size+1)≤w1.heap.size:=by have:=own;rw[hw1];show _≤((w.alloc (.cells R.toArray 33)).heap.push _).size;rw[Array.size_push,hs1];omega
 obtain⟨nt1,nt2⟩:=ne_types
 have NT1:=Lib.hid nt1
 have NT2:=Lib.hid nt2
 clear hw1 hs1 hR nt1 nt2 h0 h1 h2 h3
 obtain⟨P6,hP6⟩:∃P,P=prdV ⟨6,0,[],[],zeroR,r.cost⟩ none 0:=⟨_,rfl⟩
 have hl6:=Lib.hid (show P6.length=23 by rw[hP6];exact length_prdV _ zeroA_ok _ _)
 have ho6:=Lib.hid (show ∀u∈P6,u.oneCell'=true by have:=prdV_one ⟨6,0,[],[],zeroR,r.cost⟩ none 0;rw[←hP6,List.all_toArray] at this;exact fun u hu=>List.all_eq_true.1 this u hu)
 have hB6:=Lib.hid (show ∀w',(Instr.build 31 #[(0,.int .i64 6),(5,.float .f64 r.cost)]).run Tryz.prog w'=.ok (.agg P6.toArray) w' from fun w'=>by rw[hP6];exact build_6 r.cost w')
 have HP6:=Lib.hid hP6
 clear hP6
 obtain⟨P4,hP4⟩:∃P,P=prdV ⟨4,0,[],x,zeroR,0⟩ none 0:=⟨_,rfl⟩
 have hl4:=Lib.hid (show P4.length=23 by rw[hP4];exact length_prdV _ zeroA_ok _ _)
 have ho4:=Lib.hid (show ∀u∈P4,u.oneCell'=true by have:=prdV_one ⟨4,0,[],x,zeroR,0⟩ none 0;rw[←hP4,List.all_toArray] at this;exact fun u hu=>List.all_eq_true.1 this u hu)
 have hB4:=Lib.hid (show ∀w',(Instr.build 31 #[(0,.int .i64 4),(3,.string (bstr x))]).run Tryz.prog w'=.ok (.agg P4.toArray) w' from fun w'=>by rw[hP4];exact build_4 x w')
 have HP4:=Lib.hid hP4
 clear hP4
 go_enter Tryz.func17,Tryz.ntmps17
 go_wp2_with (first
  | (go_at_call 44;rw[←HW.out];refine (hnm.out _).mono ?_;rintro e w' ⟨rfl,rfl⟩;obtain⟨j0,j1,j2,j19⟩:=RC.out _ _ r1)
  | (go_at_call 33;refine (hno.out _).mono ?_;rintro e w4 ⟨rfl,hq⟩;clear j0 j1 j2 j19;have r1:=r1.later hq r1.lt;have own:=ownk_later own hq (Nat.le_refl _);have hmx:=Nat.le_trans hmx hq.size;have hb0:=hb0.trans (hq.mono hb0.size);clear hq;obtain⟨j0,j1,j2,j19⟩:=RC.out _ _ r1)
  | (refine wpList_build2 rfl 31 0 3 _ _ rfl (.int .i64 4) (.string (bstr x)) (.agg P4.toArray) rfl rfl (hB4.out _) ?_)
  | (refine wpList_sliceN rfl 44 1 [_] rfl [(0,.agg P4.toArray)] rfl _ (slice_onep P4 hl4.out _) ?_;refine Hid.out ?_))
 refine Lib.hid ?_
 obtain⟨w5,hw2⟩:∃w2,w2=w4.alloc (.cells P4.toArray 31):=⟨_,rfl⟩
 rw[←hw2]
 obtain⟨s4,hq⟩:=one_box hw2.symm
 have sl4:=sl_row s4
 rw[hl4.out] at sl4
 clear hw2 s4 j0 j1 j2 j19
 have r1:=r1.later hq r1.lt
 have own:=ownk_later own hq (Nat.le_refl _)
 have hmx:=Nat.le_trans hmx hq.size
 have hb0:=hb0.trans (hq.mono hb0.size)
 clear hq
 obtain⟨j0,j1,j2,j19⟩:=RC.out _ _ r1
 go_wp2_with (first
  | (at_builtin;refine wpList_append_k rfl (.tmp 24) (.tmp 27) 44 rfl (w.heap.size+1) 31 i0 z0 23 by0 Tryz.underlying44 hi hz0 hsz0 (by omega) hby0 hzs0 _ 0 [] rfl own (some ⟨w4.heap.size,0,none⟩) 1 1 P4 rfl hl4.out sl4 ho4.out (by unfold maxLen;omega) (by omega) hmx ?_;intro v4 wa4 own4 hg;have r1:=Row.keptT r1 own hg NT1.out;have hb0:=hb0.grown hg hb0.size (fun k hk=>Nat.le_trans (Nat.le_succ _) (own.lt k hk).1);have hmx:=Nat.le_trans hmx hg.size;clear own hg;have own:=own4;clear own4;clear j0 j1 j2 j19;obtain⟨j0,j1,j2,j19⟩:=RC.out _ _ r1)
  | (with_reducible refine wpList_load_mid rfl 26 (.tmp 29) rfl w.heap.size 2 rfl (adrV r.src) _ j2 Tryz.underlying26 rfl hsA.out ?_)
  | (go_at_call 45;refine (hck.out _).mono ?_;rintro e w6 ⟨rfl,hq⟩;clear j0 j1 j2 j19;have r1:=r1.later hq r1.lt;have own:=ownk_later own hq (Nat.le_refl _);have hmx:=Nat.le_trans hmx hq.size;have hb0:=hb0.trans (hq.mono hb0.size);clear hq;obtain⟨j0,j1,j2,j19⟩:=RC.out _ _ r1)
  | (refine wpList_build2 rfl 31 0 5 _ _ rfl (.int .i64 6) (.float .f64 r.cost) (.agg P6.toArray) rfl rfl (hB6.out _) ?_)
  | (refine wpList_sliceN rfl 44 1 [_] rfl [(0,.agg P6.toArray)] rfl _ (slice_onep P6 hl6.out _) ?_;refine Hid.out ?_))
 refine Lib.hid ?_
 obtain⟨w8,hw2⟩:∃w2,w2=w6.alloc (.cells P6.toArray 31):=⟨_,rfl⟩
 rw[←hw2]
 obtain⟨s6,hq⟩:=one_box hw2.symm
 have sl6:=sl_row s6
 rw[hl6.out] at sl6
 clear hw2 s6 j0 j1 j2 j19
 have r1:=r1.later hq r1.lt
 have own:=ownk_later own hq (Nat.le_refl _)
 have hmx:=Nat.le_trans hmx hq.size
 have hb0:=hb0.trans (hq.mono hb0.size)
 clear hq
 obtain⟨j0,j1,j2,j19⟩:=RC.out _ _ r1
 go_wp2_with (first
  | (at_builtin;refine wpList_append_k rfl (.tmp 47) (.tmp 51) 44 rfl (w.heap.size+1) 31 i0 z0 23 by0 Tryz.underlying44 hi hz0 hsz0 (by omega) hby0 hzs0 _ (0+1) ([]++P4) rfl own (some ⟨w6.heap.size,0,none⟩) 1 1 P6 rfl hl6.out sl6 ho6.out (by unfold maxLen;omega) (by omega) hmx ?_;intro v6 wa6 own6 hg;have r1:=Row.keptT r1 own hg NT1.out;have hb0:=hb0.grown hg hb0.size (fun k hk=>Nat.le_trans (Nat.le_succ _) (own.lt k hk).1);have hmx:=Nat.le_trans hmx hg.size;clear own hg;have own:=own6;clear own6;clear j0 j1 j2 j19;obtain⟨j0,j1,j2,j19⟩:=RC.out _ _ r1))
 go_ret
 refine⟨_,([(⟨4,0,[],x,zeroR,0⟩,none,0),(⟨6,0,[],[],zeroR,r.cost⟩,none,0)]:List PrdX),rfl,by rw[hL.out];rfl,⟨?_,?_⟩,hb0⟩
 ·have e:(([]++P4)++P6)=List.flatMap prdX ([(⟨4,0,[],x,zeroR,0⟩,none,0),(⟨6,0,[],[],zeroR,r.cost⟩,none,0)]:List PrdX):=by rw[HP4.out,HP6.out];simp[prdX]
  rw[←e]
  exact own_base_k own (Nat.le_succ _)
 ·intro y hy
  simp only[List.mem_cons,List.not_mem_nil,or_false] at hy
  rcases hy with rfl | rfl
  ·exact at_path _ x hx256.out
  ·exact at_cost _ r.cost hr.cost
set_option maxHeartbeats 4000000 in
theorem rof_0110 (r:Req) (w:World) (hr:r.Ok) (h0:name16 r.op=false) (x:List UInt8) (h1:normL r.path=some x) (h2:checkA r.src=true) (h3:nanC r.cost=true) :
  Calls Tryz.prog 17 #[.agg (reqV r).toArray] w fun e w'=>∃v xs,e=.returned v∧xs.map (·.1)=ofL r∧PrdsOwn w' w.heap.size v xs∧Below w.heap.size w w':=by
 obtain⟨i0,z0,by0,hi,hz0,hsz0,hby0,hzs0,hle0⟩:=infoP18
 have hL:=Lib.hid (show ofL r=[]++([⟨4,0,[],x,zeroR,0⟩]++([⟨5,0,[],[],⟨r.src,(mostA r.src.v6:Nat)⟩,0⟩]++([]))) by unfold ofL ofOp ofPath ofNet ofCost;rw[h0,h1,h2,h3];rfl)
 have RC:=Lib.hid (fun W g (h:Row W g 33 (reqV r))=>req_row r W g h hr.src)
 have hsA:=Lib.hid (show (Tryz.prog.info? 26).map (·.size)=some (adrV r.src).length by rw[length_adrV hr.src];exact size_adr)
 have hnm:=fun w'=>rname16_any r.op (by have:=hr.op;omega) w'
 have hno:=fun w'=>rnormal_any r.path (by have:=hr.path;omega) w'
 have hck:=fun w'=>rcheckA_any r.src hr.src w'
 have hms:=Lib.hid (fun w'=>rmost_any r.src w')
 have hx256:=Lib.hid (norm_len r.path x h1)
 rw[h0] at hnm
 rw[h1] at hno
 rw[h2] at hck
 have o3:=order_nan r.cost hr.cost h3
 have x0:(reqV r)[0]?=some (.string (bstr r.op)):=rfl
 have hnm:=Lib.hid hnm
 have hno:=Lib.hid hno
 have hck:=Lib.hid hck
 obtain⟨R,hR⟩:∃R,R=reqV r:=⟨_,rfl⟩
 obtain⟨w1,hw1⟩:∃w1,w1=(w.alloc (.cells R.toArray 33)).alloc (.cells ([]:List Value).toArray 31):=⟨_,rfl⟩
 obtain⟨r1,-,hb0⟩:=two_boxes hw1.symm
 have hs1:(w.alloc (.cells R.toArray 33)).heap.size=w.heap.size+1:=Array.size_push _
 have own:w1.ownsRow (w.heap.size+1) 31 23 (.slice (some ⟨w.heap.size+1,0,none⟩) 0 0) 0 []:=by
  have:=World.ownsRow_lit (w.alloc (.cells R.toArray 33)) (e:=31) (size:=23) #[] 0 (Nat.le_refl _) (by unfold maxLen;omega) rfl
  rw[hs1] at this
  rw[hw1];exact this
 have HW:=Lib.hid hw1
 rw[←hR] at RC x0 ⊢
 have hmx:(w.heap.size+1)≤w1.heap.size:=by have:=own;rw[hw1];show _≤((w.alloc (.cells R.toArray 33)).heap.push _).size;rw[Array.size_push,hs1];omega
 obtain⟨nt1,nt2⟩:=ne_types
 have NT1:=Lib.hid nt1
 have NT2:=Lib.hid nt2
 clear hw1 hs1 hR nt1 nt2 h0 h1 h2 h3
 obtain⟨P5,hP5⟩:∃P,P=prdV ⟨5,0,[],[],⟨r.src,(mostA r.src.v6:Nat)⟩,0⟩ none 0:=⟨_,rfl⟩
 have hl5:=Lib.hid (show P5.length=23 by rw[hP5];exact length_prdV _ hr.src _ _)
 have ho5:=Lib.hid (show ∀u∈P5,u.oneCell'=true by have:=prdV_one ⟨5,0,[],[],⟨r.src,(mostA r.src.v6:Nat)⟩,0⟩ none 0;rw[←hP5,List.all_toArray] at this;exact fun u hu=>List.all_eq_true.1 this u hu)
 obtain⟨N5,hN5⟩:∃N,N=adrV r.src++[Value.int .i64 ((mostA r.src.v6:Nat):Int)]:=⟨_,rfl⟩
 have hBR:=Lib.hid (show ∀w',(Instr.build 28 #[(0,.agg (adrV r.src).toArray),(1,.int .i64 ((mostA r.src.v6:Nat):Int))]).run Tryz.prog w'=.ok (.agg N5.toArray) w' from fun w'=>by rw[hN5];exact build_rng (adrV r.src) _ (length_adrV hr.src) w')
 have hB5:=Lib.hid (show ∀w',(Instr.build 31 #[(0,.int .i64 5),(4,.agg N5.toArray)]).run Tryz.prog w'=.ok (.agg P5.toArray) w' from fun w'=>by
  have hl:N5.length=18:=by rw[hN5,List.length_append,length_adrV hr.src];rfl
  refine (build_5 N5 hl w').trans ?_
  rw[hP5,hN5];rfl)
 have HP5:=Lib.hid hP5
 clear hP5 hN5
 obtain⟨P4,hP4⟩:∃P,P=prdV ⟨4,0,[],x,zeroR,0⟩ none 0:=⟨_,rfl⟩
 have hl4:=Lib.hid (show P4.length=23 by rw[hP4];exact length_prdV _ zeroA_ok _ _)
 have ho4:=Lib.hid (show ∀u∈P4,u.oneCell'=true by have:=prdV_one ⟨4,0,[],x,zeroR,0⟩ none 0;rw[←hP4,List.all_toArray] at this;exact fun u hu=>List.all_eq_true.1 this u hu)
 have hB4:=Lib.hid (show ∀w',(Instr.build 31 #[(0,.int .i64 4),(3,.string (bstr x))]).run Tryz.prog w'=.ok (.agg P4.toArray) w' from fun w'=>by rw[hP4];exact build_4 x w')
 have HP4:=Lib.hid hP4
 clear hP4
 go_enter Tryz.func17,Tryz.ntmps17
 go_wp2_with (first
  | (go_at_call 44;rw[←HW.out];refine (hnm.out _).mono ?_;rintro e w' ⟨rfl,rfl⟩;obtain⟨j0,j1,j2,j19⟩:=RC.out _ _ r1)
  | (go_at_call 33;refine (hno.out _).mono ?_;rintro e w4 ⟨rfl,hq⟩;clear j0 j1 j2 j19;have r1:=r1.later hq r1.lt;have own:=ownk_later own hq (Nat.le_refl _);have hmx:=Nat.le_trans hmx hq.size;have hb0:=hb0.trans (hq.mono hb0.size);clear hq;obtain⟨j0,j1,j2,j19⟩:=RC.out _ _ r1)
  | (refine wpList_build2 rfl 31 0 3 _ _ rfl (.int .i64 4) (.string (bstr x)) (.agg P4.toArray) rfl rfl (hB4.out _) ?_)
  | (refine wpList_sliceN rfl 44 1 [_] rfl [(0,.agg P4.toArray)] rfl _ (slice_onep P4 hl4.out _) ?_;refine Hid.out ?_))
 refine Lib.hid ?_
 obtain⟨w5,hw2⟩:∃w2,w2=w4.alloc (.cells P4.toArray 31):=⟨_,rfl⟩
 rw[←hw2]
 obtain⟨s4,hq⟩:=one_box hw2.symm
 have sl4:=sl_row s4
 rw[hl4.out] at sl4
 clear hw2 s4 j0 j1 j2 j19
 have r1:=r1.later hq r1.lt
 have own:=ownk_later own hq (Nat.le_refl _)
 have hmx:=Nat.le_trans hmx hq.size
 have hb0:=hb0.trans (hq.mono hb0.size)
 clear hq
 obtain⟨j0,j1,j2,j19⟩:=RC.out _ _ r1
 go_wp2_with (first
  | (at_builtin;refine wpList_append_k rfl (.tmp 24) (.tmp 27) 44 rfl (w.heap.size+1) 31 i0 z0 23 by0 Tryz.underlying44 hi hz0 hsz0 (by omega) hby0 hzs0 _ 0 [] rfl own (some ⟨w4.heap.size,0,none⟩) 1 1 P4 rfl hl4.out sl4 ho4.out (by unfold maxLen;omega) (by omega) hmx ?_;intro v4 wa4 own4 hg;have r1:=Row.keptT r1 own hg NT1.out;have hb0:=hb0.grown hg hb0.size (fun k hk=>Nat.le_trans (Nat.le_succ _) (own.lt k hk).1);have hmx:=Nat.le_trans hmx hg.size;clear own hg;have own:=own4;clear own4;clear j0 j1 j2 j19;obtain⟨j0,j1,j2,j19⟩:=RC.out _ _ r1)
  | (with_reducible refine wpList_load_mid rfl 26 (.tmp 29) rfl w.heap.size 2 rfl (adrV r.src) _ j2 Tryz.underlying26 rfl hsA.out ?_)
  | (go_at_call 45;refine (hck.out _).mono ?_;rintro e w6 ⟨rfl,hq⟩;clear j0 j1 j2 j19;have r1:=r1.later hq r1.lt;have own:=ownk_later own hq (Nat.le_refl _);have hmx:=Nat.le_trans hmx hq.size;have hb0:=hb0.trans (hq.mono hb0.size);clear hq;obtain⟨j0,j1,j2,j19⟩:=RC.out _ _ r1))
 refine wp_region_noPanic ?_
 refine wp_region_held_drew (S:=fun w'=>Row w' w.heap.size 33 R) (by kernel_rfl) (r1.later ((Below.refl _ _).drew) r1.lt) (fun hHeld=>?_)
 have hB:Below w6.heap.size w6 w6.drew:=(Below.refl _ _).drew
 refine rtake 0 _ (some 32) _ rfl rfl (by kernel_rfl) (by kernel_rfl) (by kernel_rfl) (fun _ _ _ h=>h) (by rfl) hHeld (by intro w hS;go_simp;try with_reducible rfl) ?_
 try (first | (rw[put_some];dsimp only[List.set]) | rw[put_none])
 refine rtake 1 _ (some 33) _ rfl rfl (by kernel_rfl) (by kernel_rfl) (by kernel_rfl) (fun _ _ _ h=>h) (by rfl) hHeld (by intro w hS;go_simp;try with_reducible rfl) ?_
 try (first | (rw[put_some];dsimp only[List.set]) | rw[put_none])
 refine rtake 2 _ (some 34) _ rfl rfl (by kernel_rfl) (by kernel_rfl) (by kernel_rfl) (fun _ _ _ h=>h) (by rfl) hHeld (by intro w hS;exact run_load_op 26 (.tmp 33) rfl _ 2 rfl (adrV r.src) _ (RC.out _ _ hS).2.2.1 Tryz.underlying26 rfl hsA.out) ?_
 try (first | (rw[put_some];dsimp only[List.set]) | rw[put_none])
 refine rtake 3 _ (some 35) _ rfl rfl (by kernel_rfl) (by kernel_rfl) (by kernel_rfl) (fun _ _ _ h=>h) (by rfl) hHeld (by intro w hS;go_simp;try with_reducible rfl) ?_
 try (first | (rw[put_some];dsimp only[List.set]) | rw[put_none])
 refine rtake 4 _ (some 36) _ rfl rfl (by kernel_rfl) (by kernel_rfl) (by kernel_rfl) (fun _ _ _ h=>h) (by rfl) hHeld (by intro w hS;exact run_load_op 26 (.tmp 35) rfl _ 2 rfl (adrV r.src) _ (RC.out _ _ hS).2.2.1 Tryz.underlying26 rfl hsA.out) ?_
 try (first | (rw[put_some];dsimp only[List.set]) | rw[put_none])
 refine wpAnyH_ready (rs:=[5]) (by kernel_rfl) (by simp) (AllReadyH.cons (o:=_) rfl (fun K hK=>?_) AllReadyH.nil)
 go_simp
 refine (hms.out _).mono ?_;rintro e wq5 ⟨rfl,hq5⟩
 try go_wp2_with fail
 refine hK.out _ _ (hHeld.later hq5 hHeld.lt) (fun _=>?_)
 clear hK K
 try (first | (rw[put_some];dsimp only[List.set]) | rw[put_none])
 have hB:=below_step hB hq5
 have hHeld:=r1.later hB r1.lt
 refine rtake 6 _ (some 38) _ rfl rfl (by kernel_rfl) (by kernel_rfl) (by kernel_rfl) (fun _ _ _ h=>h) (by rfl) hHeld (by intro w hS;exact run_build_op2 28 0 1 (.tmp 34) (.tmp 37) rfl (.agg (adrV r.src).toArray) (.int .i64 ((mostA r.src.v6:Nat):Int)) (.agg N5.toArray) rfl rfl (hBR.out _)) ?_
 try (first | (rw[put_some];dsimp only[List.set]) | rw[put_none])
 refine rtake 7 _ (some 39) _ rfl rfl (by kernel_rfl) (by kernel_rfl) (by kernel_rfl) (fun _ _ _ h=>h) (by rfl) hHeld (by intro w hS;exact run_build_op2 31 0 4 _ (.tmp 38) rfl (.int .i64 5) (.agg N5.toArray) (.agg P5.toArray) rfl rfl (hB5.out _)) ?_
 try (first | (rw[put_some];dsimp only[List.set]) | rw[put_none])
 refine wpAnyH_ready (rs:=[8]) (by kernel_rfl) (by simp) (AllReadyH.cons (o:=_) rfl (fun K hK=>?_) AllReadyH.nil)
 refine step_onep (some 40) rfl (by rfl) (.tmp 39) rfl P5 hl5.out rfl ?_
 intro wq8 sl5 hq8
 refine hK.out _ _ (hHeld.later hq8 hHeld.lt) (fun _=>?_)
 clear hK K
 try (first | (rw[put_some];dsimp only[List.set]) | rw[put_none])
 have hB:=below_step hB hq8
 have hHeld:=r1.later hB r1.lt
 have ownq:=ownk_later own hB (Nat.le_refl _)
 refine wpAnyH_ready (rs:=[9]) (by kernel_rfl) (by simp) (AllReadyH.cons (o:=_) rfl (fun K hK=>?_) AllReadyH.nil)
 refine step_append_k (some 41) rfl (by rfl) (.tmp 32) (.tmp 40) 44 rfl (w.heap.size+1) 31 i0 z0 23 by0 Tryz.underlying44 hi hz0 hsz0 (by omega) hby0 hzs0 _ (0+1) ([]++P4) rfl ownq (some ⟨wq5.heap.size,0,none⟩) 1 1 P5 rfl hl5.out sl5 ho5.out (by unfold maxLen;omega) (by omega) (Nat.le_trans hmx hB.size) ?_
 intro v5 wq9 own5 hg
 have r1:=Row.keptT hHeld ownq hg NT1.out
 have hb0:=(hb0.trans (hB.mono hb0.size)).grown hg (Nat.le_trans hb0.size hB.size) (fun k hk=>Nat.le_trans (Nat.le_succ _) (ownq.lt k hk).1)
 have hmx:=Nat.le_trans (Nat.le_trans hmx hB.size) hg.size
 refine hK.out _ _ r1 (fun _=>?_)
 clear hK K
 try (first | (rw[put_some];dsimp only[List.set]) | rw[put_none])
 clear hHeld
 have hHeld:=r1
 clear own ownq hg hB j0 j1 j2 j19
 have own:=own5
 clear own5
 refine rtake 10 _ (some 3) _ rfl rfl (by kernel_rfl) (by kernel_rfl) (by kernel_rfl) (fun _ _ _ h=>h) (by rfl) hHeld (by intro w hS;go_simp;try with_reducible rfl) ?_
 try (first | (rw[put_some];dsimp only[List.set]) | rw[put_none])
 refine wpAnyH_done (by kernel_rfl) ?_ _
 refine NoPanic.normal ?_
 obtain⟨j0,j1,j2,j19⟩:=RC.out _ _ r1
 go_wp2
 go_ret
 refine⟨_,([(⟨4,0,[],x,zeroR,0⟩,none,0),(⟨5,0,[],[],⟨r.src,(mostA r.src.v6:Nat)⟩,0⟩,none,0)]:List PrdX),rfl,by rw[hL.out];rfl,⟨?_,?_⟩,hb0⟩
 ·have e:(([]++P4)++P5)=List.flatMap prdX ([(⟨4,0,[],x,zeroR,0⟩,none,0),(⟨5,0,[],[],⟨r.src,(mostA r.src.v6:Nat)⟩,0⟩,none,0)]:List PrdX):=by rw[HP4.out,HP5.out];simp[prdX]
  rw[←e]
  exact own_base_k own (Nat.le_succ _)
 ·intro y hy
  simp only[List.mem_cons,List.not_mem_nil,or_false] at hy
  rcases hy with rfl | rfl
  ·exact at_path _ x hx256.out
  ·exact at_net _ r hr
set_option maxHeartbeats 4000000 in
theorem rof_0111 (r:Req) (w:World) (hr:r.Ok) (h0:name16 r.op=false) (x:List UInt8) (h1:normL r.path=some x) (h2:checkA r.src=true) (h3:nanC r.cost=false) :
  Calls Tryz.prog 17 #[.agg (reqV r).toArray] w fun e w'=>∃v xs,e=.returned v∧xs.map (·.1)=ofL r∧PrdsOwn w' w.heap.size v xs∧Below w.heap.size w w':=by
 obtain⟨i0,z0,by0,hi,hz0,hsz0,hby0,hzs0,hle0⟩:=infoP18
 have hL:=Lib.hid (show ofL r=[]++([⟨4,0,[],x,zeroR,0⟩]++([⟨5,0,[],[],⟨r.src,(mostA r.src.v6:Nat)⟩,0⟩]++([⟨6,0,[],[],zeroR,r.cost⟩]))) by unfold ofL ofOp ofPath ofNet ofCost;rw[h0,h1,h2,h3];rfl)
 have RC:=Lib.hid (fun W g (h:Row W g 33 (reqV r))=>req_row r W g h hr.src)
 have hsA:=Lib.hid (show (Tryz.prog.info? 26).map (·.size)=some (adrV r.src).length by rw[length_adrV hr.src];exact size_adr)
 have hnm:=fun w'=>rname16_any r.op (by have:=hr.op;omega) w'
 have hno:=fun w'=>rnormal_any r.path (by have:=hr.path;omega) w'
 have hck:=fun w'=>rcheckA_any r.src hr.src w'
 have hms:=Lib.hid (fun w'=>rmost_any r.src w')
 have hx256:=Lib.hid (norm_len r.path x h1)
 rw[h0] at hnm
 rw[h1] at hno
 rw[h2] at hck
 have o3:=order_eq r.cost hr.cost h3
 have x0:(reqV r)[0]?=some (.string (bstr r.op)):=rfl
 have hnm:=Lib.hid hnm
 have hno:=Lib.hid hno
 have hck:=Lib.hid hck
 obtain⟨R,hR⟩:∃R,R=reqV r:=⟨_,rfl⟩
 obtain⟨w1,hw1⟩:∃w1,w1=(w.alloc (.cells R.toArray 33)).alloc (.cells ([]:List Value).toArray 31):=⟨_,rfl⟩
 obtain⟨r1,-,hb0⟩:=two_boxes hw1.symm
 have hs1:(w.alloc (.cells R.toArray 33)).heap.size=w.heap.size+1:=Array.size_push _
 have own:w1.ownsRow (w.heap.size+1) 31 23 (.slice (some ⟨w.heap.size+1,0,none⟩) 0 0) 0 []:=by
  have:=World.ownsRow_lit (w.alloc (.cells R.toArray 33)) (e:=31) (size:=23) #[] 0 (Nat.le_refl _) (by unfold maxLen;omega) rfl
  rw[hs1] at this
  rw[hw1];exact this
 have HW:=Lib.hid hw1
 rw[←hR] at RC x0 ⊢
 have hmx:(w.heap.size+1)≤w1.heap.size:=by have:=own;rw[hw1];show _≤((w.alloc (.cells R.toArray 33)).heap.push _).size;rw[Array.size_push,hs1];omega
 obtain⟨nt1,nt2⟩:=ne_types
 have NT1:=Lib.hid nt1
 have NT2:=Lib.hid nt2
 clear hw1 hs1 hR nt1 nt2 h0 h1 h2 h3
 obtain⟨P5,hP5⟩:∃P,P=prdV ⟨5,0,[],[],⟨r.src,(mostA r.src.v6:Nat)⟩,0⟩ none 0:=⟨_,rfl⟩
 have hl5:=Lib.hid (show P5.length=23 by rw[hP5];exact length_prdV _ hr.src _ _)
 have ho5:=Lib.hid (show ∀u∈P5,u.oneCell'=true by have:=prdV_one ⟨5,0,[],[],⟨r.src,(mostA r.src.v6:Nat)⟩,0⟩ none 0;rw[←hP5,List.all_toArray] at this;exact fun u hu=>List.all_eq_true.1 this u hu)
 obtain⟨N5,hN5⟩:∃N,N=adrV r.src++[Value.int .i64 ((mostA r.src.v6:Nat):Int)]:=⟨_,rfl⟩
 have hBR:=Lib.hid (show ∀w',(Instr.build 28 #[(0,.agg (adrV r.src).toArray),(1,.int .i64 ((mostA r.src.v6:Nat):Int))]).run Tryz.prog w'=.ok (.agg N5.toArray) w' from fun w'=>by rw[hN5];exact build_rng (adrV r.src) _ (length_adrV hr.src) w')
 have hB5:=Lib.hid (show ∀w',(Instr.build 31 #[(0,.int .i64 5),(4,.agg N5.toArray)]).run Tryz.prog w'=.ok (.agg P5.toArray) w' from fun w'=>by
  have hl:N5.length=18:=by rw[hN5,List.length_append,length_adrV hr.src];rfl
  refine (build_5 N5 hl w').trans ?_
  rw[hP5,hN5];rfl)
 have HP5:=Lib.hid hP5
 clear hP5 hN5
 obtain⟨P6,hP6⟩:∃P,P=prdV ⟨6,0,[],[],zeroR,r.cost⟩ none 0:=⟨_,rfl⟩
 have hl6:=Lib.hid (show P6.length=23 by rw[hP6];exact length_prdV _ zeroA_ok _ _)
 have ho6:=Lib.hid (show ∀u∈P6,u.oneCell'=true by have:=prdV_one ⟨6,0,[],[],zeroR,r.cost⟩ none 0;rw[←hP6,List.all_toArray] at this;exact fun u hu=>List.all_eq_true.1 this u hu)
 have hB6:=Lib.hid (show ∀w',(Instr.build 31 #[(0,.int .i64 6),(5,.float .f64 r.cost)]).run Tryz.prog w'=.ok (.agg P6.toArray) w' from fun w'=>by rw[hP6];exact build_6 r.cost w')
 have HP6:=Lib.hid hP6
 clear hP6
 obtain⟨P4,hP4⟩:∃P,P=prdV ⟨4,0,[],x,zeroR,0⟩ none 0:=⟨_,rfl⟩
 have hl4:=Lib.hid (show P4.length=23 by rw[hP4];exact length_prdV _ zeroA_ok _ _)
 have ho4:=Lib.hid (show ∀u∈P4,u.oneCell'=true by have:=prdV_one ⟨4,0,[],x,zeroR,0⟩ none 0;rw[←hP4,List.all_toArray] at this;exact fun u hu=>List.all_eq_true.1 this u hu)
 have hB4:=Lib.hid (show ∀w',(Instr.build 31 #[(0,.int .i64 4),(3,.string (bstr x))]).run Tryz.prog w'=.ok (.agg P4.toArray) w' from fun w'=>by rw[hP4];exact build_4 x w')
 have HP4:=Lib.hid hP4
 clear hP4
 go_enter Tryz.func17,Tryz.ntmps17
 go_wp2_with (first
  | (go_at_call 44;rw[←HW.out];refine (hnm.out _).mono ?_;rintro e w' ⟨rfl,rfl⟩;obtain⟨j0,j1,j2,j19⟩:=RC.out _ _ r1)
  | (go_at_call 33;refine (hno.out _).mono ?_;rintro e w4 ⟨rfl,hq⟩;clear j0 j1 j2 j19;have r1:=r1.later hq r1.lt;have own:=ownk_later own hq (Nat.le_refl _);have hmx:=Nat.le_trans hmx hq.size;have hb0:=hb0.trans (hq.mono hb0.size);clear hq;obtain⟨j0,j1,j2,j19⟩:=RC.out _ _ r1)
  | (refine wpList_build2 rfl 31 0 3 _ _ rfl (.int .i64 4) (.string (bstr x)) (.agg P4.toArray) rfl rfl (hB4.out _) ?_)
  | (refine wpList_sliceN rfl 44 1 [_] rfl [(0,.agg P4.toArray)] rfl _ (slice_onep P4 hl4.out _) ?_;refine Hid.out ?_))
 refine Lib.hid ?_
 obtain⟨w5,hw2⟩:∃w2,w2=w4.alloc (.cells P4.toArray 31):=⟨_,rfl⟩
 rw[←hw2]
 obtain⟨s4,hq⟩:=one_box hw2.symm
 have sl4:=sl_row s4
 rw[hl4.out] at sl4
 clear hw2 s4 j0 j1 j2 j19
 have r1:=r1.later hq r1.lt
 have own:=ownk_later own hq (Nat.le_refl _)
 have hmx:=Nat.le_trans hmx hq.size
 have hb0:=hb0.trans (hq.mono hb0.size)
 clear hq
 obtain⟨j0,j1,j2,j19⟩:=RC.out _ _ r1
 go_wp2_with (first
  | (at_builtin;refine wpList_append_k rfl (.tmp 24) (.tmp 27) 44 rfl (w.heap.size+1) 31 i0 z0 23 by0 Tryz.underlying44 hi hz0 hsz0 (by omega) hby0 hzs0 _ 0 [] rfl own (some ⟨w4.heap.size,0,none⟩) 1 1 P4 rfl hl4.out sl4 ho4.out (by unfold maxLen;omega) (by omega) hmx ?_;intro v4 wa4 own4 hg;have r1:=Row.keptT r1 own hg NT1.out;have hb0:=hb0.grown hg hb0.size (fun k hk=>Nat.le_trans (Nat.le_succ _) (own.lt k hk).1);have hmx:=Nat.le_trans hmx hg.size;clear own hg;have own:=own4;clear own4;clear j0 j1 j2 j19;obtain⟨j0,j1,j2,j19⟩:=RC.out _ _ r1)
  | (with_reducible refine wpList_load_mid rfl 26 (.tmp 29) rfl w.heap.size 2 rfl (adrV r.src) _ j2 Tryz.underlying26 rfl hsA.out ?_)
  | (go_at_call 45;refine (hck.out _).mono ?_;rintro e w6 ⟨rfl,hq⟩;clear j0 j1 j2 j19;have r1:=r1.later hq r1.lt;have own:=ownk_later own hq (Nat.le_refl _);have hmx:=Nat.le_trans hmx hq.size;have hb0:=hb0.trans (hq.mono hb0.size);clear hq;obtain⟨j0,j1,j2,j19⟩:=RC.out _ _ r1))
 refine wp_region_noPanic ?_
 refine wp_region_held_drew (S:=fun w'=>Row w' w.heap.size 33 R) (by kernel_rfl) (r1.later ((Below.refl _ _).drew) r1.lt) (fun hHeld=>?_)
 have hB:Below w6.heap.size w6 w6.drew:=(Below.refl _ _).drew
 refine rtake 0 _ (some 32) _ rfl rfl (by kernel_rfl) (by kernel_rfl) (by kernel_rfl) (fun _ _ _ h=>h) (by rfl) hHeld (by intro w hS;go_simp;try with_reducible rfl) ?_
 try (first | (rw[put_some];dsimp only[List.set]) | rw[put_none])
 refine rtake 1 _ (some 33) _ rfl rfl (by kernel_rfl) (by kernel_rfl) (by kernel_rfl) (fun _ _ _ h=>h) (by rfl) hHeld (by intro w hS;go_simp;try with_reducible rfl) ?_
 try (first | (rw[put_some];dsimp only[List.set]) | rw[put_none])
 refine rtake 2 _ (some 34) _ rfl rfl (by kernel_rfl) (by kernel_rfl) (by kernel_rfl) (fun _ _ _ h=>h) (by rfl) hHeld (by intro w hS;exact run_load_op 26 (.tmp 33) rfl _ 2 rfl (adrV r.src) _ (RC.out _ _ hS).2.2.1 Tryz.underlying26 rfl hsA.out) ?_
 try (first | (rw[put_some];dsimp only[List.set]) | rw[put_none])
 refine rtake 3 _ (some 35) _ rfl rfl (by kernel_rfl) (by kernel_rfl) (by kernel_rfl) (fun _ _ _ h=>h) (by rfl) hHeld (by intro w hS;go_simp;try with_reducible rfl) ?_
 try (first | (rw[put_some];dsimp only[List.set]) | rw[put_none])
 refine rtake 4 _ (some 36) _ rfl rfl (by kernel_rfl) (by kernel_rfl) (by kernel_rfl) (fun _ _ _ h=>h) (by rfl) hHeld (by intro w hS;exact run_load_op 26 (.tmp 35) rfl _ 2 rfl (adrV r.src) _ (RC.out _ _ hS).2.2.1 Tryz.underlying26 rfl hsA.out) ?_
 try (first | (rw[put_some];dsimp only[List.set]) | rw[put_none])
 refine wpAnyH_ready (rs:=[5]) (by kernel_rfl) (by simp) (AllReadyH.cons (o:=_) rfl (fun K hK=>?_) AllReadyH.nil)
 go_simp
 refine (hms.out _).mono ?_;rintro e wq5 ⟨rfl,hq5⟩
 try go_wp2_with fail
 refine hK.out _ _ (hHeld.later hq5 hHeld.lt) (fun _=>?_)
 clear hK K
 try (first | (rw[put_some];dsimp only[List.set]) | rw[put_none])
 have hB:=below_step hB hq5
 have hHeld:=r1.later hB r1.lt
 refine rtake 6 _ (some 38) _ rfl rfl (by kernel_rfl) (by kernel_rfl) (by kernel_rfl) (fun _ _ _ h=>h) (by rfl) hHeld (by intro w hS;exact run_build_op2 28 0 1 (.tmp 34) (.tmp 37) rfl (.agg (adrV r.src).toArray) (.int .i64 ((mostA r.src.v6:Nat):Int)) (.agg N5.toArray) rfl rfl (hBR.out _)) ?_
 try (first | (rw[put_some];dsimp only[List.set]) | rw[put_none])
 refine rtake 7 _ (some 39) _ rfl rfl (by kernel_rfl) (by kernel_rfl) (by kernel_rfl) (fun _ _ _ h=>h) (by rfl) hHeld (by intro w hS;exact run_build_op2 31 0 4 _ (.tmp 38) rfl (.int .i64 5) (.agg N5.toArray) (.agg P5.toArray) rfl rfl (hB5.out _)) ?_
 try (first | (rw[put_some];dsimp only[List.set]) | rw[put_none])
 refine wpAnyH_ready (rs:=[8]) (by kernel_rfl) (by simp) (AllReadyH.cons (o:=_) rfl (fun K hK=>?_) AllReadyH.nil)
 refine step_onep (some 40) rfl (by rfl) (.tmp 39) rfl P5 hl5.out rfl ?_
 intro wq8 sl5 hq8
 refine hK.out _ _ (hHeld.later hq8 hHeld.lt) (fun _=>?_)
 clear hK K
 try (first | (rw[put_some];dsimp only[List.set]) | rw[put_none])
 have hB:=below_step hB hq8
 have hHeld:=r1.later hB r1.lt
 have ownq:=ownk_later own hB (Nat.le_refl _)
 refine wpAnyH_ready (rs:=[9]) (by kernel_rfl) (by simp) (AllReadyH.cons (o:=_) rfl (fun K hK=>?_) AllReadyH.nil)
 refine step_append_k (some 41) rfl (by rfl) (.tmp 32) (.tmp 40) 44 rfl (w.heap.size+1) 31 i0 z0 23 by0 Tryz.underlying44 hi hz0 hsz0 (by omega) hby0 hzs0 _ (0+1) ([]++P4) rfl ownq (some ⟨wq5.heap.size,0,none⟩) 1 1 P5 rfl hl5.out sl5 ho5.out (by unfold maxLen;omega) (by omega) (Nat.le_trans hmx hB.size) ?_
 intro v5 wq9 own5 hg
 have r1:=Row.keptT hHeld ownq hg NT1.out
 have hb0:=(hb0.trans (hB.mono hb0.size)).grown hg (Nat.le_trans hb0.size hB.size) (fun k hk=>Nat.le_trans (Nat.le_succ _) (ownq.lt k hk).1)
 have hmx:=Nat.le_trans (Nat.le_trans hmx hB.size) hg.size
 refine hK.out _ _ r1 (fun _=>?_)
 clear hK K
 try (first | (rw[put_some];dsimp only[List.set]) | rw[put_none])
 clear hHeld
 have hHeld:=r1
 clear own ownq hg hB j0 j1 j2 j19
 have own:=own5
 clear own5
 refine rtake 10 _ (some 3) _ rfl rfl (by kernel_rfl) (by kernel_rfl) (by kernel_rfl) (fun _ _ _ h=>h) (by rfl) hHeld (by intro w hS;go_simp;try with_reducible rfl) ?_
 try (first | (rw[put_some];dsimp only[List.set]) | rw[put_none])
 refine wpAnyH_done (by kernel_rfl) ?_ _
 refine NoPanic.normal ?_
 obtain⟨j0,j1,j2,j19⟩:=RC.out _ _ r1
 go_wp2_with (first
  | (refine wpList_build2 rfl 31 0 5 _ _ rfl (.int .i64 6) (.float .f64 r.cost) (.agg P6.toArray) rfl rfl (hB6.out _) ?_)
  | (refine wpList_sliceN rfl 44 1 [_] rfl [(0,.agg P6.toArray)] rfl _ (slice_onep P6 hl6.out _) ?_;refine Hid.out ?_))
 refine Lib.hid ?_
 obtain⟨w8,hw2⟩:∃w2,w2=wq9.alloc (.cells P6.toArray 31):=⟨_,rfl⟩
 rw[←hw2]
 obtain⟨s6,hq⟩:=one_box hw2.symm
 have sl6:=sl_row s6
 rw[hl6.out] at sl6
 clear hw2 s6 j0 j1 j2 j19
 have r1:=r1.later hq r1.lt
 have own:=ownk_later own hq (Nat.le_refl _)
 have hmx:=Nat.le_trans hmx hq.size
 have hb0:=hb0.trans (hq.mono hb0.size)
 clear hq
 obtain⟨j0,j1,j2,j19⟩:=RC.out _ _ r1
 go_wp2_with (first
  | (at_builtin;refine wpList_append_k rfl (.tmp 47) (.tmp 51) 44 rfl (w.heap.size+1) 31 i0 z0 23 by0 Tryz.underlying44 hi hz0 hsz0 (by omega) hby0 hzs0 _ ((0+1)+1) (([]++P4)++P5) rfl own (some ⟨wq9.heap.size,0,none⟩) 1 1 P6 rfl hl6.out sl6 ho6.out (by unfold maxLen;omega) (by omega) hmx ?_;intro v6 wa6 own6 hg;have r1:=Row.keptT r1 own hg NT1.out;have hb0:=hb0.grown hg hb0.size (fun k hk=>Nat.le_trans (Nat.le_succ _) (own.lt k hk).1);have hmx:=Nat.le_trans hmx hg.size;clear own hg;have own:=own6;clear own6;clear j0 j1 j2 j19;obtain⟨j0,j1,j2,j19⟩:=RC.out _ _ r1))
 go_ret
 refine⟨_,([(⟨4,0,[],x,zeroR,0⟩,none,0),(⟨5,0,[],[],⟨r.src,(mostA r.src.v6:Nat)⟩,0⟩,none,0),(⟨6,0,[],[],zeroR,r.cost⟩,none,0)]:List PrdX),rfl,by rw[hL.out];rfl,⟨?_,?_⟩,hb0⟩
 ·have e:((([]++P4)++P5)++P6)=List.flatMap prdX ([(⟨4,0,[],x,zeroR,0⟩,none,0),(⟨5,0,[],[],⟨r.src,(mostA r.src.v6:Nat)⟩,0⟩,none,0),(⟨6,0,[],[],zeroR,r.cost⟩,none,0)]:List PrdX):=by rw[HP4.out,HP5.out,HP6.out];simp[prdX]
  rw[←e]
  exact own_base_k own (Nat.le_succ _)
 ·intro y hy
  simp only[List.mem_cons,List.not_mem_nil,or_false] at hy
  rcases hy with rfl | rfl | rfl
  ·exact at_path _ x hx256.out
  ·exact at_net _ r hr
  ·exact at_cost _ r.cost hr.cost
set_option maxHeartbeats 4000000 in
theorem rof_1000 (r:Req) (w:World) (hr:r.Ok) (h0:name16 r.op=true) (h1:normL r.path=none) (h2:checkA r.src=false) (h3:nanC r.cost=true) :
  Calls Tryz.prog 17 #[.agg (reqV r).toArray] w fun e w'=>∃v xs,e=.returned v∧xs.map (·.1)=ofL r∧PrdsOwn w' w.heap.size v xs∧Below w.heap.size w w':=by
 obtain⟨i0,z0,by0,hi,hz0,hsz0,hby0,hzs0,hle0⟩:=infoP18
 have hL:=Lib.hid (show ofL r=[⟨3,0,[r.op],[],zeroR,0⟩]++([]++([]++([]))) by unfold ofL ofOp ofPath ofNet ofCost;rw[h0,h1,h2,h3];rfl)
 have RC:=Lib.hid (fun W g (h:Row W g 33 (reqV r))=>req_row r W g h hr.src)
 have hsA:=Lib.hid (show (Tryz.prog.info? 26).map (·.size)=some (adrV r.src).length by rw[length_adrV hr.src];exact size_adr)
 have hnm:=fun w'=>rname16_any r.op (by have:=hr.op;omega) w'
 have hno:=fun w'=>rnormal_any r.path (by have:=hr.path;omega) w'
 have hck:=fun w'=>rcheckA_any r.src hr.src w'
 have hms:=Lib.hid (fun w'=>rmost_any r.src w')
 rw[h0] at hnm
 rw[h1] at hno
 rw[h2] at hck
 have o3:=order_nan r.cost hr.cost h3
 have x0:(reqV r)[0]?=some (.string (bstr r.op)):=rfl
 have hnm:=Lib.hid hnm
 have hno:=Lib.hid hno
 have hck:=Lib.hid hck
 obtain⟨R,hR⟩:∃R,R=reqV r:=⟨_,rfl⟩
 obtain⟨w1,hw1⟩:∃w1,w1=(w.alloc (.cells R.toArray 33)).alloc (.cells ([]:List Value).toArray 31):=⟨_,rfl⟩
 obtain⟨r1,-,hb0⟩:=two_boxes hw1.symm
 have hs1:(w.alloc (.cells R.toArray 33)).heap.size=w.heap.size+1:=Array.size_push _
 have own:w1.ownsRow (w.heap.size+1) 31 23 (.slice (some ⟨w.heap.size+1,0,none⟩) 0 0) 0 []:=by
  have:=World.ownsRow_lit (w.alloc (.cells R.toArray 33)) (e:=31) (size:=23) #[] 0 (Nat.le_refl _) (by unfold maxLen;omega) rfl
  rw[hs1] at this
  rw[hw1];exact this
 have HW:=Lib.hid hw1
 rw[←hR] at RC x0 ⊢
 have hmx:(w.heap.size+1)≤w1.heap.size:=by have:=own;rw[hw1];show _≤((w.alloc (.cells R.toArray 33)).heap.push _).size;rw[Array.size_push,hs1];omega
 obtain⟨nt1,nt2⟩:=ne_types
 have NT1:=Lib.hid nt1
 have NT2:=Lib.hid nt2
 clear hw1 hs1 hR nt1 nt2 h0 h1 h2 h3
 obtain⟨P3,hP3⟩:∃P,P=prdV ⟨3,0,[r.op],[],zeroR,0⟩ (some ⟨w1.heap.size,0,none⟩) 1:=⟨_,rfl⟩
 have hl3:=Lib.hid (show P3.length=23 by rw[hP3];exact length_prdV _ zeroA_ok _ _)
 have ho3:=Lib.hid (show ∀u∈P3,u.oneCell'=true by have:=prdV_one ⟨3,0,[r.op],[],zeroR,0⟩ (some ⟨w1.heap.size,0,none⟩) 1;rw[←hP3,List.all_toArray] at this;exact fun u hu=>List.all_eq_true.1 this u hu)
 have hB3:=Lib.hid (show ∀w',(Instr.build 31 #[(0,.int .i64 3),(2,.slice (some ⟨w1.heap.size,0,none⟩) 1 1)]).run Tryz.prog w'=.ok (.agg P3.toArray) w' from fun w'=>by rw[hP3];exact build_3 (some ⟨w1.heap.size,0,none⟩) [r.op] 1 w')
 have HP3:=Lib.hid hP3
 clear hP3
 go_enter Tryz.func17,Tryz.ntmps17
 go_wp2_with (first
  | (go_at_call 44;rw[←HW.out];refine (hnm.out _).mono ?_;rintro e w' ⟨rfl,rfl⟩;obtain⟨j0,j1,j2,j19⟩:=RC.out _ _ r1)
  | (refine wpList_build2 rfl 31 0 2 _ _ rfl (.int .i64 3) (.slice (some ⟨w1.heap.size,0,none⟩) 1 1) (.agg P3.toArray) rfl rfl (hB3.out _) ?_)
  | (refine wpList_sliceN rfl 44 1 [_] rfl [(0,.agg P3.toArray)] rfl _ (slice_onep P3 hl3.out _) ?_;refine Hid.out ?_))
 refine Lib.hid ?_
 obtain⟨w2,hw2⟩:∃w2,w2=(w1.alloc (.cells [Value.string (bstr r.op)].toArray 9)).alloc (.cells P3.toArray 31):=⟨_,rfl⟩
 rw[←hw2]
 obtain⟨nm,s3,hq⟩:=two_boxes hw2.symm
 have sl3:=sl_row s3
 rw[hl3.out] at sl3
 clear hw2 s3 j0 j1 j2 j19
 have r1:=r1.later hq r1.lt
 have own:=ownk_later own hq (Nat.le_refl _)
 have hmx:=Nat.le_trans hmx hq.size
 have hb0:=hb0.trans (hq.mono hb0.size)
 clear hq
 obtain⟨j0,j1,j2,j19⟩:=RC.out _ _ r1
 go_wp2_with (first
  | (at_builtin;refine wpList_append_k rfl (.tmp 10) (.tmp 15) 44 rfl (w.heap.size+1) 31 i0 z0 23 by0 Tryz.underlying44 hi hz0 hsz0 (by omega) hby0 hzs0 _ 0 [] rfl own (some ⟨w1.heap.size+1,0,none⟩) 1 1 P3 rfl hl3.out sl3 ho3.out (by unfold maxLen;omega) (by omega) hmx ?_;intro v3 wa3 own3 hg;have r1:=Row.keptT r1 own hg NT1.out;have nm:=Row.keptT nm own hg NT2.out;have hb0:=hb0.grown hg hb0.size (fun k hk=>Nat.le_trans (Nat.le_succ _) (own.lt k hk).1);have hmx:=Nat.le_trans hmx hg.size;clear own hg;have own:=own3;clear own3;clear j0 j1 j2 j19;obtain⟨j0,j1,j2,j19⟩:=RC.out _ _ r1)
  | (go_at_call 33;refine (hno.out _).mono ?_;rintro e w4 ⟨rfl,hq⟩;clear j0 j1 j2 j19;have r1:=r1.later hq r1.lt;have nm:=nm.later hq nm.lt;have own:=ownk_later own hq (Nat.le_refl _);have hmx:=Nat.le_trans hmx hq.size;have hb0:=hb0.trans (hq.mono hb0.size);clear hq;obtain⟨j0,j1,j2,j19⟩:=RC.out _ _ r1)
  | (with_reducible refine wpList_load_mid rfl 26 (.tmp 29) rfl w.heap.size 2 rfl (adrV r.src) _ j2 Tryz.underlying26 rfl hsA.out ?_)
  | (go_at_call 45;refine (hck.out _).mono ?_;rintro e w6 ⟨rfl,hq⟩;clear j0 j1 j2 j19;have r1:=r1.later hq r1.lt;have nm:=nm.later hq nm.lt;have own:=ownk_later own hq (Nat.le_refl _);have hmx:=Nat.le_trans hmx hq.size;have hb0:=hb0.trans (hq.mono hb0.size);clear hq;obtain⟨j0,j1,j2,j19⟩:=RC.out _ _ r1))
 go_ret
 refine⟨_,([(⟨3,0,[r.op],[],zeroR,0⟩,some ⟨w1.heap.size,0,none⟩,1)]:List PrdX),rfl,by rw[hL.out];rfl,⟨?_,?_⟩,hb0⟩
 ·have e:([]++P3)=List.flatMap prdX ([(⟨3,0,[r.op],[],zeroR,0⟩,some ⟨w1.heap.size,0,none⟩,1)]:List PrdX):=by rw[HP3.out];simp[prdX]
  rw[←e]
  exact own_base_k own (Nat.le_succ _)
 ·intro y hy
  simp only[List.mem_cons,List.not_mem_nil,or_false] at hy
  subst hy
  exact at_op r.op hr.op nm
set_option maxHeartbeats 4000000 in
theorem rof_1001 (r:Req) (w:World) (hr:r.Ok) (h0:name16 r.op=true) (h1:normL r.path=none) (h2:checkA r.src=false) (h3:nanC r.cost=false) :
  Calls Tryz.prog 17 #[.agg (reqV r).toArray] w fun e w'=>∃v xs,e=.returned v∧xs.map (·.1)=ofL r∧PrdsOwn w' w.heap.size v xs∧Below w.heap.size w w':=by
 obtain⟨i0,z0,by0,hi,hz0,hsz0,hby0,hzs0,hle0⟩:=infoP18
 have hL:=Lib.hid (show ofL r=[⟨3,0,[r.op],[],zeroR,0⟩]++([]++([]++([⟨6,0,[],[],zeroR,r.cost⟩]))) by unfold ofL ofOp ofPath ofNet ofCost;rw[h0,h1,h2,h3];rfl)
 have RC:=Lib.hid (fun W g (h:Row W g 33 (reqV r))=>req_row r W g h hr.src)
 have hsA:=Lib.hid (show (Tryz.prog.info? 26).map (·.size)=some (adrV r.src).length by rw[length_adrV hr.src];exact size_adr)
 have hnm:=fun w'=>rname16_any r.op (by have:=hr.op;omega) w'
 have hno:=fun w'=>rnormal_any r.path (by have:=hr.path;omega) w'
 have hck:=fun w'=>rcheckA_any r.src hr.src w'
 have hms:=Lib.hid (fun w'=>rmost_any r.src w')
 rw[h0] at hnm
 rw[h1] at hno
 rw[h2] at hck
 have o3:=order_eq r.cost hr.cost h3
 have x0:(reqV r)[0]?=some (.string (bstr r.op)):=rfl
 have hnm:=Lib.hid hnm
 have hno:=Lib.hid hno
 have hck:=Lib.hid hck
 obtain⟨R,hR⟩:∃R,R=reqV r:=⟨_,rfl⟩
 obtain⟨w1,hw1⟩:∃w1,w1=(w.alloc (.cells R.toArray 33)).alloc (.cells ([]:List Value).toArray 31):=⟨_,rfl⟩
 obtain⟨r1,-,hb0⟩:=two_boxes hw1.symm
 have hs1:(w.alloc (.cells R.toArray 33)).heap.size=w.heap.size+1:=Array.size_push _
 have own:w1.ownsRow (w.heap.size+1) 31 23 (.slice (some ⟨w.heap.size+1,0,none⟩) 0 0) 0 []:=by
  have:=World.ownsRow_lit (w.alloc (.cells R.toArray 33)) (e:=31) (size:=23) #[] 0 (Nat.le_refl _) (by unfold maxLen;omega) rfl
  rw[hs1] at this
  rw[hw1];exact this
 have HW:=Lib.hid hw1
 rw[←hR] at RC x0 ⊢
 have hmx:(w.heap.size+1)≤w1.heap.size:=by have:=own;rw[hw1];show _≤((w.alloc (.cells R.toArray 33)).heap.push _).size;rw[Array.size_push,hs1];omega
 obtain⟨nt1,nt2⟩:=ne_types
 have NT1:=Lib.hid nt1
 have NT2:=Lib.hid nt2
 clear hw1 hs1 hR nt1 nt2 h0 h1 h2 h3
 obtain⟨P6,hP6⟩:∃P,P=prdV ⟨6,0,[],[],zeroR,r.cost⟩ none 0:=⟨_,rfl⟩
 have hl6:=Lib.hid (show P6.length=23 by rw[hP6];exact length_prdV _ zeroA_ok _ _)
 have ho6:=Lib.hid (show ∀u∈P6,u.oneCell'=true by have:=prdV_one ⟨6,0,[],[],zeroR,r.cost⟩ none 0;rw[←hP6,List.all_toArray] at this;exact fun u hu=>List.all_eq_true.1 this u hu)
 have hB6:=Lib.hid (show ∀w',(Instr.build 31 #[(0,.int .i64 6),(5,.float .f64 r.cost)]).run Tryz.prog w'=.ok (.agg P6.toArray) w' from fun w'=>by rw[hP6];exact build_6 r.cost w')
 have HP6:=Lib.hid hP6
 clear hP6
 obtain⟨P3,hP3⟩:∃P,P=prdV ⟨3,0,[r.op],[],zeroR,0⟩ (some ⟨w1.heap.size,0,none⟩) 1:=⟨_,rfl⟩
 have hl3:=Lib.hid (show P3.length=23 by rw[hP3];exact length_prdV _ zeroA_ok _ _)
 have ho3:=Lib.hid (show ∀u∈P3,u.oneCell'=true by have:=prdV_one ⟨3,0,[r.op],[],zeroR,0⟩ (some ⟨w1.heap.size,0,none⟩) 1;rw[←hP3,List.all_toArray] at this;exact fun u hu=>List.all_eq_true.1 this u hu)
 have hB3:=Lib.hid (show ∀w',(Instr.build 31 #[(0,.int .i64 3),(2,.slice (some ⟨w1.heap.size,0,none⟩) 1 1)]).run Tryz.prog w'=.ok (.agg P3.toArray) w' from fun w'=>by rw[hP3];exact build_3 (some ⟨w1.heap.size,0,none⟩) [r.op] 1 w')
 have HP3:=Lib.hid hP3
 clear hP3
 go_enter Tryz.func17,Tryz.ntmps17
 go_wp2_with (first
  | (go_at_call 44;rw[←HW.out];refine (hnm.out _).mono ?_;rintro e w' ⟨rfl,rfl⟩;obtain⟨j0,j1,j2,j19⟩:=RC.out _ _ r1)
  | (refine wpList_build2 rfl 31 0 2 _ _ rfl (.int .i64 3) (.slice (some ⟨w1.heap.size,0,none⟩) 1 1) (.agg P3.toArray) rfl rfl (hB3.out _) ?_)
  | (refine wpList_sliceN rfl 44 1 [_] rfl [(0,.agg P3.toArray)] rfl _ (slice_onep P3 hl3.out _) ?_;refine Hid.out ?_))
 refine Lib.hid ?_
 obtain⟨w2,hw2⟩:∃w2,w2=(w1.alloc (.cells [Value.string (bstr r.op)].toArray 9)).alloc (.cells P3.toArray 31):=⟨_,rfl⟩
 rw[←hw2]
 obtain⟨nm,s3,hq⟩:=two_boxes hw2.symm
 have sl3:=sl_row s3
 rw[hl3.out] at sl3
 clear hw2 s3 j0 j1 j2 j19
 have r1:=r1.later hq r1.lt
 have own:=ownk_later own hq (Nat.le_refl _)
 have hmx:=Nat.le_trans hmx hq.size
 have hb0:=hb0.trans (hq.mono hb0.size)
 clear hq
 obtain⟨j0,j1,j2,j19⟩:=RC.out _ _ r1
 go_wp2_with (first
  | (at_builtin;refine wpList_append_k rfl (.tmp 10) (.tmp 15) 44 rfl (w.heap.size+1) 31 i0 z0 23 by0 Tryz.underlying44 hi hz0 hsz0 (by omega) hby0 hzs0 _ 0 [] rfl own (some ⟨w1.heap.size+1,0,none⟩) 1 1 P3 rfl hl3.out sl3 ho3.out (by unfold maxLen;omega) (by omega) hmx ?_;intro v3 wa3 own3 hg;have r1:=Row.keptT r1 own hg NT1.out;have nm:=Row.keptT nm own hg NT2.out;have hb0:=hb0.grown hg hb0.size (fun k hk=>Nat.le_trans (Nat.le_succ _) (own.lt k hk).1);have hmx:=Nat.le_trans hmx hg.size;clear own hg;have own:=own3;clear own3;clear j0 j1 j2 j19;obtain⟨j0,j1,j2,j19⟩:=RC.out _ _ r1)
  | (go_at_call 33;refine (hno.out _).mono ?_;rintro e w4 ⟨rfl,hq⟩;clear j0 j1 j2 j19;have r1:=r1.later hq r1.lt;have nm:=nm.later hq nm.lt;have own:=ownk_later own hq (Nat.le_refl _);have hmx:=Nat.le_trans hmx hq.size;have hb0:=hb0.trans (hq.mono hb0.size);clear hq;obtain⟨j0,j1,j2,j19⟩:=RC.out _ _ r1)
  | (with_reducible refine wpList_load_mid rfl 26 (.tmp 29) rfl w.heap.size 2 rfl (adrV r.src) _ j2 Tryz.underlying26 rfl hsA.out ?_)
  | (go_at_call 45;refine (hck.out _).mono ?_;rintro e w6 ⟨rfl,hq⟩;clear j0 j1 j2 j19;have r1:=r1.later hq r1.lt;have nm:=nm.later hq nm.lt;have own:=ownk_later own hq (Nat.le_refl _);have hmx:=Nat.le_trans hmx hq.size;have hb0:=hb0.trans (hq.mono hb0.size);clear hq;obtain⟨j0,j1,j2,j19⟩:=RC.out _ _ r1)
  | (refine wpList_build2 rfl 31 0 5 _ _ rfl (.int .i64 6) (.float .f64 r.cost) (.agg P6.toArray) rfl rfl (hB6.out _) ?_)
  | (refine wpList_sliceN rfl 44 1 [_] rfl [(0,.agg P6.toArray)] rfl _ (slice_onep P6 hl6.out _) ?_;refine Hid.out ?_))
 refine Lib.hid ?_
 obtain⟨w8,hw2⟩:∃w2,w2=w6.alloc (.cells P6.toArray 31):=⟨_,rfl⟩
 rw[←hw2]
 obtain⟨s6,hq⟩:=one_box hw2.symm
 have sl6:=sl_row s6
 rw[hl6.out] at sl6
 clear hw2 s6 j0 j1 j2 j19
 have r1:=r1.later hq r1.lt
 have nm:=nm.later hq nm.lt
 have own:=ownk_later own hq (Nat.le_refl _)
 have hmx:=Nat.le_trans hmx hq.size
 have hb0:=hb0.trans (hq.mono hb0.size)
 clear hq
 obtain⟨j0,j1,j2,j19⟩:=RC.out _ _ r1
 go_wp2_with (first
  | (at_builtin;refine wpList_append_k rfl (.tmp 47) (.tmp 51) 44 rfl (w.heap.size+1) 31 i0 z0 23 by0 Tryz.underlying44 hi hz0 hsz0 (by omega) hby0 hzs0 _ (0+1) ([]++P3) rfl own (some ⟨w6.heap.size,0,none⟩) 1 1 P6 rfl hl6.out sl6 ho6.out (by unfold maxLen;omega) (by omega) hmx ?_;intro v6 wa6 own6 hg;have r1:=Row.keptT r1 own hg NT1.out;have nm:=Row.keptT nm own hg NT2.out;have hb0:=hb0.grown hg hb0.size (fun k hk=>Nat.le_trans (Nat.le_succ _) (own.lt k hk).1);have hmx:=Nat.le_trans hmx hg.size;clear own hg;have own:=own6;clear own6;clear j0 j1 j2 j19;obtain⟨j0,j1,j2,j19⟩:=RC.out _ _ r1))
 go_ret
 refine⟨_,([(⟨3,0,[r.op],[],zeroR,0⟩,some ⟨w1.heap.size,0,none⟩,1),(⟨6,0,[],[],zeroR,r.cost⟩,none,0)]:List PrdX),rfl,by rw[hL.out];rfl,⟨?_,?_⟩,hb0⟩
 ·have e:(([]++P3)++P6)=List.flatMap prdX ([(⟨3,0,[r.op],[],zeroR,0⟩,some ⟨w1.heap.size,0,none⟩,1),(⟨6,0,[],[],zeroR,r.cost⟩,none,0)]:List PrdX):=by rw[HP3.out,HP6.out];simp[prdX]
  rw[←e]
  exact own_base_k own (Nat.le_succ _)
 ·intro y hy
  simp only[List.mem_cons,List.not_mem_nil,or_false] at hy
  rcases hy with rfl | rfl
  ·exact at_op r.op hr.op nm
  ·exact at_cost _ r.cost hr.cost
set_option maxHeartbeats 4000000 in
theorem rof_1010 (r:Req) (w:World) (hr:r.Ok) (h0:name16 r.op=true) (h1:normL r.path=none) (h2:checkA r.src=true) (h3:nanC r.cost=true) :
  Calls Tryz.prog 17 #[.agg (reqV r).toArray] w fun e w'=>∃v xs,e=.returned v∧xs.map (·.1)=ofL r∧PrdsOwn w' w.heap.size v xs∧Below w.heap.size w w':=by
 obtain⟨i0,z0,by0,hi,hz0,hsz0,hby0,hzs0,hle0⟩:=infoP18
 have hL:=Lib.hid (show ofL r=[⟨3,0,[r.op],[],zeroR,0⟩]++([]++([⟨5,0,[],[],⟨r.src,(mostA r.src.v6:Nat)⟩,0⟩]++([]))) by unfold ofL ofOp ofPath ofNet ofCost;rw[h0,h1,h2,h3];rfl)
 have RC:=Lib.hid (fun W g (h:Row W g 33 (reqV r))=>req_row r W g h hr.src)
 have hsA:=Lib.hid (show (Tryz.prog.info? 26).map (·.size)=some (adrV r.src).length by rw[length_adrV hr.src];exact size_adr)
 have hnm:=fun w'=>rname16_any r.op (by have:=hr.op;omega) w'
 have hno:=fun w'=>rnormal_any r.path (by have:=hr.path;omega) w'
 have hck:=fun w'=>rcheckA_any r.src hr.src w'
 have hms:=Lib.hid (fun w'=>rmost_any r.src w')
 rw[h0] at hnm
 rw[h1] at hno
 rw[h2] at hck
 have o3:=order_nan r.cost hr.cost h3
 have x0:(reqV r)[0]?=some (.string (bstr r.op)):=rfl
 have hnm:=Lib.hid hnm
 have hno:=Lib.hid hno
 have hck:=Lib.hid hck
 obtain⟨R,hR⟩:∃R,R=reqV r:=⟨_,rfl⟩
 obtain⟨w1,hw1⟩:∃w1,w1=(w.alloc (.cells R.toArray 33)).alloc (.cells ([]:List Value).toArray 31):=⟨_,rfl⟩
 obtain⟨r1,-,hb0⟩:=two_boxes hw1.symm
 have hs1:(w.alloc (.cells R.toArray 33)).heap.size=w.heap.size+1:=Array.size_push _
 have own:w1.ownsRow (w.heap.size+1) 31 23 (.slice (some ⟨w.heap.size+1,0,none⟩) 0 0) 0 []:=by
  have:=World.ownsRow_lit (w.alloc (.cells R.toArray 33)) (e:=31) (size:=23) #[] 0 (Nat.le_refl _) (by unfold maxLen;omega) rfl
  rw[hs1] at this
  rw[hw1];exact this
 have HW:=Lib.hid hw1
 rw[←hR] at RC x0 ⊢
 have hmx:(w.heap.size+1)≤w1.heap.size:=by have:=own;rw[hw1];show _≤((w.alloc (.cells R.toArray 33)).heap.push _).size;rw[Array.size_push,hs1];omega
 obtain⟨nt1,nt2⟩:=ne_types
 have NT1:=Lib.hid nt1
 have NT2:=Lib.hid nt2
 clear hw1 hs1 hR nt1 nt2 h0 h1 h2 h3
 obtain⟨P5,hP5⟩:∃P,P=prdV ⟨5,0,[],[],⟨r.src,(mostA r.src.v6:Nat)⟩,0⟩ none 0:=⟨_,rfl⟩
 have hl5:=Lib.hid (show P5.length=23 by rw[hP5];exact length_prdV _ hr.src _ _)
 have ho5:=Lib.hid (show ∀u∈P5,u.oneCell'=true by have:=prdV_one ⟨5,0,[],[],⟨r.src,(mostA r.src.v6:Nat)⟩,0⟩ none 0;rw[←hP5,List.all_toArray] at this;exact fun u hu=>List.all_eq_true.1 this u hu)
 obtain⟨N5,hN5⟩:∃N,N=adrV r.src++[Value.int .i64 ((mostA r.src.v6:Nat):Int)]:=⟨_,rfl⟩
 have hBR:=Lib.hid (show ∀w',(Instr.build 28 #[(0,.agg (adrV r.src).toArray),(1,.int .i64 ((mostA r.src.v6:Nat):Int))]).run Tryz.prog w'=.ok (.agg N5.toArray) w' from fun w'=>by rw[hN5];exact build_rng (adrV r.src) _ (length_adrV hr.src) w')
 have hB5:=Lib.hid (show ∀w',(Instr.build 31 #[(0,.int .i64 5),(4,.agg N5.toArray)]).run Tryz.prog w'=.ok (.agg P5.toArray) w' from fun w'=>by
  have hl:N5.length=18:=by rw[hN5,List.length_append,length_adrV hr.src];rfl
  refine (build_5 N5 hl w').trans ?_
  rw[hP5,hN5];rfl)
 have HP5:=Lib.hid hP5
 clear hP5 hN5
 obtain⟨P3,hP3⟩:∃P,P=prdV ⟨3,0,[r.op],[],zeroR,0⟩ (some ⟨w1.heap.size,0,none⟩) 1:=⟨_,rfl⟩
 have hl3:=Lib.hid (show P3.length=23 by rw[hP3];exact length_prdV _ zeroA_ok _ _)
 have ho3:=Lib.hid (show ∀u∈P3,u.oneCell'=true by have:=prdV_one ⟨3,0,[r.op],[],zeroR,0⟩ (some ⟨w1.heap.size,0,none⟩) 1;rw[←hP3,List.all_toArray] at this;exact fun u hu=>List.all_eq_true.1 this u hu)
 have hB3:=Lib.hid (show ∀w',(Instr.build 31 #[(0,.int .i64 3),(2,.slice (some ⟨w1.heap.size,0,none⟩) 1 1)]).run Tryz.prog w'=.ok (.agg P3.toArray) w' from fun w'=>by rw[hP3];exact build_3 (some ⟨w1.heap.size,0,none⟩) [r.op] 1 w')
 have HP3:=Lib.hid hP3
 clear hP3
 go_enter Tryz.func17,Tryz.ntmps17
 go_wp2_with (first
  | (go_at_call 44;rw[←HW.out];refine (hnm.out _).mono ?_;rintro e w' ⟨rfl,rfl⟩;obtain⟨j0,j1,j2,j19⟩:=RC.out _ _ r1)
  | (refine wpList_build2 rfl 31 0 2 _ _ rfl (.int .i64 3) (.slice (some ⟨w1.heap.size,0,none⟩) 1 1) (.agg P3.toArray) rfl rfl (hB3.out _) ?_)
  | (refine wpList_sliceN rfl 44 1 [_] rfl [(0,.agg P3.toArray)] rfl _ (slice_onep P3 hl3.out _) ?_;refine Hid.out ?_))
 refine Lib.hid ?_
 obtain⟨w2,hw2⟩:∃w2,w2=(w1.alloc (.cells [Value.string (bstr r.op)].toArray 9)).alloc (.cells P3.toArray 31):=⟨_,rfl⟩
 rw[←hw2]
 obtain⟨nm,s3,hq⟩:=two_boxes hw2.symm
 have sl3:=sl_row s3
 rw[hl3.out] at sl3
 clear hw2 s3 j0 j1 j2 j19
 have r1:=r1.later hq r1.lt
 have own:=ownk_later own hq (Nat.le_refl _)
 have hmx:=Nat.le_trans hmx hq.size
 have hb0:=hb0.trans (hq.mono hb0.size)
 clear hq
 obtain⟨j0,j1,j2,j19⟩:=RC.out _ _ r1
 go_wp2_with (first
  | (at_builtin;refine wpList_append_k rfl (.tmp 10) (.tmp 15) 44 rfl (w.heap.size+1) 31 i0 z0 23 by0 Tryz.underlying44 hi hz0 hsz0 (by omega) hby0 hzs0 _ 0 [] rfl own (some ⟨w1.heap.size+1,0,none⟩) 1 1 P3 rfl hl3.out sl3 ho3.out (by unfold maxLen;omega) (by omega) hmx ?_;intro v3 wa3 own3 hg;have r1:=Row.keptT r1 own hg NT1.out;have nm:=Row.keptT nm own hg NT2.out;have hb0:=hb0.grown hg hb0.size (fun k hk=>Nat.le_trans (Nat.le_succ _) (own.lt k hk).1);have hmx:=Nat.le_trans hmx hg.size;clear own hg;have own:=own3;clear own3;clear j0 j1 j2 j19;obtain⟨j0,j1,j2,j19⟩:=RC.out _ _ r1)
  | (go_at_call 33;refine (hno.out _).mono ?_;rintro e w4 ⟨rfl,hq⟩;clear j0 j1 j2 j19;have r1:=r1.later hq r1.lt;have nm:=nm.later hq nm.lt;have own:=ownk_later own hq (Nat.le_refl _);have hmx:=Nat.le_trans hmx hq.size;have hb0:=hb0.trans (hq.mono hb0.size);clear hq;obtain⟨j0,j1,j2,j19⟩:=RC.out _ _ r1)
  | (with_reducible refine wpList_load_mid rfl 26 (.tmp 29) rfl w.heap.size 2 rfl (adrV r.src) _ j2 Tryz.underlying26 rfl hsA.out ?_)
  | (go_at_call 45;refine (hck.out _).mono ?_;rintro e w6 ⟨rfl,hq⟩;clear j0 j1 j2 j19;have r1:=r1.later hq r1.lt;have nm:=nm.later hq nm.lt;have own:=ownk_later own hq (Nat.le_refl _);have hmx:=Nat.le_trans hmx hq.size;have hb0:=hb0.trans (hq.mono hb0.size);clear hq;obtain⟨j0,j1,j2,j19⟩:=RC.out _ _ r1))
 refine wp_region_noPanic ?_
 refine wp_region_held_drew (S:=fun w'=>Row w' w.heap.size 33 R) (by kernel_rfl) (r1.later ((Below.refl _ _).drew) r1.lt) (fun hHeld=>?_)
 have hB:Below w6.heap.size w6 w6.drew:=(Below.refl _ _).drew
 refine rtake 0 _ (some 32) _ rfl rfl (by kernel_rfl) (by kernel_rfl) (by kernel_rfl) (fun _ _ _ h=>h) (by rfl) hHeld (by intro w hS;go_simp;try with_reducible rfl) ?_
 try (first | (rw[put_some];dsimp only[List.set]) | rw[put_none])
 refine rtake 1 _ (some 33) _ rfl rfl (by kernel_rfl) (by kernel_rfl) (by kernel_rfl) (fun _ _ _ h=>h) (by rfl) hHeld (by intro w hS;go_simp;try with_reducible rfl) ?_
 try (first | (rw[put_some];dsimp only[List.set]) | rw[put_none])
 refine rtake 2 _ (some 34) _ rfl rfl (by kernel_rfl) (by kernel_rfl) (by kernel_rfl) (fun _ _ _ h=>h) (by rfl) hHeld (by intro w hS;exact run_load_op 26 (.tmp 33) rfl _ 2 rfl (adrV r.src) _ (RC.out _ _ hS).2.2.1 Tryz.underlying26 rfl hsA.out) ?_
 try (first | (rw[put_some];dsimp only[List.set]) | rw[put_none])
 refine rtake 3 _ (some 35) _ rfl rfl (by kernel_rfl) (by kernel_rfl) (by kernel_rfl) (fun _ _ _ h=>h) (by rfl) hHeld (by intro w hS;go_simp;try with_reducible rfl) ?_
 try (first | (rw[put_some];dsimp only[List.set]) | rw[put_none])
 refine rtake 4 _ (some 36) _ rfl rfl (by kernel_rfl) (by kernel_rfl) (by kernel_rfl) (fun _ _ _ h=>h) (by rfl) hHeld (by intro w hS;exact run_load_op 26 (.tmp 35) rfl _ 2 rfl (adrV r.src) _ (RC.out _ _ hS).2.2.1 Tryz.underlying26 rfl hsA.out) ?_
 try (first | (rw[put_some];dsimp only[List.set]) | rw[put_none])
 refine wpAnyH_ready (rs:=[5]) (by kernel_rfl) (by simp) (AllReadyH.cons (o:=_) rfl (fun K hK=>?_) AllReadyH.nil)
 go_simp
 refine (hms.out _).mono ?_;rintro e wq5 ⟨rfl,hq5⟩
 try go_wp2_with fail
 refine hK.out _ _ (hHeld.later hq5 hHeld.lt) (fun _=>?_)
 clear hK K
 try (first | (rw[put_some];dsimp only[List.set]) | rw[put_none])
 have hB:=below_step hB hq5
 have hHeld:=r1.later hB r1.lt
 refine rtake 6 _ (some 38) _ rfl rfl (by kernel_rfl) (by kernel_rfl) (by kernel_rfl) (fun _ _ _ h=>h) (by rfl) hHeld (by intro w hS;exact run_build_op2 28 0 1 (.tmp 34) (.tmp 37) rfl (.agg (adrV r.src).toArray) (.int .i64 ((mostA r.src.v6:Nat):Int)) (.agg N5.toArray) rfl rfl (hBR.out _)) ?_
 try (first | (rw[put_some];dsimp only[List.set]) | rw[put_none])
 refine rtake 7 _ (some 39) _ rfl rfl (by kernel_rfl) (by kernel_rfl) (by kernel_rfl) (fun _ _ _ h=>h) (by rfl) hHeld (by intro w hS;exact run_build_op2 31 0 4 _ (.tmp 38) rfl (.int .i64 5) (.agg N5.toArray) (.agg P5.toArray) rfl rfl (hB5.out _)) ?_
 try (first | (rw[put_some];dsimp only[List.set]) | rw[put_none])
 refine wpAnyH_ready (rs:=[8]) (by kernel_rfl) (by simp) (AllReadyH.cons (o:=_) rfl (fun K hK=>?_) AllReadyH.nil)
 refine step_onep (some 40) rfl (by rfl) (.tmp 39) rfl P5 hl5.out rfl ?_
 intro wq8 sl5 hq8
 refine hK.out _ _ (hHeld.later hq8 hHeld.lt) (fun _=>?_)
 clear hK K
 try (first | (rw[put_some];dsimp only[List.set]) | rw[put_none])
 have hB:=below_step hB hq8
 have hHeld:=r1.later hB r1.lt
 have ownq:=ownk_later own hB (Nat.le_refl _)
 refine wpAnyH_ready (rs:=[9]) (by kernel_rfl) (by simp) (AllReadyH.cons (o:=_) rfl (fun K hK=>?_) AllReadyH.nil)
 refine step_append_k (some 41) rfl (by rfl) (.tmp 32) (.tmp 40) 44 rfl (w.heap.size+1) 31 i0 z0 23 by0 Tryz.underlying44 hi hz0 hsz0 (by omega) hby0 hzs0 _ (0+1) ([]++P3) rfl ownq (some ⟨wq5.heap.size,0,none⟩) 1 1 P5 rfl hl5.out sl5 ho5.out (by unfold maxLen;omega) (by omega) (Nat.le_trans hmx hB.size) ?_
 intro v5 wq9 own5 hg
 have r1:=Row.keptT hHeld ownq hg NT1.out
 have nm:=Row.keptT (nm.later hB nm.lt) ownq hg NT2.out
 have hb0:=(hb0.trans (hB.mono hb0.size)).grown hg (Nat.le_trans hb0.size hB.size) (fun k hk=>Nat.le_trans (Nat.le_succ _) (ownq.lt k hk).1)
 have hmx:=Nat.le_trans (Nat.le_trans hmx hB.size) hg.size
 refine hK.out _ _ r1 (fun _=>?_)
 clear hK K
 try (first | (rw[put_some];dsimp only[List.set]) | rw[put_none])
 clear hHeld
 have hHeld:=r1
 clear own ownq hg hB j0 j1 j2 j19
 have own:=own5
 clear own5
 refine rtake 10 _ (some 3) _ rfl rfl (by kernel_rfl) (by kernel_rfl) (by kernel_rfl) (fun _ _ _ h=>h) (by rfl) hHeld (by intro w hS;go_simp;try with_reducible rfl) ?_
 try (first | (rw[put_some];dsimp only[List.set]) | rw[put_none])
 refine wpAnyH_done (by kernel_rfl) ?_ _
 refine NoPanic.normal ?_
 obtain⟨j0,j1,j2,j19⟩:=RC.out _ _ r1
 go_wp2
 go_ret
 refine⟨_,([(⟨3,0,[r.op],[],zeroR,0⟩,some ⟨w1.heap.size,0,none⟩,1),(⟨5,0,[],[],⟨r.src,(mostA r.src.v6:Nat)⟩,0⟩,none,0)]:List PrdX),rfl,by rw[hL.out];rfl,⟨?_,?_⟩,hb0⟩
 ·have e:(([]++P3)++P5)=List.flatMap prdX ([(⟨3,0,[r.op],[],zeroR,0⟩,some ⟨w1.heap.size,0,none⟩,1),(⟨5,0,[],[],⟨r.src,(mostA r.src.v6:Nat)⟩,0⟩,none,0)]:List PrdX):=by rw[HP3.out,HP5.out];simp[prdX]
  rw[←e]
  exact own_base_k own (Nat.le_succ _)
 ·intro y hy
  simp only[List.mem_cons,List.not_mem_nil,or_false] at hy
  rcases hy with rfl | rfl
  ·exact at_op r.op hr.op nm
  ·exact at_net _ r hr
set_option maxHeartbeats 4000000 in
theorem rof_1011 (r:Req) (w:World) (hr:r.Ok) (h0:name16 r.op=true) (h1:normL r.path=none) (h2:checkA r.src=true) (h3:nanC r.cost=false) :
  Calls Tryz.prog 17 #[.agg (reqV r).toArray] w fun e w'=>∃v xs,e=.returned v∧xs.map (·.1)=ofL r∧PrdsOwn w' w.heap.size v xs∧Below w.heap.size w w':=by
 obtain⟨i0,z0,by0,hi,hz0,hsz0,hby0,hzs0,hle0⟩:=infoP18
 have hL:=Lib.hid (show ofL r=[⟨3,0,[r.op],[],zeroR,0⟩]++([]++([⟨5,0,[],[],⟨r.src,(mostA r.src.v6:Nat)⟩,0⟩]++([⟨6,0,[],[],zeroR,r.cost⟩]))) by unfold ofL ofOp ofPath ofNet ofCost;rw[h0,h1,h2,h3];rfl)
 have RC:=Lib.hid (fun W g (h:Row W g 33 (reqV r))=>req_row r W g h hr.src)
 have hsA:=Lib.hid (show (Tryz.prog.info? 26).map (·.size)=some (adrV r.src).length by rw[length_adrV hr.src];exact size_adr)
 have hnm:=fun w'=>rname16_any r.op (by have:=hr.op;omega) w'
 have hno:=fun w'=>rnormal_any r.path (by have:=hr.path;omega) w'
 have hck:=fun w'=>rcheckA_any r.src hr.src w'
 have hms:=Lib.hid (fun w'=>rmost_any r.src w')
 rw[h0] at hnm
 rw[h1] at hno
 rw[h2] at hck
 have o3:=order_eq r.cost hr.cost h3
 have x0:(reqV r)[0]?=some (.string (bstr r.op)):=rfl
 have hnm:=Lib.hid hnm
 have hno:=Lib.hid hno
 have hck:=Lib.hid hck
 obtain⟨R,hR⟩:∃R,R=reqV r:=⟨_,rfl⟩
 obtain⟨w1,hw1⟩:∃w1,w1=(w.alloc (.cells R.toArray 33)).alloc (.cells ([]:List Value).toArray 31):=⟨_,rfl⟩
 obtain⟨r1,-,hb0⟩:=two_boxes hw1.symm
 have hs1:(w.alloc (.cells R.toArray 33)).heap.size=w.heap.size+1:=Array.size_push _
 have own:w1.ownsRow (w.heap.size+1) 31 23 (.slice (some ⟨w.heap.size+1,0,none⟩) 0 0) 0 []:=by
  have:=World.ownsRow_lit (w.alloc (.cells R.toArray 33)) (e:=31) (size:=23) #[] 0 (Nat.le_refl _) (by unfold maxLen;omega) rfl
  rw[hs1] at this
  rw[hw1];exact this
 have HW:=Lib.hid hw1
 rw[←hR] at RC x0 ⊢
 have hmx:(w.heap.size+1)≤w1.heap.size:=by have:=own;rw[hw1];show _≤((w.alloc (.cells R.toArray 33)).heap.push _).size;rw[Array.size_push,hs1];omega
 obtain⟨nt1,nt2⟩:=ne_types
 have NT1:=Lib.hid nt1
 have NT2:=Lib.hid nt2
 clear hw1 hs1 hR nt1 nt2 h0 h1 h2 h3
 obtain⟨P5,hP5⟩:∃P,P=prdV ⟨5,0,[],[],⟨r.src,(mostA r.src.v6:Nat)⟩,0⟩ none 0:=⟨_,rfl⟩
 have hl5:=Lib.hid (show P5.length=23 by rw[hP5];exact length_prdV _ hr.src _ _)
 have ho5:=Lib.hid (show ∀u∈P5,u.oneCell'=true by have:=prdV_one ⟨5,0,[],[],⟨r.src,(mostA r.src.v6:Nat)⟩,0⟩ none 0;rw[←hP5,List.all_toArray] at this;exact fun u hu=>List.all_eq_true.1 this u hu)
 obtain⟨N5,hN5⟩:∃N,N=adrV r.src++[Value.int .i64 ((mostA r.src.v6:Nat):Int)]:=⟨_,rfl⟩
 have hBR:=Lib.hid (show ∀w',(Instr.build 28 #[(0,.agg (adrV r.src).toArray),(1,.int .i64 ((mostA r.src.v6:Nat):Int))]).run Tryz.prog w'=.ok (.agg N5.toArray) w' from fun w'=>by rw[hN5];exact build_rng (adrV r.src) _ (length_adrV hr.src) w')
 have hB5:=Lib.hid (show ∀w',(Instr.build 31 #[(0,.int .i64 5),(4,.agg N5.toArray)]).run Tryz.prog w'=.ok (.agg P5.toArray) w' from fun w'=>by
  have hl:N5.length=18:=by rw[hN5,List.length_append,length_adrV hr.src];rfl
  refine (build_5 N5 hl w').trans ?_
  rw[hP5,hN5];rfl)
 have HP5:=Lib.hid hP5
 clear hP5 hN5
 obtain⟨P6,hP6⟩:∃P,P=prdV ⟨6,0,[],[],zeroR,r.cost⟩ none 0:=⟨_,rfl⟩
 have hl6:=Lib.hid (show P6.length=23 by rw[hP6];exact length_prdV _ zeroA_ok _ _)
 have ho6:=Lib.hid (show ∀u∈P6,u.oneCell'=true by have:=prdV_one ⟨6,0,[],[],zeroR,r.cost⟩ none 0;rw[←hP6,List.all_toArray] at this;exact fun u hu=>List.all_eq_true.1 this u hu)
 have hB6:=Lib.hid (show ∀w',(Instr.build 31 #[(0,.int .i64 6),(5,.float .f64 r.cost)]).run Tryz.prog w'=.ok (.agg P6.toArray) w' from fun w'=>by rw[hP6];exact build_6 r.cost w')
 have HP6:=Lib.hid hP6
 clear hP6
 obtain⟨P3,hP3⟩:∃P,P=prdV ⟨3,0,[r.op],[],zeroR,0⟩ (some ⟨w1.heap.size,0,none⟩) 1:=⟨_,rfl⟩
 have hl3:=Lib.hid (show P3.length=23 by rw[hP3];exact length_prdV _ zeroA_ok _ _)
 have ho3:=Lib.hid (show ∀u∈P3,u.oneCell'=true by have:=prdV_one ⟨3,0,[r.op],[],zeroR,0⟩ (some ⟨w1.heap.size,0,none⟩) 1;rw[←hP3,List.all_toArray] at this;exact fun u hu=>List.all_eq_true.1 this u hu)
 have hB3:=Lib.hid (show ∀w',(Instr.build 31 #[(0,.int .i64 3),(2,.slice (some ⟨w1.heap.size,0,none⟩) 1 1)]).run Tryz.prog w'=.ok (.agg P3.toArray) w' from fun w'=>by rw[hP3];exact build_3 (some ⟨w1.heap.size,0,none⟩) [r.op] 1 w')
 have HP3:=Lib.hid hP3
 clear hP3
 go_enter Tryz.func17,Tryz.ntmps17
 go_wp2_with (first
  | (go_at_call 44;rw[←HW.out];refine (hnm.out _).mono ?_;rintro e w' ⟨rfl,rfl⟩;obtain⟨j0,j1,j2,j19⟩:=RC.out _ _ r1)
  | (refine wpList_build2 rfl 31 0 2 _ _ rfl (.int .i64 3) (.slice (some ⟨w1.heap.size,0,none⟩) 1 1) (.agg P3.toArray) rfl rfl (hB3.out _) ?_)
  | (refine wpList_sliceN rfl 44 1 [_] rfl [(0,.agg P3.toArray)] rfl _ (slice_onep P3 hl3.out _) ?_;refine Hid.out ?_))
 refine Lib.hid ?_
 obtain⟨w2,hw2⟩:∃w2,w2=(w1.alloc (.cells [Value.string (bstr r.op)].toArray 9)).alloc (.cells P3.toArray 31):=⟨_,rfl⟩
 rw[←hw2]
 obtain⟨nm,s3,hq⟩:=two_boxes hw2.symm
 have sl3:=sl_row s3
 rw[hl3.out] at sl3
 clear hw2 s3 j0 j1 j2 j19
 have r1:=r1.later hq r1.lt
 have own:=ownk_later own hq (Nat.le_refl _)
 have hmx:=Nat.le_trans hmx hq.size
 have hb0:=hb0.trans (hq.mono hb0.size)
 clear hq
 obtain⟨j0,j1,j2,j19⟩:=RC.out _ _ r1
 go_wp2_with (first
  | (at_builtin;refine wpList_append_k rfl (.tmp 10) (.tmp 15) 44 rfl (w.heap.size+1) 31 i0 z0 23 by0 Tryz.underlying44 hi hz0 hsz0 (by omega) hby0 hzs0 _ 0 [] rfl own (some ⟨w1.heap.size+1,0,none⟩) 1 1 P3 rfl hl3.out sl3 ho3.out (by unfold maxLen;omega) (by omega) hmx ?_;intro v3 wa3 own3 hg;have r1:=Row.keptT r1 own hg NT1.out;have nm:=Row.keptT nm own hg NT2.out;have hb0:=hb0.grown hg hb0.size (fun k hk=>Nat.le_trans (Nat.le_succ _) (own.lt k hk).1);have hmx:=Nat.le_trans hmx hg.size;clear own hg;have own:=own3;clear own3;clear j0 j1 j2 j19;obtain⟨j0,j1,j2,j19⟩:=RC.out _ _ r1)
  | (go_at_call 33;refine (hno.out _).mono ?_;rintro e w4 ⟨rfl,hq⟩;clear j0 j1 j2 j19;have r1:=r1.later hq r1.lt;have nm:=nm.later hq nm.lt;have own:=ownk_later own hq (Nat.le_refl _);have hmx:=Nat.le_trans hmx hq.size;have hb0:=hb0.trans (hq.mono hb0.size);clear hq;obtain⟨j0,j1,j2,j19⟩:=RC.out _ _ r1)
  | (with_reducible refine wpList_load_mid rfl 26 (.tmp 29) rfl w.heap.size 2 rfl (adrV r.src) _ j2 Tryz.underlying26 rfl hsA.out ?_)
  | (go_at_call 45;refine (hck.out _).mono ?_;rintro e w6 ⟨rfl,hq⟩;clear j0 j1 j2 j19;have r1:=r1.later hq r1.lt;have nm:=nm.later hq nm.lt;have own:=ownk_later own hq (Nat.le_refl _);have hmx:=Nat.le_trans hmx hq.size;have hb0:=hb0.trans (hq.mono hb0.size);clear hq;obtain⟨j0,j1,j2,j19⟩:=RC.out _ _ r1))
 refine wp_region_noPanic ?_
 refine wp_region_held_drew (S:=fun w'=>Row w' w.heap.size 33 R) (by kernel_rfl) (r1.later ((Below.refl _ _).drew) r1.lt) (fun hHeld=>?_)
 have hB:Below w6.heap.size w6 w6.drew:=(Below.refl _ _).drew
 refine rtake 0 _ (some 32) _ rfl rfl (by kernel_rfl) (by kernel_rfl) (by kernel_rfl) (fun _ _ _ h=>h) (by rfl) hHeld (by intro w hS;go_simp;try with_reducible rfl) ?_
 try (first | (rw[put_some];dsimp only[List.set]) | rw[put_none])
 refine rtake 1 _ (some 33) _ rfl rfl (by kernel_rfl) (by kernel_rfl) (by kernel_rfl) (fun _ _ _ h=>h) (by rfl) hHeld (by intro w hS;go_simp;try with_reducible rfl) ?_
 try (first | (rw[put_some];dsimp only[List.set]) | rw[put_none])
 refine rtake 2 _ (some 34) _ rfl rfl (by kernel_rfl) (by kernel_rfl) (by kernel_rfl) (fun _ _ _ h=>h) (by rfl) hHeld (by intro w hS;exact run_load_op 26 (.tmp 33) rfl _ 2 rfl (adrV r.src) _ (RC.out _ _ hS).2.2.1 Tryz.underlying26 rfl hsA.out) ?_
 try (first | (rw[put_some];dsimp only[List.set]) | rw[put_none])
 refine rtake 3 _ (some 35) _ rfl rfl (by kernel_rfl) (by kernel_rfl) (by kernel_rfl) (fun _ _ _ h=>h) (by rfl) hHeld (by intro w hS;go_simp;try with_reducible rfl) ?_
 try (first | (rw[put_some];dsimp only[List.set]) | rw[put_none])
 refine rtake 4 _ (some 36) _ rfl rfl (by kernel_rfl) (by kernel_rfl) (by kernel_rfl) (fun _ _ _ h=>h) (by rfl) hHeld (by intro w hS;exact run_load_op 26 (.tmp 35) rfl _ 2 rfl (adrV r.src) _ (RC.out _ _ hS).2.2.1 Tryz.underlying26 rfl hsA.out) ?_
 try (first | (rw[put_some];dsimp only[List.set]) | rw[put_none])
 refine wpAnyH_ready (rs:=[5]) (by kernel_rfl) (by simp) (AllReadyH.cons (o:=_) rfl (fun K hK=>?_) AllReadyH.nil)
 go_simp
 refine (hms.out _).mono ?_;rintro e wq5 ⟨rfl,hq5⟩
 try go_wp2_with fail
 refine hK.out _ _ (hHeld.later hq5 hHeld.lt) (fun _=>?_)
 clear hK K
 try (first | (rw[put_some];dsimp only[List.set]) | rw[put_none])
 have hB:=below_step hB hq5
 have hHeld:=r1.later hB r1.lt
 refine rtake 6 _ (some 38) _ rfl rfl (by kernel_rfl) (by kernel_rfl) (by kernel_rfl) (fun _ _ _ h=>h) (by rfl) hHeld (by intro w hS;exact run_build_op2 28 0 1 (.tmp 34) (.tmp 37) rfl (.agg (adrV r.src).toArray) (.int .i64 ((mostA r.src.v6:Nat):Int)) (.agg N5.toArray) rfl rfl (hBR.out _)) ?_
 try (first | (rw[put_some];dsimp only[List.set]) | rw[put_none])
 refine rtake 7 _ (some 39) _ rfl rfl (by kernel_rfl) (by kernel_rfl) (by kernel_rfl) (fun _ _ _ h=>h) (by rfl) hHeld (by intro w hS;exact run_build_op2 31 0 4 _ (.tmp 38) rfl (.int .i64 5) (.agg N5.toArray) (.agg P5.toArray) rfl rfl (hB5.out _)) ?_
 try (first | (rw[put_some];dsimp only[List.set]) | rw[put_none])
 refine wpAnyH_ready (rs:=[8]) (by kernel_rfl) (by simp) (AllReadyH.cons (o:=_) rfl (fun K hK=>?_) AllReadyH.nil)
 refine step_onep (some 40) rfl (by rfl) (.tmp 39) rfl P5 hl5.out rfl ?_
 intro wq8 sl5 hq8
 refine hK.out _ _ (hHeld.later hq8 hHeld.lt) (fun _=>?_)
 clear hK K
 try (first | (rw[put_some];dsimp only[List.set]) | rw[put_none])
 have hB:=below_step hB hq8
 have hHeld:=r1.later hB r1.lt
 have ownq:=ownk_later own hB (Nat.le_refl _)
 refine wpAnyH_ready (rs:=[9]) (by kernel_rfl) (by simp) (AllReadyH.cons (o:=_) rfl (fun K hK=>?_) AllReadyH.nil)
 refine step_append_k (some 41) rfl (by rfl) (.tmp 32) (.tmp 40) 44 rfl (w.heap.size+1) 31 i0 z0 23 by0 Tryz.underlying44 hi hz0 hsz0 (by omega) hby0 hzs0 _ (0+1) ([]++P3) rfl ownq (some ⟨wq5.heap.size,0,none⟩) 1 1 P5 rfl hl5.out sl5 ho5.out (by unfold maxLen;omega) (by omega) (Nat.le_trans hmx hB.size) ?_
 intro v5 wq9 own5 hg
 have r1:=Row.keptT hHeld ownq hg NT1.out
 have nm:=Row.keptT (nm.later hB nm.lt) ownq hg NT2.out
 have hb0:=(hb0.trans (hB.mono hb0.size)).grown hg (Nat.le_trans hb0.size hB.size) (fun k hk=>Nat.le_trans (Nat.le_succ _) (ownq.lt k hk).1)
 have hmx:=Nat.le_trans (Nat.le_trans hmx hB.size) hg.size
 refine hK.out _ _ r1 (fun _=>?_)
 clear hK K
 try (first | (rw[put_some];dsimp only[List.set]) | rw[put_none])
 clear hHeld
 have hHeld:=r1
 clear own ownq hg hB j0 j1 j2 j19
 have own:=own5
 clear own5
 refine rtake 10 _ (some 3) _ rfl rfl (by kernel_rfl) (by kernel_rfl) (by kernel_rfl) (fun _ _ _ h=>h) (by rfl) hHeld (by intro w hS;go_simp;try with_reducible rfl) ?_
 try (first | (rw[put_some];dsimp only[List.set]) | rw[put_none])
 refine wpAnyH_done (by kernel_rfl) ?_ _
 refine NoPanic.normal ?_
 obtain⟨j0,j1,j2,j19⟩:=RC.out _ _ r1
 go_wp2_with (first
  | (refine wpList_build2 rfl 31 0 5 _ _ rfl (.int .i64 6) (.float .f64 r.cost) (.agg P6.toArray) rfl rfl (hB6.out _) ?_)
  | (refine wpList_sliceN rfl 44 1 [_] rfl [(0,.agg P6.toArray)] rfl _ (slice_onep P6 hl6.out _) ?_;refine Hid.out ?_))
 refine Lib.hid ?_
 obtain⟨w8,hw2⟩:∃w2,w2=wq9.alloc (.cells P6.toArray 31):=⟨_,rfl⟩
 rw[←hw2]
 obtain⟨s6,hq⟩:=one_box hw2.symm
 have sl6:=sl_row s6
 rw[hl6.out] at sl6
 clear hw2 s6 j0 j1 j2 j19
 have r1:=r1.later hq r1.lt
 have nm:=nm.later hq nm.lt
 have own:=ownk_later own hq (Nat.le_refl _)
 have hmx:=Nat.le_trans hmx hq.size
 have hb0:=hb0.trans (hq.mono hb0.size)
 clear hq
 obtain⟨j0,j1,j2,j19⟩:=RC.out _ _ r1
 go_wp2_with (first
  | (at_builtin;refine wpList_append_k rfl (.tmp 47) (.tmp 51) 44 rfl (w.heap.size+1) 31 i0 z0 23 by0 Tryz.underlying44 hi hz0 hsz0 (by omega) hby0 hzs0 _ ((0+1)+1) (([]++P3)++P5) rfl own (some ⟨wq9.heap.size,0,none⟩) 1 1 P6 rfl hl6.out sl6 ho6.out (by unfold maxLen;omega) (by omega) hmx ?_;intro v6 wa6 own6 hg;have r1:=Row.keptT r1 own hg NT1.out;have nm:=Row.keptT nm own hg NT2.out;have hb0:=hb0.grown hg hb0.size (fun k hk=>Nat.le_trans (Nat.le_succ _) (own.lt k hk).1);have hmx:=Nat.le_trans hmx hg.size;clear own hg;have own:=own6;clear own6;clear j0 j1 j2 j19;obtain⟨j0,j1,j2,j19⟩:=RC.out _ _ r1))
 go_ret
 refine⟨_,([(⟨3,0,[r.op],[],zeroR,0⟩,some ⟨w1.heap.size,0,none⟩,1),(⟨5,0,[],[],⟨r.src,(mostA r.src.v6:Nat)⟩,0⟩,none,0),(⟨6,0,[],[],zeroR,r.cost⟩,none,0)]:List PrdX),rfl,by rw[hL.out];rfl,⟨?_,?_⟩,hb0⟩
 ·have e:((([]++P3)++P5)++P6)=List.flatMap prdX ([(⟨3,0,[r.op],[],zeroR,0⟩,some ⟨w1.heap.size,0,none⟩,1),(⟨5,0,[],[],⟨r.src,(mostA r.src.v6:Nat)⟩,0⟩,none,0),(⟨6,0,[],[],zeroR,r.cost⟩,none,0)]:List PrdX):=by rw[HP3.out,HP5.out,HP6.out];simp[prdX]
  rw[←e]
  exact own_base_k own (Nat.le_succ _)
 ·intro y hy
  simp only[List.mem_cons,List.not_mem_nil,or_false] at hy
  rcases hy with rfl | rfl | rfl
  ·exact at_op r.op hr.op nm
  ·exact at_net _ r hr
  ·exact at_cost _ r.cost hr.cost
set_option maxHeartbeats 4000000 in
theorem rof_1100 (r:Req) (w:World) (hr:r.Ok) (h0:name16 r.op=true) (x:List UInt8) (h1:normL r.path=some x) (h2:checkA r.src=false) (h3:nanC r.cost=true) :
  Calls Tryz.prog 17 #[.agg (reqV r).toArray] w fun e w'=>∃v xs,e=.returned v∧xs.map (·.1)=ofL r∧PrdsOwn w' w.heap.size v xs∧Below w.heap.size w w':=by
 obtain⟨i0,z0,by0,hi,hz0,hsz0,hby0,hzs0,hle0⟩:=infoP18
 have hL:=Lib.hid (show ofL r=[⟨3,0,[r.op],[],zeroR,0⟩]++([⟨4,0,[],x,zeroR,0⟩]++([]++([]))) by unfold ofL ofOp ofPath ofNet ofCost;rw[h0,h1,h2,h3];rfl)
 have RC:=Lib.hid (fun W g (h:Row W g 33 (reqV r))=>req_row r W g h hr.src)
 have hsA:=Lib.hid (show (Tryz.prog.info? 26).map (·.size)=some (adrV r.src).length by rw[length_adrV hr.src];exact size_adr)
 have hnm:=fun w'=>rname16_any r.op (by have:=hr.op;omega) w'
 have hno:=fun w'=>rnormal_any r.path (by have:=hr.path;omega) w'
 have hck:=fun w'=>rcheckA_any r.src hr.src w'
 have hms:=Lib.hid (fun w'=>rmost_any r.src w')
 have hx256:=Lib.hid (norm_len r.path x h1)
 rw[h0] at hnm
 rw[h1] at hno
 rw[h2] at hck
 have o3:=order_nan r.cost hr.cost h3
 have x0:(reqV r)[0]?=some (.string (bstr r.op)):=rfl
 have hnm:=Lib.hid hnm
 have hno:=Lib.hid hno
 have hck:=Lib.hid hck
 obtain⟨R,hR⟩:∃R,R=reqV r:=⟨_,rfl⟩
 obtain⟨w1,hw1⟩:∃w1,w1=(w.alloc (.cells R.toArray 33)).alloc (.cells ([]:List Value).toArray 31):=⟨_,rfl⟩
 obtain⟨r1,-,hb0⟩:=two_boxes hw1.symm
 have hs1:(w.alloc (.cells R.toArray 33)).heap.size=w.heap.size+1:=Array.size_push _
 have own:w1.ownsRow (w.heap.size+1) 31 23 (.slice (some ⟨w.heap.size+1,0,none⟩) 0 0) 0 []:=by
  have:=World.ownsRow_lit (w.alloc (.cells R.toArray 33)) (e:=31) (size:=23) #[] 0 (Nat.le_refl _) (by unfold maxLen;omega) rfl
  rw[hs1] at this
  rw[hw1];exact this
 have HW:=Lib.hid hw1
 rw[←hR] at RC x0 ⊢
 have hmx:(w.heap.size+1)≤w1.heap.size:=by have:=own;rw[hw1];show _≤((w.alloc (.cells R.toArray 33)).heap.push _).size;rw[Array.size_push,hs1];omega
 obtain⟨nt1,nt2⟩:=ne_types
 have NT1:=Lib.hid nt1
 have NT2:=Lib.hid nt2
 clear hw1 hs1 hR nt1 nt2 h0 h1 h2 h3
 obtain⟨P4,hP4⟩:∃P,P=prdV ⟨4,0,[],x,zeroR,0⟩ none 0:=⟨_,rfl⟩
 have hl4:=Lib.hid (show P4.length=23 by rw[hP4];exact length_prdV _ zeroA_ok _ _)
 have ho4:=Lib.hid (show ∀u∈P4,u.oneCell'=true by have:=prdV_one ⟨4,0,[],x,zeroR,0⟩ none 0;rw[←hP4,List.all_toArray] at this;exact fun u hu=>List.all_eq_true.1 this u hu)
 have hB4:=Lib.hid (show ∀w',(Instr.build 31 #[(0,.int .i64 4),(3,.string (bstr x))]).run Tryz.prog w'=.ok (.agg P4.toArray) w' from fun w'=>by rw[hP4];exact build_4 x w')
 have HP4:=Lib.hid hP4
 clear hP4
 obtain⟨P3,hP3⟩:∃P,P=prdV ⟨3,0,[r.op],[],zeroR,0⟩ (some ⟨w1.heap.size,0,none⟩) 1:=⟨_,rfl⟩
 have hl3:=Lib.hid (show P3.length=23 by rw[hP3];exact length_prdV _ zeroA_ok _ _)
 have ho3:=Lib.hid (show ∀u∈P3,u.oneCell'=true by have:=prdV_one ⟨3,0,[r.op],[],zeroR,0⟩ (some ⟨w1.heap.size,0,none⟩) 1;rw[←hP3,List.all_toArray] at this;exact fun u hu=>List.all_eq_true.1 this u hu)
 have hB3:=Lib.hid (show ∀w',(Instr.build 31 #[(0,.int .i64 3),(2,.slice (some ⟨w1.heap.size,0,none⟩) 1 1)]).run Tryz.prog w'=.ok (.agg P3.toArray) w' from fun w'=>by rw[hP3];exact build_3 (some ⟨w1.heap.size,0,none⟩) [r.op] 1 w')
 have HP3:=Lib.hid hP3
 clear hP3
 go_enter Tryz.func17,Tryz.ntmps17
 go_wp2_with (first
  | (go_at_call 44;rw[←HW.out];refine (hnm.out _).mono ?_;rintro e w' ⟨rfl,rfl⟩;obtain⟨j0,j1,j2,j19⟩:=RC.out _ _ r1)
  | (refine wpList_build2 rfl 31 0 2 _ _ rfl (.int .i64 3) (.slice (some ⟨w1.heap.size,0,none⟩) 1 1) (.agg P3.toArray) rfl rfl (hB3.out _) ?_)
  | (refine wpList_sliceN rfl 44 1 [_] rfl [(0,.agg P3.toArray)] rfl _ (slice_onep P3 hl3.out _) ?_;refine Hid.out ?_))
 refine Lib.hid ?_
 obtain⟨w2,hw2⟩:∃w2,w2=(w1.alloc (.cells [Value.string (bstr r.op)].toArray 9)).alloc (.cells P3.toArray 31):=⟨_,rfl⟩
 rw[←hw2]
 obtain⟨nm,s3,hq⟩:=two_boxes hw2.symm
 have sl3:=sl_row s3
 rw[hl3.out] at sl3
 clear hw2 s3 j0 j1 j2 j19
 have r1:=r1.later hq r1.lt
 have own:=ownk_later own hq (Nat.le_refl _)
 have hmx:=Nat.le_trans hmx hq.size
 have hb0:=hb0.trans (hq.mono hb0.size)
 clear hq
 obtain⟨j0,j1,j2,j19⟩:=RC.out _ _ r1
 go_wp2_with (first
  | (at_builtin;refine wpList_append_k rfl (.tmp 10) (.tmp 15) 44 rfl (w.heap.size+1) 31 i0 z0 23 by0 Tryz.underlying44 hi hz0 hsz0 (by omega) hby0 hzs0 _ 0 [] rfl own (some ⟨w1.heap.size+1,0,none⟩) 1 1 P3 rfl hl3.out sl3 ho3.out (by unfold maxLen;omega) (by omega) hmx ?_;intro v3 wa3 own3 hg;have r1:=Row.keptT r1 own hg NT1.out;have nm:=Row.keptT nm own hg NT2.out;have hb0:=hb0.grown hg hb0.size (fun k hk=>Nat.le_trans (Nat.le_succ _) (own.lt k hk).1);have hmx:=Nat.le_trans hmx hg.size;clear own hg;have own:=own3;clear own3;clear j0 j1 j2 j19;obtain⟨j0,j1,j2,j19⟩:=RC.out _ _ r1)
  | (go_at_call 33;refine (hno.out _).mono ?_;rintro e w4 ⟨rfl,hq⟩;clear j0 j1 j2 j19;have r1:=r1.later hq r1.lt;have nm:=nm.later hq nm.lt;have own:=ownk_later own hq (Nat.le_refl _);have hmx:=Nat.le_trans hmx hq.size;have hb0:=hb0.trans (hq.mono hb0.size);clear hq;obtain⟨j0,j1,j2,j19⟩:=RC.out _ _ r1)
  | (refine wpList_build2 rfl 31 0 3 _ _ rfl (.int .i64 4) (.string (bstr x)) (.agg P4.toArray) rfl rfl (hB4.out _) ?_)
  | (refine wpList_sliceN rfl 44 1 [_] rfl [(0,.agg P4.toArray)] rfl _ (slice_onep P4 hl4.out _) ?_;refine Hid.out ?_))
 refine Lib.hid ?_
 obtain⟨w5,hw2⟩:∃w2,w2=w4.alloc (.cells P4.toArray 31):=⟨_,rfl⟩
 rw[←hw2]
 obtain⟨s4,hq⟩:=one_box hw2.symm
 have sl4:=sl_row s4
 rw[hl4.out] at sl4
 clear hw2 s4 j0 j1 j2 j19
 have r1:=r1.later hq r1.lt
 have nm:=nm.later hq nm.lt
 have own:=ownk_later own hq (Nat.le_refl _)
 have hmx:=Nat.le_trans hmx hq.size
 have hb0:=hb0.trans (hq.mono hb0.size)
 clear hq
 obtain⟨j0,j1,j2,j19⟩:=RC.out _ _ r1
 go_wp2_with (first
  | (at_builtin;refine wpList_append_k rfl (.tmp 24) (.tmp 27) 44 rfl (w.heap.size+1) 31 i0 z0 23 by0 Tryz.underlying44 hi hz0 hsz0 (by omega) hby0 hzs0 _ (0+1) ([]++P3) rfl own (some ⟨w4.heap.size,0,none⟩) 1 1 P4 rfl hl4.out sl4 ho4.out (by unfold maxLen;omega) (by omega) hmx ?_;intro v4 wa4 own4 hg;have r1:=Row.keptT r1 own hg NT1.out;have nm:=Row.keptT nm own hg NT2.out;have hb0:=hb0.grown hg hb0.size (fun k hk=>Nat.le_trans (Nat.le_succ _) (own.lt k hk).1);have hmx:=Nat.le_trans hmx hg.size;clear own hg;have own:=own4;clear own4;clear j0 j1 j2 j19;obtain⟨j0,j1,j2,j19⟩:=RC.out _ _ r1)
  | (with_reducible refine wpList_load_mid rfl 26 (.tmp 29) rfl w.heap.size 2 rfl (adrV r.src) _ j2 Tryz.underlying26 rfl hsA.out ?_)
  | (go_at_call 45;refine (hck.out _).mono ?_;rintro e w6 ⟨rfl,hq⟩;clear j0 j1 j2 j19;have r1:=r1.later hq r1.lt;have nm:=nm.later hq nm.lt;have own:=ownk_later own hq (Nat.le_refl _);have hmx:=Nat.le_trans hmx hq.size;have hb0:=hb0.trans (hq.mono hb0.size);clear hq;obtain⟨j0,j1,j2,j19⟩:=RC.out _ _ r1))
 go_ret
 refine⟨_,([(⟨3,0,[r.op],[],zeroR,0⟩,some ⟨w1.heap.size,0,none⟩,1),(⟨4,0,[],x,zeroR,0⟩,none,0)]:List PrdX),rfl,by rw[hL.out];rfl,⟨?_,?_⟩,hb0⟩
 ·have e:(([]++P3)++P4)=List.flatMap prdX ([(⟨3,0,[r.op],[],zeroR,0⟩,some ⟨w1.heap.size,0,none⟩,1),(⟨4,0,[],x,zeroR,0⟩,none,0)]:List PrdX):=by rw[HP3.out,HP4.out];simp[prdX]
  rw[←e]
  exact own_base_k own (Nat.le_succ _)
 ·intro y hy
  simp only[List.mem_cons,List.not_mem_nil,or_false] at hy
  rcases hy with rfl | rfl
  ·exact at_op r.op hr.op nm
  ·exact at_path _ x hx256.out
set_option maxHeartbeats 4000000 in
theorem rof_1101 (r:Req) (w:World) (hr:r.Ok) (h0:name16 r.op=true) (x:List UInt8) (h1:normL r.path=some x) (h2:checkA r.src=false) (h3:nanC r.cost=false) :
  Calls Tryz.prog 17 #[.agg (reqV r).toArray] w fun e w'=>∃v xs,e=.returned v∧xs.map (·.1)=ofL r∧PrdsOwn w' w.heap.size v xs∧Below w.heap.size w w':=by
 obtain⟨i0,z0,by0,hi,hz0,hsz0,hby0,hzs0,hle0⟩:=infoP18
 have hL:=Lib.hid (show ofL r=[⟨3,0,[r.op],[],zeroR,0⟩]++([⟨4,0,[],x,zeroR,0⟩]++([]++([⟨6,0,[],[],zeroR,r.cost⟩]))) by unfold ofL ofOp ofPath ofNet ofCost;rw[h0,h1,h2,h3];rfl)
 have RC:=Lib.hid (fun W g (h:Row W g 33 (reqV r))=>req_row r W g h hr.src)
 have hsA:=Lib.hid (show (Tryz.prog.info? 26).map (·.size)=some (adrV r.src).length by rw[length_adrV hr.src];exact size_adr)
 have hnm:=fun w'=>rname16_any r.op (by have:=hr.op;omega) w'
 have hno:=fun w'=>rnormal_any r.path (by have:=hr.path;omega) w'
 have hck:=fun w'=>rcheckA_any r.src hr.src w'
 have hms:=Lib.hid (fun w'=>rmost_any r.src w')
 have hx256:=Lib.hid (norm_len r.path x h1)
 rw[h0] at hnm
 rw[h1] at hno
 rw[h2] at hck
 have o3:=order_eq r.cost hr.cost h3
 have x0:(reqV r)[0]?=some (.string (bstr r.op)):=rfl
 have hnm:=Lib.hid hnm
 have hno:=Lib.hid hno
 have hck:=Lib.hid hck
 obtain⟨R,hR⟩:∃R,R=reqV r:=⟨_,rfl⟩
 obtain⟨w1,hw1⟩:∃w1,w1=(w.alloc (.cells R.toArray 33)).alloc (.cells ([]:List Value).toArray 31):=⟨_,rfl⟩
 obtain⟨r1,-,hb0⟩:=two_boxes hw1.symm
 have hs1:(w.alloc (.cells R.toArray 33)).heap.size=w.heap.size+1:=Array.size_push _
 have own:w1.ownsRow (w.heap.size+1) 31 23 (.slice (some ⟨w.heap.size+1,0,none⟩) 0 0) 0 []:=by
  have:=World.ownsRow_lit (w.alloc (.cells R.toArray 33)) (e:=31) (size:=23) #[] 0 (Nat.le_refl _) (by unfold maxLen;omega) rfl
  rw[hs1] at this
  rw[hw1];exact this
 have HW:=Lib.hid hw1
 rw[←hR] at RC x0 ⊢
 have hmx:(w.heap.size+1)≤w1.heap.size:=by have:=own;rw[hw1];show _≤((w.alloc (.cells R.toArray 33)).heap.push _).size;rw[Array.size_push,hs1];omega
 obtain⟨nt1,nt2⟩:=ne_types
 have NT1:=Lib.hid nt1
 have NT2:=Lib.hid nt2
 clear hw1 hs1 hR nt1 nt2 h0 h1 h2 h3
 obtain⟨P6,hP6⟩:∃P,P=prdV ⟨6,0,[],[],zeroR,r.cost⟩ none 0:=⟨_,rfl⟩
 have hl6:=Lib.hid (show P6.length=23 by rw[hP6];exact length_prdV _ zeroA_ok _ _)
 have ho6:=Lib.hid (show ∀u∈P6,u.oneCell'=true by have:=prdV_one ⟨6,0,[],[],zeroR,r.cost⟩ none 0;rw[←hP6,List.all_toArray] at this;exact fun u hu=>List.all_eq_true.1 this u hu)
 have hB6:=Lib.hid (show ∀w',(Instr.build 31 #[(0,.int .i64 6),(5,.float .f64 r.cost)]).run Tryz.prog w'=.ok (.agg P6.toArray) w' from fun w'=>by rw[hP6];exact build_6 r.cost w')
 have HP6:=Lib.hid hP6
 clear hP6
 obtain⟨P4,hP4⟩:∃P,P=prdV ⟨4,0,[],x,zeroR,0⟩ none 0:=⟨_,rfl⟩
 have hl4:=Lib.hid (show P4.length=23 by rw[hP4];exact length_prdV _ zeroA_ok _ _)
 have ho4:=Lib.hid (show ∀u∈P4,u.oneCell'=true by have:=prdV_one ⟨4,0,[],x,zeroR,0⟩ none 0;rw[←hP4,List.all_toArray] at this;exact fun u hu=>List.all_eq_true.1 this u hu)
 have hB4:=Lib.hid (show ∀w',(Instr.build 31 #[(0,.int .i64 4),(3,.string (bstr x))]).run Tryz.prog w'=.ok (.agg P4.toArray) w' from fun w'=>by rw[hP4];exact build_4 x w')
 have HP4:=Lib.hid hP4
 clear hP4
 obtain⟨P3,hP3⟩:∃P,P=prdV ⟨3,0,[r.op],[],zeroR,0⟩ (some ⟨w1.heap.size,0,none⟩) 1:=⟨_,rfl⟩
 have hl3:=Lib.hid (show P3.length=23 by rw[hP3];exact length_prdV _ zeroA_ok _ _)
 have ho3:=Lib.hid (show ∀u∈P3,u.oneCell'=true by have:=prdV_one ⟨3,0,[r.op],[],zeroR,0⟩ (some ⟨w1.heap.size,0,none⟩) 1;rw[←hP3,List.all_toArray] at this;exact fun u hu=>List.all_eq_true.1 this u hu)
 have hB3:=Lib.hid (show ∀w',(Instr.build 31 #[(0,.int .i64 3),(2,.slice (some ⟨w1.heap.size,0,none⟩) 1 1)]).run Tryz.prog w'=.ok (.agg P3.toArray) w' from fun w'=>by rw[hP3];exact build_3 (some ⟨w1.heap.size,0,none⟩) [r.op] 1 w')
 have HP3:=Lib.hid hP3
 clear hP3
 go_enter Tryz.func17,Tryz.ntmps17
 go_wp2_with (first
  | (go_at_call 44;rw[←HW.out];refine (hnm.out _).mono ?_;rintro e w' ⟨rfl,rfl⟩;obtain⟨j0,j1,j2,j19⟩:=RC.out _ _ r1)
  | (refine wpList_build2 rfl 31 0 2 _ _ rfl (.int .i64 3) (.slice (some ⟨w1.heap.size,0,none⟩) 1 1) (.agg P3.toArray) rfl rfl (hB3.out _) ?_)
  | (refine wpList_sliceN rfl 44 1 [_] rfl [(0,.agg P3.toArray)] rfl _ (slice_onep P3 hl3.out _) ?_;refine Hid.out ?_))
 refine Lib.hid ?_
 obtain⟨w2,hw2⟩:∃w2,w2=(w1.alloc (.cells [Value.string (bstr r.op)].toArray 9)).alloc (.cells P3.toArray 31):=⟨_,rfl⟩
 rw[←hw2]
 obtain⟨nm,s3,hq⟩:=two_boxes hw2.symm
 have sl3:=sl_row s3
 rw[hl3.out] at sl3
 clear hw2 s3 j0 j1 j2 j19
 have r1:=r1.later hq r1.lt
 have own:=ownk_later own hq (Nat.le_refl _)
 have hmx:=Nat.le_trans hmx hq.size
 have hb0:=hb0.trans (hq.mono hb0.size)
 clear hq
 obtain⟨j0,j1,j2,j19⟩:=RC.out _ _ r1
 go_wp2_with (first
  | (at_builtin;refine wpList_append_k rfl (.tmp 10) (.tmp 15) 44 rfl (w.heap.size+1) 31 i0 z0 23 by0 Tryz.underlying44 hi hz0 hsz0 (by omega) hby0 hzs0 _ 0 [] rfl own (some ⟨w1.heap.size+1,0,none⟩) 1 1 P3 rfl hl3.out sl3 ho3.out (by unfold maxLen;omega) (by omega) hmx ?_;intro v3 wa3 own3 hg;have r1:=Row.keptT r1 own hg NT1.out;have nm:=Row.keptT nm own hg NT2.out;have hb0:=hb0.grown hg hb0.size (fun k hk=>Nat.le_trans (Nat.le_succ _) (own.lt k hk).1);have hmx:=Nat.le_trans hmx hg.size;clear own hg;have own:=own3;clear own3;clear j0 j1 j2 j19;obtain⟨j0,j1,j2,j19⟩:=RC.out _ _ r1)
  | (go_at_call 33;refine (hno.out _).mono ?_;rintro e w4 ⟨rfl,hq⟩;clear j0 j1 j2 j19;have r1:=r1.later hq r1.lt;have nm:=nm.later hq nm.lt;have own:=ownk_later own hq (Nat.le_refl _);have hmx:=Nat.le_trans hmx hq.size;have hb0:=hb0.trans (hq.mono hb0.size);clear hq;obtain⟨j0,j1,j2,j19⟩:=RC.out _ _ r1)
  | (refine wpList_build2 rfl 31 0 3 _ _ rfl (.int .i64 4) (.string (bstr x)) (.agg P4.toArray) rfl rfl (hB4.out _) ?_)
  | (refine wpList_sliceN rfl 44 1 [_] rfl [(0,.agg P4.toArray)] rfl _ (slice_onep P4 hl4.out _) ?_;refine Hid.out ?_))
 refine Lib.hid ?_
 obtain⟨w5,hw2⟩:∃w2,w2=w4.alloc (.cells P4.toArray 31):=⟨_,rfl⟩
 rw[←hw2]
 obtain⟨s4,hq⟩:=one_box hw2.symm
 have sl4:=sl_row s4
 rw[hl4.out] at sl4
 clear hw2 s4 j0 j1 j2 j19
 have r1:=r1.later hq r1.lt
 have nm:=nm.later hq nm.lt
 have own:=ownk_later own hq (Nat.le_refl _)
 have hmx:=Nat.le_trans hmx hq.size
 have hb0:=hb0.trans (hq.mono hb0.size)
 clear hq
 obtain⟨j0,j1,j2,j19⟩:=RC.out _ _ r1
 go_wp2_with (first
  | (at_builtin;refine wpList_append_k rfl (.tmp 24) (.tmp 27) 44 rfl (w.heap.size+1) 31 i0 z0 23 by0 Tryz.underlying44 hi hz0 hsz0 (by omega) hby0 hzs0 _ (0+1) ([]++P3) rfl own (some ⟨w4.heap.size,0,none⟩) 1 1 P4 rfl hl4.out sl4 ho4.out (by unfold maxLen;omega) (by omega) hmx ?_;intro v4 wa4 own4 hg;have r1:=Row.keptT r1 own hg NT1.out;have nm:=Row.keptT nm own hg NT2.out;have hb0:=hb0.grown hg hb0.size (fun k hk=>Nat.le_trans (Nat.le_succ _) (own.lt k hk).1);have hmx:=Nat.le_trans hmx hg.size;clear own hg;have own:=own4;clear own4;clear j0 j1 j2 j19;obtain⟨j0,j1,j2,j19⟩:=RC.out _ _ r1)
  | (with_reducible refine wpList_load_mid rfl 26 (.tmp 29) rfl w.heap.size 2 rfl (adrV r.src) _ j2 Tryz.underlying26 rfl hsA.out ?_)
  | (go_at_call 45;refine (hck.out _).mono ?_;rintro e w6 ⟨rfl,hq⟩;clear j0 j1 j2 j19;have r1:=r1.later hq r1.lt;have nm:=nm.later hq nm.lt;have own:=ownk_later own hq (Nat.le_refl _);have hmx:=Nat.le_trans hmx hq.size;have hb0:=hb0.trans (hq.mono hb0.size);clear hq;obtain⟨j0,j1,j2,j19⟩:=RC.out _ _ r1)
  | (refine wpList_build2 rfl 31 0 5 _ _ rfl (.int .i64 6) (.float .f64 r.cost) (.agg P6.toArray) rfl rfl (hB6.out _) ?_)
  | (refine wpList_sliceN rfl 44 1 [_] rfl [(0,.agg P6.toArray)] rfl _ (slice_onep P6 hl6.out _) ?_;refine Hid.out ?_))
 refine Lib.hid ?_
 obtain⟨w8,hw2⟩:∃w2,w2=w6.alloc (.cells P6.toArray 31):=⟨_,rfl⟩
 rw[←hw2]
 obtain⟨s6,hq⟩:=one_box hw2.symm
 have sl6:=sl_row s6
 rw[hl6.out] at sl6
 clear hw2 s6 j0 j1 j2 j19
 have r1:=r1.later hq r1.lt
 have nm:=nm.later hq nm.lt
 have own:=ownk_later own hq (Nat.le_refl _)
 have hmx:=Nat.le_trans hmx hq.size
 have hb0:=hb0.trans (hq.mono hb0.size)
 clear hq
 obtain⟨j0,j1,j2,j19⟩:=RC.out _ _ r1
 go_wp2_with (first
  | (at_builtin;refine wpList_append_k rfl (.tmp 47) (.tmp 51) 44 rfl (w.heap.size+1) 31 i0 z0 23 by0 Tryz.underlying44 hi hz0 hsz0 (by omega) hby0 hzs0 _ ((0+1)+1) (([]++P3)++P4) rfl own (some ⟨w6.heap.size,0,none⟩) 1 1 P6 rfl hl6.out sl6 ho6.out (by unfold maxLen;omega) (by omega) hmx ?_;intro v6 wa6 own6 hg;have r1:=Row.keptT r1 own hg NT1.out;have nm:=Row.keptT nm own hg NT2.out;have hb0:=hb0.grown hg hb0.size (fun k hk=>Nat.le_trans (Nat.le_succ _) (own.lt k hk).1);have hmx:=Nat.le_trans hmx hg.size;clear own hg;have own:=own6;clear own6;clear j0 j1 j2 j19;obtain⟨j0,j1,j2,j19⟩:=RC.out _ _ r1))
 go_ret
 refine⟨_,([(⟨3,0,[r.op],[],zeroR,0⟩,some ⟨w1.heap.size,0,none⟩,1),(⟨4,0,[],x,zeroR,0⟩,none,0),(⟨6,0,[],[],zeroR,r.cost⟩,none,0)]:List PrdX),rfl,by rw[hL.out];rfl,⟨?_,?_⟩,hb0⟩
 ·have e:((([]++P3)++P4)++P6)=List.flatMap prdX ([(⟨3,0,[r.op],[],zeroR,0⟩,some ⟨w1.heap.size,0,none⟩,1),(⟨4,0,[],x,zeroR,0⟩,none,0),(⟨6,0,[],[],zeroR,r.cost⟩,none,0)]:List PrdX):=by rw[HP3.out,HP4.out,HP6.out];simp[prdX]
  rw[←e]
  exact own_base_k own (Nat.le_succ _)
 ·intro y hy
  simp only[List.mem_cons,List.not_mem_nil,or_false] at hy
  rcases hy with rfl | rfl | rfl
  ·exact at_op r.op hr.op nm
  ·exact at_path _ x hx256.out
  ·exact at_cost _ r.cost hr.cost
set_option maxHeartbeats 4000000 in
theorem rof_1110 (r:Req) (w:World) (hr:r.Ok) (h0:name16 r.op=true) (x:List UInt8) (h1:normL r.path=some x) (h2:checkA r.src=true) (h3:nanC r.cost=true) :
  Calls Tryz.prog 17 #[.agg (reqV r).toArray] w fun e w'=>∃v xs,e=.returned v∧xs.map (·.1)=ofL r∧PrdsOwn w' w.heap.size v xs∧Below w.heap.size w w':=by
 obtain⟨i0,z0,by0,hi,hz0,hsz0,hby0,hzs0,hle0⟩:=infoP18
 have hL:=Lib.hid (show ofL r=[⟨3,0,[r.op],[],zeroR,0⟩]++([⟨4,0,[],x,zeroR,0⟩]++([⟨5,0,[],[],⟨r.src,(mostA r.src.v6:Nat)⟩,0⟩]++([]))) by unfold ofL ofOp ofPath ofNet ofCost;rw[h0,h1,h2,h3];rfl)
 have RC:=Lib.hid (fun W g (h:Row W g 33 (reqV r))=>req_row r W g h hr.src)
 have hsA:=Lib.hid (show (Tryz.prog.info? 26).map (·.size)=some (adrV r.src).length by rw[length_adrV hr.src];exact size_adr)
 have hnm:=fun w'=>rname16_any r.op (by have:=hr.op;omega) w'
 have hno:=fun w'=>rnormal_any r.path (by have:=hr.path;omega) w'
 have hck:=fun w'=>rcheckA_any r.src hr.src w'
 have hms:=Lib.hid (fun w'=>rmost_any r.src w')
 have hx256:=Lib.hid (norm_len r.path x h1)
 rw[h0] at hnm
 rw[h1] at hno
 rw[h2] at hck
 have o3:=order_nan r.cost hr.cost h3
 have x0:(reqV r)[0]?=some (.string (bstr r.op)):=rfl
 have hnm:=Lib.hid hnm
 have hno:=Lib.hid hno
 have hck:=Lib.hid hck
 obtain⟨R,hR⟩:∃R,R=reqV r:=⟨_,rfl⟩
 obtain⟨w1,hw1⟩:∃w1,w1=(w.alloc (.cells R.toArray 33)).alloc (.cells ([]:List Value).toArray 31):=⟨_,rfl⟩
 obtain⟨r1,-,hb0⟩:=two_boxes hw1.symm
 have hs1:(w.alloc (.cells R.toArray 33)).heap.size=w.heap.size+1:=Array.size_push _
 have own:w1.ownsRow (w.heap.size+1) 31 23 (.slice (some ⟨w.heap.size+1,0,none⟩) 0 0) 0 []:=by
  have:=World.ownsRow_lit (w.alloc (.cells R.toArray 33)) (e:=31) (size:=23) #[] 0 (Nat.le_refl _) (by unfold maxLen;omega) rfl
  rw[hs1] at this
  rw[hw1];exact this
 have HW:=Lib.hid hw1
 rw[←hR] at RC x0 ⊢
 have hmx:(w.heap.size+1)≤w1.heap.size:=by have:=own;rw[hw1];show _≤((w.alloc (.cells R.toArray 33)).heap.push _).size;rw[Array.size_push,hs1];omega
 obtain⟨nt1,nt2⟩:=ne_types
 have NT1:=Lib.hid nt1
 have NT2:=Lib.hid nt2
 clear hw1 hs1 hR nt1 nt2 h0 h1 h2 h3
 obtain⟨P5,hP5⟩:∃P,P=prdV ⟨5,0,[],[],⟨r.src,(mostA r.src.v6:Nat)⟩,0⟩ none 0:=⟨_,rfl⟩
 have hl5:=Lib.hid (show P5.length=23 by rw[hP5];exact length_prdV _ hr.src _ _)
 have ho5:=Lib.hid (show ∀u∈P5,u.oneCell'=true by have:=prdV_one ⟨5,0,[],[],⟨r.src,(mostA r.src.v6:Nat)⟩,0⟩ none 0;rw[←hP5,List.all_toArray] at this;exact fun u hu=>List.all_eq_true.1 this u hu)
 obtain⟨N5,hN5⟩:∃N,N=adrV r.src++[Value.int .i64 ((mostA r.src.v6:Nat):Int)]:=⟨_,rfl⟩
 have hBR:=Lib.hid (show ∀w',(Instr.build 28 #[(0,.agg (adrV r.src).toArray),(1,.int .i64 ((mostA r.src.v6:Nat):Int))]).run Tryz.prog w'=.ok (.agg N5.toArray) w' from fun w'=>by rw[hN5];exact build_rng (adrV r.src) _ (length_adrV hr.src) w')
 have hB5:=Lib.hid (show ∀w',(Instr.build 31 #[(0,.int .i64 5),(4,.agg N5.toArray)]).run Tryz.prog w'=.ok (.agg P5.toArray) w' from fun w'=>by
  have hl:N5.length=18:=by rw[hN5,List.length_append,length_adrV hr.src];rfl
  refine (build_5 N5 hl w').trans ?_
  rw[hP5,hN5];rfl)
 have HP5:=Lib.hid hP5
 clear hP5 hN5
 obtain⟨P4,hP4⟩:∃P,P=prdV ⟨4,0,[],x,zeroR,0⟩ none 0:=⟨_,rfl⟩
 have hl4:=Lib.hid (show P4.length=23 by rw[hP4];exact length_prdV _ zeroA_ok _ _)
 have ho4:=Lib.hid (show ∀u∈P4,u.oneCell'=true by have:=prdV_one ⟨4,0,[],x,zeroR,0⟩ none 0;rw[←hP4,List.all_toArray] at this;exact fun u hu=>List.all_eq_true.1 this u hu)
 have hB4:=Lib.hid (show ∀w',(Instr.build 31 #[(0,.int .i64 4),(3,.string (bstr x))]).run Tryz.prog w'=.ok (.agg P4.toArray) w' from fun w'=>by rw[hP4];exact build_4 x w')
 have HP4:=Lib.hid hP4
 clear hP4
 obtain⟨P3,hP3⟩:∃P,P=prdV ⟨3,0,[r.op],[],zeroR,0⟩ (some ⟨w1.heap.size,0,none⟩) 1:=⟨_,rfl⟩
 have hl3:=Lib.hid (show P3.length=23 by rw[hP3];exact length_prdV _ zeroA_ok _ _)
 have ho3:=Lib.hid (show ∀u∈P3,u.oneCell'=true by have:=prdV_one ⟨3,0,[r.op],[],zeroR,0⟩ (some ⟨w1.heap.size,0,none⟩) 1;rw[←hP3,List.all_toArray] at this;exact fun u hu=>List.all_eq_true.1 this u hu)
 have hB3:=Lib.hid (show ∀w',(Instr.build 31 #[(0,.int .i64 3),(2,.slice (some ⟨w1.heap.size,0,none⟩) 1 1)]).run Tryz.prog w'=.ok (.agg P3.toArray) w' from fun w'=>by rw[hP3];exact build_3 (some ⟨w1.heap.size,0,none⟩) [r.op] 1 w')
 have HP3:=Lib.hid hP3
 clear hP3
 go_enter Tryz.func17,Tryz.ntmps17
 go_wp2_with (first
  | (go_at_call 44;rw[←HW.out];refine (hnm.out _).mono ?_;rintro e w' ⟨rfl,rfl⟩;obtain⟨j0,j1,j2,j19⟩:=RC.out _ _ r1)
  | (refine wpList_build2 rfl 31 0 2 _ _ rfl (.int .i64 3) (.slice (some ⟨w1.heap.size,0,none⟩) 1 1) (.agg P3.toArray) rfl rfl (hB3.out _) ?_)
  | (refine wpList_sliceN rfl 44 1 [_] rfl [(0,.agg P3.toArray)] rfl _ (slice_onep P3 hl3.out _) ?_;refine Hid.out ?_))
 refine Lib.hid ?_
 obtain⟨w2,hw2⟩:∃w2,w2=(w1.alloc (.cells [Value.string (bstr r.op)].toArray 9)).alloc (.cells P3.toArray 31):=⟨_,rfl⟩
 rw[←hw2]
 obtain⟨nm,s3,hq⟩:=two_boxes hw2.symm
 have sl3:=sl_row s3
 rw[hl3.out] at sl3
 clear hw2 s3 j0 j1 j2 j19
 have r1:=r1.later hq r1.lt
 have own:=ownk_later own hq (Nat.le_refl _)
 have hmx:=Nat.le_trans hmx hq.size
 have hb0:=hb0.trans (hq.mono hb0.size)
 clear hq
 obtain⟨j0,j1,j2,j19⟩:=RC.out _ _ r1
 go_wp2_with (first
  | (at_builtin;refine wpList_append_k rfl (.tmp 10) (.tmp 15) 44 rfl (w.heap.size+1) 31 i0 z0 23 by0 Tryz.underlying44 hi hz0 hsz0 (by omega) hby0 hzs0 _ 0 [] rfl own (some ⟨w1.heap.size+1,0,none⟩) 1 1 P3 rfl hl3.out sl3 ho3.out (by unfold maxLen;omega) (by omega) hmx ?_;intro v3 wa3 own3 hg;have r1:=Row.keptT r1 own hg NT1.out;have nm:=Row.keptT nm own hg NT2.out;have hb0:=hb0.grown hg hb0.size (fun k hk=>Nat.le_trans (Nat.le_succ _) (own.lt k hk).1);have hmx:=Nat.le_trans hmx hg.size;clear own hg;have own:=own3;clear own3;clear j0 j1 j2 j19;obtain⟨j0,j1,j2,j19⟩:=RC.out _ _ r1)
  | (go_at_call 33;refine (hno.out _).mono ?_;rintro e w4 ⟨rfl,hq⟩;clear j0 j1 j2 j19;have r1:=r1.later hq r1.lt;have nm:=nm.later hq nm.lt;have own:=ownk_later own hq (Nat.le_refl _);have hmx:=Nat.le_trans hmx hq.size;have hb0:=hb0.trans (hq.mono hb0.size);clear hq;obtain⟨j0,j1,j2,j19⟩:=RC.out _ _ r1)
  | (refine wpList_build2 rfl 31 0 3 _ _ rfl (.int .i64 4) (.string (bstr x)) (.agg P4.toArray) rfl rfl (hB4.out _) ?_)
  | (refine wpList_sliceN rfl 44 1 [_] rfl [(0,.agg P4.toArray)] rfl _ (slice_onep P4 hl4.out _) ?_;refine Hid.out ?_))
 refine Lib.hid ?_
 obtain⟨w5,hw2⟩:∃w2,w2=w4.alloc (.cells P4.toArray 31):=⟨_,rfl⟩
 rw[←hw2]
 obtain⟨s4,hq⟩:=one_box hw2.symm
 have sl4:=sl_row s4
 rw[hl4.out] at sl4
 clear hw2 s4 j0 j1 j2 j19
 have r1:=r1.later hq r1.lt
 have nm:=nm.later hq nm.lt
 have own:=ownk_later own hq (Nat.le_refl _)
 have hmx:=Nat.le_trans hmx hq.size
 have hb0:=hb0.trans (hq.mono hb0.size)
 clear hq
 obtain⟨j0,j1,j2,j19⟩:=RC.out _ _ r1
 go_wp2_with (first
  | (at_builtin;refine wpList_append_k rfl (.tmp 24) (.tmp 27) 44 rfl (w.heap.size+1) 31 i0 z0 23 by0 Tryz.underlying44 hi hz0 hsz0 (by omega) hby0 hzs0 _ (0+1) ([]++P3) rfl own (some ⟨w4.heap.size,0,none⟩) 1 1 P4 rfl hl4.out sl4 ho4.out (by unfold maxLen;omega) (by omega) hmx ?_;intro v4 wa4 own4 hg;have r1:=Row.keptT r1 own hg NT1.out;have nm:=Row.keptT nm own hg NT2.out;have hb0:=hb0.grown hg hb0.size (fun k hk=>Nat.le_trans (Nat.le_succ _) (own.lt k hk).1);have hmx:=Nat.le_trans hmx hg.size;clear own hg;have own:=own4;clear own4;clear j0 j1 j2 j19;obtain⟨j0,j1,j2,j19⟩:=RC.out _ _ r1)
  | (with_reducible refine wpList_load_mid rfl 26 (.tmp 29) rfl w.heap.size 2 rfl (adrV r.src) _ j2 Tryz.underlying26 rfl hsA.out ?_)
  | (go_at_call 45;refine (hck.out _).mono ?_;rintro e w6 ⟨rfl,hq⟩;clear j0 j1 j2 j19;have r1:=r1.later hq r1.lt;have nm:=nm.later hq nm.lt;have own:=ownk_later own hq (Nat.le_refl _);have hmx:=Nat.le_trans hmx hq.size;have hb0:=hb0.trans (hq.mono hb0.size);clear hq;obtain⟨j0,j1,j2,j19⟩:=RC.out _ _ r1))
 refine wp_region_noPanic ?_
 refine wp_region_held_drew (S:=fun w'=>Row w' w.heap.size 33 R) (by kernel_rfl) (r1.later ((Below.refl _ _).drew) r1.lt) (fun hHeld=>?_)
 have hB:Below w6.heap.size w6 w6.drew:=(Below.refl _ _).drew
 refine rtake 0 _ (some 32) _ rfl rfl (by kernel_rfl) (by kernel_rfl) (by kernel_rfl) (fun _ _ _ h=>h) (by rfl) hHeld (by intro w hS;go_simp;try with_reducible rfl) ?_
 try (first | (rw[put_some];dsimp only[List.set]) | rw[put_none])
 refine rtake 1 _ (some 33) _ rfl rfl (by kernel_rfl) (by kernel_rfl) (by kernel_rfl) (fun _ _ _ h=>h) (by rfl) hHeld (by intro w hS;go_simp;try with_reducible rfl) ?_
 try (first | (rw[put_some];dsimp only[List.set]) | rw[put_none])
 refine rtake 2 _ (some 34) _ rfl rfl (by kernel_rfl) (by kernel_rfl) (by kernel_rfl) (fun _ _ _ h=>h) (by rfl) hHeld (by intro w hS;exact run_load_op 26 (.tmp 33) rfl _ 2 rfl (adrV r.src) _ (RC.out _ _ hS).2.2.1 Tryz.underlying26 rfl hsA.out) ?_
 try (first | (rw[put_some];dsimp only[List.set]) | rw[put_none])
 refine rtake 3 _ (some 35) _ rfl rfl (by kernel_rfl) (by kernel_rfl) (by kernel_rfl) (fun _ _ _ h=>h) (by rfl) hHeld (by intro w hS;go_simp;try with_reducible rfl) ?_
 try (first | (rw[put_some];dsimp only[List.set]) | rw[put_none])
 refine rtake 4 _ (some 36) _ rfl rfl (by kernel_rfl) (by kernel_rfl) (by kernel_rfl) (fun _ _ _ h=>h) (by rfl) hHeld (by intro w hS;exact run_load_op 26 (.tmp 35) rfl _ 2 rfl (adrV r.src) _ (RC.out _ _ hS).2.2.1 Tryz.underlying26 rfl hsA.out) ?_
 try (first | (rw[put_some];dsimp only[List.set]) | rw[put_none])
 refine wpAnyH_ready (rs:=[5]) (by kernel_rfl) (by simp) (AllReadyH.cons (o:=_) rfl (fun K hK=>?_) AllReadyH.nil)
 go_simp
 refine (hms.out _).mono ?_;rintro e wq5 ⟨rfl,hq5⟩
 try go_wp2_with fail
 refine hK.out _ _ (hHeld.later hq5 hHeld.lt) (fun _=>?_)
 clear hK K
 try (first | (rw[put_some];dsimp only[List.set]) | rw[put_none])
 have hB:=below_step hB hq5
 have hHeld:=r1.later hB r1.lt
 refine rtake 6 _ (some 38) _ rfl rfl (by kernel_rfl) (by kernel_rfl) (by kernel_rfl) (fun _ _ _ h=>h) (by rfl) hHeld (by intro w hS;exact run_build_op2 28 0 1 (.tmp 34) (.tmp 37) rfl (.agg (adrV r.src).toArray) (.int .i64 ((mostA r.src.v6:Nat):Int)) (.agg N5.toArray) rfl rfl (hBR.out _)) ?_
 try (first | (rw[put_some];dsimp only[List.set]) | rw[put_none])
 refine rtake 7 _ (some 39) _ rfl rfl (by kernel_rfl) (by kernel_rfl) (by kernel_rfl) (fun _ _ _ h=>h) (by rfl) hHeld (by intro w hS;exact run_build_op2 31 0 4 _ (.tmp 38) rfl (.int .i64 5) (.agg N5.toArray) (.agg P5.toArray) rfl rfl (hB5.out _)) ?_
 try (first | (rw[put_some];dsimp only[List.set]) | rw[put_none])
 refine wpAnyH_ready (rs:=[8]) (by kernel_rfl) (by simp) (AllReadyH.cons (o:=_) rfl (fun K hK=>?_) AllReadyH.nil)
 refine step_onep (some 40) rfl (by rfl) (.tmp 39) rfl P5 hl5.out rfl ?_
 intro wq8 sl5 hq8
 refine hK.out _ _ (hHeld.later hq8 hHeld.lt) (fun _=>?_)
 clear hK K
 try (first | (rw[put_some];dsimp only[List.set]) | rw[put_none])
 have hB:=below_step hB hq8
 have hHeld:=r1.later hB r1.lt
 have ownq:=ownk_later own hB (Nat.le_refl _)
 refine wpAnyH_ready (rs:=[9]) (by kernel_rfl) (by simp) (AllReadyH.cons (o:=_) rfl (fun K hK=>?_) AllReadyH.nil)
 refine step_append_k (some 41) rfl (by rfl) (.tmp 32) (.tmp 40) 44 rfl (w.heap.size+1) 31 i0 z0 23 by0 Tryz.underlying44 hi hz0 hsz0 (by omega) hby0 hzs0 _ ((0+1)+1) (([]++P3)++P4) rfl ownq (some ⟨wq5.heap.size,0,none⟩) 1 1 P5 rfl hl5.out sl5 ho5.out (by unfold maxLen;omega) (by omega) (Nat.le_trans hmx hB.size) ?_
 intro v5 wq9 own5 hg
 have r1:=Row.keptT hHeld ownq hg NT1.out
 have nm:=Row.keptT (nm.later hB nm.lt) ownq hg NT2.out
 have hb0:=(hb0.trans (hB.mono hb0.size)).grown hg (Nat.le_trans hb0.size hB.size) (fun k hk=>Nat.le_trans (Nat.le_succ _) (ownq.lt k hk).1)
 have hmx:=Nat.le_trans (Nat.le_trans hmx hB.size) hg.size
 refine hK.out _ _ r1 (fun _=>?_)
 clear hK K
 try (first | (rw[put_some];dsimp only[List.set]) | rw[put_none])
 clear hHeld
 have hHeld:=r1
 clear own ownq hg hB j0 j1 j2 j19
 have own:=own5
 clear own5
 refine rtake 10 _ (some 3) _ rfl rfl (by kernel_rfl) (by kernel_rfl) (by kernel_rfl) (fun _ _ _ h=>h) (by rfl) hHeld (by intro w hS;go_simp;try with_reducible rfl) ?_
 try (first | (rw[put_some];dsimp only[List.set]) | rw[put_none])
 refine wpAnyH_done (by kernel_rfl) ?_ _
 refine NoPanic.normal ?_
 obtain⟨j0,j1,j2,j19⟩:=RC.out _ _ r1
 go_wp2
 go_ret
 refine⟨_,([(⟨3,0,[r.op],[],zeroR,0⟩,some ⟨w1.heap.size,0,none⟩,1),(⟨4,0,[],x,zeroR,0⟩,none,0),(⟨5,0,[],[],⟨r.src,(mostA r.src.v6:Nat)⟩,0⟩,none,0)]:List PrdX),rfl,by rw[hL.out];rfl,⟨?_,?_⟩,hb0⟩
 ·have e:((([]++P3)++P4)++P5)=List.flatMap prdX ([(⟨3,0,[r.op],[],zeroR,0⟩,some ⟨w1.heap.size,0,none⟩,1),(⟨4,0,[],x,zeroR,0⟩,none,0),(⟨5,0,[],[],⟨r.src,(mostA r.src.v6:Nat)⟩,0⟩,none,0)]:List PrdX):=by rw[HP3.out,HP4.out,HP5.out];simp[prdX]
  rw[←e]
  exact own_base_k own (Nat.le_succ _)
 ·intro y hy
  simp only[List.mem_cons,List.not_mem_nil,or_false] at hy
  rcases hy with rfl | rfl | rfl
  ·exact at_op r.op hr.op nm
  ·exact at_path _ x hx256.out
  ·exact at_net _ r hr
set_option maxHeartbeats 4000000 in
theorem rof_1111 (r:Req) (w:World) (hr:r.Ok) (h0:name16 r.op=true) (x:List UInt8) (h1:normL r.path=some x) (h2:checkA r.src=true) (h3:nanC r.cost=false) :
  Calls Tryz.prog 17 #[.agg (reqV r).toArray] w fun e w'=>∃v xs,e=.returned v∧xs.map (·.1)=ofL r∧PrdsOwn w' w.heap.size v xs∧Below w.heap.size w w':=by
 obtain⟨i0,z0,by0,hi,hz0,hsz0,hby0,hzs0,hle0⟩:=infoP18
 have hL:=Lib.hid (show ofL r=[⟨3,0,[r.op],[],zeroR,0⟩]++([⟨4,0,[],x,zeroR,0⟩]++([⟨5,0,[],[],⟨r.src,(mostA r.src.v6:Nat)⟩,0⟩]++([⟨6,0,[],[],zeroR,r.cost⟩]))) by unfold ofL ofOp ofPath ofNet ofCost;rw[h0,h1,h2,h3];rfl)
 have RC:=Lib.hid (fun W g (h:Row W g 33 (reqV r))=>req_row r W g h hr.src)
 have hsA:=Lib.hid (show (Tryz.prog.info? 26).map (·.size)=some (adrV r.src).length by rw[length_adrV hr.src];exact size_adr)
 have hnm:=fun w'=>rname16_any r.op (by have:=hr.op;omega) w'
 have hno:=fun w'=>rnormal_any r.path (by have:=hr.path;omega) w'
 have hck:=fun w'=>rcheckA_any r.src hr.src w'
 have hms:=Lib.hid (fun w'=>rmost_any r.src w')
 have hx256:=Lib.hid (norm_len r.path x h1)
 rw[h0] at hnm
 rw[h1] at hno
 rw[h2] at hck
 have o3:=order_eq r.cost hr.cost h3
 have x0:(reqV r)[0]?=some (.string (bstr r.op)):=rfl
 have hnm:=Lib.hid hnm
 have hno:=Lib.hid hno
 have hck:=Lib.hid hck
 obtain⟨R,hR⟩:∃R,R=reqV r:=⟨_,rfl⟩
 obtain⟨w1,hw1⟩:∃w1,w1=(w.alloc (.cells R.toArray 33)).alloc (.cells ([]:List Value).toArray 31):=⟨_,rfl⟩
 obtain⟨r1,-,hb0⟩:=two_boxes hw1.symm
 have hs1:(w.alloc (.cells R.toArray 33)).heap.size=w.heap.size+1:=Array.size_push _
 have own:w1.ownsRow (w.heap.size+1) 31 23 (.slice (some ⟨w.heap.size+1,0,none⟩) 0 0) 0 []:=by
  have:=World.ownsRow_lit (w.alloc (.cells R.toArray 33)) (e:=31) (size:=23) #[] 0 (Nat.le_refl _) (by unfold maxLen;omega) rfl
  rw[hs1] at this
  rw[hw1];exact this
 have HW:=Lib.hid hw1
 rw[←hR] at RC x0 ⊢
 have hmx:(w.heap.size+1)≤w1.heap.size:=by have:=own;rw[hw1];show _≤((w.alloc (.cells R.toArray 33)).heap.push _).size;rw[Array.size_push,hs1];omega
 obtain⟨nt1,nt2⟩:=ne_types
 have NT1:=Lib.hid nt1
 have NT2:=Lib.hid nt2
 clear hw1 hs1 hR nt1 nt2 h0 h1 h2 h3
 obtain⟨P5,hP5⟩:∃P,P=prdV ⟨5,0,[],[],⟨r.src,(mostA r.src.v6:Nat)⟩,0⟩ none 0:=⟨_,rfl⟩
 have hl5:=Lib.hid (show P5.length=23 by rw[hP5];exact length_prdV _ hr.src _ _)
 have ho5:=Lib.hid (show ∀u∈P5,u.oneCell'=true by have:=prdV_one ⟨5,0,[],[],⟨r.src,(mostA r.src.v6:Nat)⟩,0⟩ none 0;rw[←hP5,List.all_toArray] at this;exact fun u hu=>List.all_eq_true.1 this u hu)
 obtain⟨N5,hN5⟩:∃N,N=adrV r.src++[Value.int .i64 ((mostA r.src.v6:Nat):Int)]:=⟨_,rfl⟩
 have hBR:=Lib.hid (show ∀w',(Instr.build 28 #[(0,.agg (adrV r.src).toArray),(1,.int .i64 ((mostA r.src.v6:Nat):Int))]).run Tryz.prog w'=.ok (.agg N5.toArray) w' from fun w'=>by rw[hN5];exact build_rng (adrV r.src) _ (length_adrV hr.src) w')
 have hB5:=Lib.hid (show ∀w',(Instr.build 31 #[(0,.int .i64 5),(4,.agg N5.toArray)]).run Tryz.prog w'=.ok (.agg P5.toArray) w' from fun w'=>by
  have hl:N5.length=18:=by rw[hN5,List.length_append,length_adrV hr.src];rfl
  refine (build_5 N5 hl w').trans ?_
  rw[hP5,hN5];rfl)
 have HP5:=Lib.hid hP5
 clear hP5 hN5
 obtain⟨P6,hP6⟩:∃P,P=prdV ⟨6,0,[],[],zeroR,r.cost⟩ none 0:=⟨_,rfl⟩
 have hl6:=Lib.hid (show P6.length=23 by rw[hP6];exact length_prdV _ zeroA_ok _ _)
 have ho6:=Lib.hid (show ∀u∈P6,u.oneCell'=true by have:=prdV_one ⟨6,0,[],[],zeroR,r.cost⟩ none 0;rw[←hP6,List.all_toArray] at this;exact fun u hu=>List.all_eq_true.1 this u hu)
 have hB6:=Lib.hid (show ∀w',(Instr.build 31 #[(0,.int .i64 6),(5,.float .f64 r.cost)]).run Tryz.prog w'=.ok (.agg P6.toArray) w' from fun w'=>by rw[hP6];exact build_6 r.cost w')
 have HP6:=Lib.hid hP6
 clear hP6
 obtain⟨P4,hP4⟩:∃P,P=prdV ⟨4,0,[],x,zeroR,0⟩ none 0:=⟨_,rfl⟩
 have hl4:=Lib.hid (show P4.length=23 by rw[hP4];exact length_prdV _ zeroA_ok _ _)
 have ho4:=Lib.hid (show ∀u∈P4,u.oneCell'=true by have:=prdV_one ⟨4,0,[],x,zeroR,0⟩ none 0;rw[←hP4,List.all_toArray] at this;exact fun u hu=>List.all_eq_true.1 this u hu)
 have hB4:=Lib.hid (show ∀w',(Instr.build 31 #[(0,.int .i64 4),(3,.string (bstr x))]).run Tryz.prog w'=.ok (.agg P4.toArray) w' from fun w'=>by rw[hP4];exact build_4 x w')
 have HP4:=Lib.hid hP4
 clear hP4
 obtain⟨P3,hP3⟩:∃P,P=prdV ⟨3,0,[r.op],[],zeroR,0⟩ (some ⟨w1.heap.size,0,none⟩) 1:=⟨_,rfl⟩
 have hl3:=Lib.hid (show P3.length=23 by rw[hP3];exact length_prdV _ zeroA_ok _ _)
 have ho3:=Lib.hid (show ∀u∈P3,u.oneCell'=true by have:=prdV_one ⟨3,0,[r.op],[],zeroR,0⟩ (some ⟨w1.heap.size,0,none⟩) 1;rw[←hP3,List.all_toArray] at this;exact fun u hu=>List.all_eq_true.1 this u hu)
 have hB3:=Lib.hid (show ∀w',(Instr.build 31 #[(0,.int .i64 3),(2,.slice (some ⟨w1.heap.size,0,none⟩) 1 1)]).run Tryz.prog w'=.ok (.agg P3.toArray) w' from fun w'=>by rw[hP3];exact build_3 (some ⟨w1.heap.size,0,none⟩) [r.op] 1 w')
 have HP3:=Lib.hid hP3
 clear hP3
 go_enter Tryz.func17,Tryz.ntmps17
 go_wp2_with (first
  | (go_at_call 44;rw[←HW.out];refine (hnm.out _).mono ?_;rintro e w' ⟨rfl,rfl⟩;obtain⟨j0,j1,j2,j19⟩:=RC.out _ _ r1)
  | (refine wpList_build2 rfl 31 0 2 _ _ rfl (.int .i64 3) (.slice (some ⟨w1.heap.size,0,none⟩) 1 1) (.agg P3.toArray) rfl rfl (hB3.out _) ?_)
  | (refine wpList_sliceN rfl 44 1 [_] rfl [(0,.agg P3.toArray)] rfl _ (slice_onep P3 hl3.out _) ?_;refine Hid.out ?_))
 refine Lib.hid ?_
 obtain⟨w2,hw2⟩:∃w2,w2=(w1.alloc (.cells [Value.string (bstr r.op)].toArray 9)).alloc (.cells P3.toArray 31):=⟨_,rfl⟩
 rw[←hw2]
 obtain⟨nm,s3,hq⟩:=two_boxes hw2.symm
 have sl3:=sl_row s3
 rw[hl3.out] at sl3
 clear hw2 s3 j0 j1 j2 j19
 have r1:=r1.later hq r1.lt
 have own:=ownk_later own hq (Nat.le_refl _)
 have hmx:=Nat.le_trans hmx hq.size
 have hb0:=hb0.trans (hq.mono hb0.size)
 clear hq
 obtain⟨j0,j1,j2,j19⟩:=RC.out _ _ r1
 go_wp2_with (first
  | (at_builtin;refine wpList_append_k rfl (.tmp 10) (.tmp 15) 44 rfl (w.heap.size+1) 31 i0 z0 23 by0 Tryz.underlying44 hi hz0 hsz0 (by omega) hby0 hzs0 _ 0 [] rfl own (some ⟨w1.heap.size+1,0,none⟩) 1 1 P3 rfl hl3.out sl3 ho3.out (by unfold maxLen;omega) (by omega) hmx ?_;intro v3 wa3 own3 hg;have r1:=Row.keptT r1 own hg NT1.out;have nm:=Row.keptT nm own hg NT2.out;have hb0:=hb0.grown hg hb0.size (fun k hk=>Nat.le_trans (Nat.le_succ _) (own.lt k hk).1);have hmx:=Nat.le_trans hmx hg.size;clear own hg;have own:=own3;clear own3;clear j0 j1 j2 j19;obtain⟨j0,j1,j2,j19⟩:=RC.out _ _ r1)
  | (go_at_call 33;refine (hno.out _).mono ?_;rintro e w4 ⟨rfl,hq⟩;clear j0 j1 j2 j19;have r1:=r1.later hq r1.lt;have nm:=nm.later hq nm.lt;have own:=ownk_later own hq (Nat.le_refl _);have hmx:=Nat.le_trans hmx hq.size;have hb0:=hb0.trans (hq.mono hb0.size);clear hq;obtain⟨j0,j1,j2,j19⟩:=RC.out _ _ r1)
  | (refine wpList_build2 rfl 31 0 3 _ _ rfl (.int .i64 4) (.string (bstr x)) (.agg P4.toArray) rfl rfl (hB4.out _) ?_)
  | (refine wpList_sliceN rfl 44 1 [_] rfl [(0,.agg P4.toArray)] rfl _ (slice_onep P4 hl4.out _) ?_;refine Hid.out ?_))
 refine Lib.hid ?_
 obtain⟨w5,hw2⟩:∃w2,w2=w4.alloc (.cells P4.toArray 31):=⟨_,rfl⟩
 rw[←hw2]
 obtain⟨s4,hq⟩:=one_box hw2.symm
 have sl4:=sl_row s4
 rw[hl4.out] at sl4
 clear hw2 s4 j0 j1 j2 j19
 have r1:=r1.later hq r1.lt
 have nm:=nm.later hq nm.lt
 have own:=ownk_later own hq (Nat.le_refl _)
 have hmx:=Nat.le_trans hmx hq.size
 have hb0:=hb0.trans (hq.mono hb0.size)
 clear hq
 obtain⟨j0,j1,j2,j19⟩:=RC.out _ _ r1
 go_wp2_with (first
  | (at_builtin;refine wpList_append_k rfl (.tmp 24) (.tmp 27) 44 rfl (w.heap.size+1) 31 i0 z0 23 by0 Tryz.underlying44 hi hz0 hsz0 (by omega) hby0 hzs0 _ (0+1) ([]++P3) rfl own (some ⟨w4.heap.size,0,none⟩) 1 1 P4 rfl hl4.out sl4 ho4.out (by unfold maxLen;omega) (by omega) hmx ?_;intro v4 wa4 own4 hg;have r1:=Row.keptT r1 own hg NT1.out;have nm:=Row.keptT nm own hg NT2.out;have hb0:=hb0.grown hg hb0.size (fun k hk=>Nat.le_trans (Nat.le_succ _) (own.lt k hk).1);have hmx:=Nat.le_trans hmx hg.size;clear own hg;have own:=own4;clear own4;clear j0 j1 j2 j19;obtain⟨j0,j1,j2,j19⟩:=RC.out _ _ r1)
  | (with_reducible refine wpList_load_mid rfl 26 (.tmp 29) rfl w.heap.size 2 rfl (adrV r.src) _ j2 Tryz.underlying26 rfl hsA.out ?_)
  | (go_at_call 45;refine (hck.out _).mono ?_;rintro e w6 ⟨rfl,hq⟩;clear j0 j1 j2 j19;have r1:=r1.later hq r1.lt;have nm:=nm.later hq nm.lt;have own:=ownk_later own hq (Nat.le_refl _);have hmx:=Nat.le_trans hmx hq.size;have hb0:=hb0.trans (hq.mono hb0.size);clear hq;obtain⟨j0,j1,j2,j19⟩:=RC.out _ _ r1))
 refine wp_region_noPanic ?_
 refine wp_region_held_drew (S:=fun w'=>Row w' w.heap.size 33 R) (by kernel_rfl) (r1.later ((Below.refl _ _).drew) r1.lt) (fun hHeld=>?_)
 have hB:Below w6.heap.size w6 w6.drew:=(Below.refl _ _).drew
 refine rtake 0 _ (some 32) _ rfl rfl (by kernel_rfl) (by kernel_rfl) (by kernel_rfl) (fun _ _ _ h=>h) (by rfl) hHeld (by intro w hS;go_simp;try with_reducible rfl) ?_
 try (first | (rw[put_some];dsimp only[List.set]) | rw[put_none])
 refine rtake 1 _ (some 33) _ rfl rfl (by kernel_rfl) (by kernel_rfl) (by kernel_rfl) (fun _ _ _ h=>h) (by rfl) hHeld (by intro w hS;go_simp;try with_reducible rfl) ?_
 try (first | (rw[put_some];dsimp only[List.set]) | rw[put_none])
 refine rtake 2 _ (some 34) _ rfl rfl (by kernel_rfl) (by kernel_rfl) (by kernel_rfl) (fun _ _ _ h=>h) (by rfl) hHeld (by intro w hS;exact run_load_op 26 (.tmp 33) rfl _ 2 rfl (adrV r.src) _ (RC.out _ _ hS).2.2.1 Tryz.underlying26 rfl hsA.out) ?_
 try (first | (rw[put_some];dsimp only[List.set]) | rw[put_none])
 refine rtake 3 _ (some 35) _ rfl rfl (by kernel_rfl) (by kernel_rfl) (by kernel_rfl) (fun _ _ _ h=>h) (by rfl) hHeld (by intro w hS;go_simp;try with_reducible rfl) ?_
 try (first | (rw[put_some];dsimp only[List.set]) | rw[put_none])
 refine rtake 4 _ (some 36) _ rfl rfl (by kernel_rfl) (by kernel_rfl) (by kernel_rfl) (fun _ _ _ h=>h) (by rfl) hHeld (by intro w hS;exact run_load_op 26 (.tmp 35) rfl _ 2 rfl (adrV r.src) _ (RC.out _ _ hS).2.2.1 Tryz.underlying26 rfl hsA.out) ?_
 try (first | (rw[put_some];dsimp only[List.set]) | rw[put_none])
 refine wpAnyH_ready (rs:=[5]) (by kernel_rfl) (by simp) (AllReadyH.cons (o:=_) rfl (fun K hK=>?_) AllReadyH.nil)
 go_simp
 refine (hms.out _).mono ?_;rintro e wq5 ⟨rfl,hq5⟩
 try go_wp2_with fail
 refine hK.out _ _ (hHeld.later hq5 hHeld.lt) (fun _=>?_)
 clear hK K
 try (first | (rw[put_some];dsimp only[List.set]) | rw[put_none])
 have hB:=below_step hB hq5
 have hHeld:=r1.later hB r1.lt
 refine rtake 6 _ (some 38) _ rfl rfl (by kernel_rfl) (by kernel_rfl) (by kernel_rfl) (fun _ _ _ h=>h) (by rfl) hHeld (by intro w hS;exact run_build_op2 28 0 1 (.tmp 34) (.tmp 37) rfl (.agg (adrV r.src).toArray) (.int .i64 ((mostA r.src.v6:Nat):Int)) (.agg N5.toArray) rfl rfl (hBR.out _)) ?_
 try (first | (rw[put_some];dsimp only[List.set]) | rw[put_none])
 refine rtake 7 _ (some 39) _ rfl rfl (by kernel_rfl) (by kernel_rfl) (by kernel_rfl) (fun _ _ _ h=>h) (by rfl) hHeld (by intro w hS;exact run_build_op2 31 0 4 _ (.tmp 38) rfl (.int .i64 5) (.agg N5.toArray) (.agg P5.toArray) rfl rfl (hB5.out _)) ?_
 try (first | (rw[put_some];dsimp only[List.set]) | rw[put_none])
 refine wpAnyH_ready (rs:=[8]) (by kernel_rfl) (by simp) (AllReadyH.cons (o:=_) rfl (fun K hK=>?_) AllReadyH.nil)
 refine step_onep (some 40) rfl (by rfl) (.tmp 39) rfl P5 hl5.out rfl ?_
 intro wq8 sl5 hq8
 refine hK.out _ _ (hHeld.later hq8 hHeld.lt) (fun _=>?_)
 clear hK K
 try (first | (rw[put_some];dsimp only[List.set]) | rw[put_none])
 have hB:=below_step hB hq8
 have hHeld:=r1.later hB r1.lt
 have ownq:=ownk_later own hB (Nat.le_refl _)
 refine wpAnyH_ready (rs:=[9]) (by kernel_rfl) (by simp) (AllReadyH.cons (o:=_) rfl (fun K hK=>?_) AllReadyH.nil)
 refine step_append_k (some 41) rfl (by rfl) (.tmp 32) (.tmp 40) 44 rfl (w.heap.size+1) 31 i0 z0 23 by0 Tryz.underlying44 hi hz0 hsz0 (by omega) hby0 hzs0 _ ((0+1)+1) (([]++P3)++P4) rfl ownq (some ⟨wq5.heap.size,0,none⟩) 1 1 P5 rfl hl5.out sl5 ho5.out (by unfold maxLen;omega) (by omega) (Nat.le_trans hmx hB.size) ?_
 intro v5 wq9 own5 hg
 have r1:=Row.keptT hHeld ownq hg NT1.out
 have nm:=Row.keptT (nm.later hB nm.lt) ownq hg NT2.out
 have hb0:=(hb0.trans (hB.mono hb0.size)).grown hg (Nat.le_trans hb0.size hB.size) (fun k hk=>Nat.le_trans (Nat.le_succ _) (ownq.lt k hk).1)
 have hmx:=Nat.le_trans (Nat.le_trans hmx hB.size) hg.size
 refine hK.out _ _ r1 (fun _=>?_)
 clear hK K
 try (first | (rw[put_some];dsimp only[List.set]) | rw[put_none])
 clear hHeld
 have hHeld:=r1
 clear own ownq hg hB j0 j1 j2 j19
 have own:=own5
 clear own5
 refine rtake 10 _ (some 3) _ rfl rfl (by kernel_rfl) (by kernel_rfl) (by kernel_rfl) (fun _ _ _ h=>h) (by rfl) hHeld (by intro w hS;go_simp;try with_reducible rfl) ?_
 try (first | (rw[put_some];dsimp only[List.set]) | rw[put_none])
 refine wpAnyH_done (by kernel_rfl) ?_ _
 refine NoPanic.normal ?_
 obtain⟨j0,j1,j2,j19⟩:=RC.out _ _ r1
 go_wp2_with (first
  | (refine wpList_build2 rfl 31 0 5 _ _ rfl (.int .i64 6) (.float .f64 r.cost) (.agg P6.toArray) rfl rfl (hB6.out _) ?_)
  | (refine wpList_sliceN rfl 44 1 [_] rfl [(0,.agg P6.toArray)] rfl _ (slice_onep P6 hl6.out _) ?_;refine Hid.out ?_))
 refine Lib.hid ?_
 obtain⟨w8,hw2⟩:∃w2,w2=wq9.alloc (.cells P6.toArray 31):=⟨_,rfl⟩
 rw[←hw2]
 obtain⟨s6,hq⟩:=one_box hw2.symm
 have sl6:=sl_row s6
 rw[hl6.out] at sl6
 clear hw2 s6 j0 j1 j2 j19
 have r1:=r1.later hq r1.lt
 have nm:=nm.later hq nm.lt
 have own:=ownk_later own hq (Nat.le_refl _)
 have hmx:=Nat.le_trans hmx hq.size
 have hb0:=hb0.trans (hq.mono hb0.size)
 clear hq
 obtain⟨j0,j1,j2,j19⟩:=RC.out _ _ r1
 go_wp2_with (first
  | (at_builtin;refine wpList_append_k rfl (.tmp 47) (.tmp 51) 44 rfl (w.heap.size+1) 31 i0 z0 23 by0 Tryz.underlying44 hi hz0 hsz0 (by omega) hby0 hzs0 _ (((0+1)+1)+1) ((([]++P3)++P4)++P5) rfl own (some ⟨wq9.heap.size,0,none⟩) 1 1 P6 rfl hl6.out sl6 ho6.out (by unfold maxLen;omega) (by omega) hmx ?_;intro v6 wa6 own6 hg;have r1:=Row.keptT r1 own hg NT1.out;have nm:=Row.keptT nm own hg NT2.out;have hb0:=hb0.grown hg hb0.size (fun k hk=>Nat.le_trans (Nat.le_succ _) (own.lt k hk).1);have hmx:=Nat.le_trans hmx hg.size;clear own hg;have own:=own6;clear own6;clear j0 j1 j2 j19;obtain⟨j0,j1,j2,j19⟩:=RC.out _ _ r1))
 go_ret
 refine⟨_,([(⟨3,0,[r.op],[],zeroR,0⟩,some ⟨w1.heap.size,0,none⟩,1),(⟨4,0,[],x,zeroR,0⟩,none,0),(⟨5,0,[],[],⟨r.src,(mostA r.src.v6:Nat)⟩,0⟩,none,0),(⟨6,0,[],[],zeroR,r.cost⟩,none,0)]:List PrdX),rfl,by rw[hL.out];rfl,⟨?_,?_⟩,hb0⟩
 ·have e:(((([]++P3)++P4)++P5)++P6)=List.flatMap prdX ([(⟨3,0,[r.op],[],zeroR,0⟩,some ⟨w1.heap.size,0,none⟩,1),(⟨4,0,[],x,zeroR,0⟩,none,0),(⟨5,0,[],[],⟨r.src,(mostA r.src.v6:Nat)⟩,0⟩,none,0),(⟨6,0,[],[],zeroR,r.cost⟩,none,0)]:List PrdX):=by rw[HP3.out,HP4.out,HP5.out,HP6.out];simp[prdX]
  rw[←e]
  exact own_base_k own (Nat.le_succ _)
 ·intro y hy
  simp only[List.mem_cons,List.not_mem_nil,or_false] at hy
  rcases hy with rfl | rfl | rfl | rfl
  ·exact at_op r.op hr.op nm
  ·exact at_path _ x hx256.out
  ·exact at_net _ r hr
  ·exact at_cost _ r.cost hr.cost
theorem rof18_any (r:Req) (w:World) (hr:r.Ok) :
  Calls Tryz.prog 17 #[.agg (reqV r).toArray] w fun e w'=>∃v xs,e=.returned v∧xs.map (·.1)=ofL r∧PrdsOwn w' w.heap.size v xs∧Below w.heap.size w w':=by
 cases h0:name16 r.op<;>cases h1:normL r.path<;>cases h2:checkA r.src<;>cases h3:nanC r.cost
 ·exact rof_0001 r w hr h0 h1 h2 h3
 ·exact rof_0000 r w hr h0 h1 h2 h3
 ·exact rof_0011 r w hr h0 h1 h2 h3
 ·exact rof_0010 r w hr h0 h1 h2 h3
 ·exact rof_0101 r w hr h0 _ h1 h2 h3
 ·exact rof_0100 r w hr h0 _ h1 h2 h3
 ·exact rof_0111 r w hr h0 _ h1 h2 h3
 ·exact rof_0110 r w hr h0 _ h1 h2 h3
 ·exact rof_1001 r w hr h0 h1 h2 h3
 ·exact rof_1000 r w hr h0 h1 h2 h3
 ·exact rof_1011 r w hr h0 h1 h2 h3
 ·exact rof_1010 r w hr h0 h1 h2 h3
 ·exact rof_1101 r w hr h0 _ h1 h2 h3
 ·exact rof_1100 r w hr h0 _ h1 h2 h3
 ·exact rof_1111 r w hr h0 _ h1 h2 h3
 ·exact rof_1110 r w hr h0 _ h1 h2 h3
end Go.Proofs.YtjieebmcbpdeiaaGreatDoor
