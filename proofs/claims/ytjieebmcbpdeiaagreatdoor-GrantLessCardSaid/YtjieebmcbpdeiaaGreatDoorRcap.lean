import Derived.Test.YtjieebmcbpdeiaaGreatDoorRcao
import Derived.Test.YtjieebmcbpdeiaaGreatDoorRcam
import Derived.Test.YtjieebmcbpdeiaaGreatDoorRcac
import Derived.Test.YtjieebmcbpdeiaaGreatDoorRcad
import Derived.Test.YtjieebmcbpdeiaaGreatDoorRcaa
import Derived.Test.YtjieebmcbpdeiaaGreatDoorCards
import Derived.Test.YtjieebmcbpdeiaaGreatDoorTie
import Derived.Stop.LaidErr
import Derived.Shelf.Vars
import Derived.Deep.DeepCutAuto
import Derived.Test.YtjieebmcbpdeiaaGreatDoorRcab
namespace Go.Proofs.YtjieebmcbpdeiaaGreatDoor
set_option maxRecDepth 100000
open Go Go.RowKit
set_option maxHeartbeats 4000000 in
theorem ptext18_any (s:List UInt8) (hs:s.length≤2000) (r:Req) (t:Nat) (w:World) (hr:r.Ok) (ht:t < 2^64) (hE:EnvQ w) :
  Calls Tryz.prog 10 #[.string (bstr s),.agg (reqV r).toArray,.int .u64 (t:Int)] w fun e w'=>e=.returned (.bool (holdsT s r t))∧Below w.heap.size w w':=by
 have hsR:=Lib.hid (show (Tryz.prog.info? 33).map (·.size)=some (reqV r).length by rw[length_reqV r hr.src];exact size_req)
 have HV:=Lib.hid (show holdsT s r t=((parseP s).isSome&&holdsL ((parseP s).getD zeroP) r t) from rfl)
 generalize holdsT s r t=V at *
 have hpa:=fun w' e=>qparse_any s hs w' e
 unfold GavePrd at hpa
 have hho:=Lib.hid (fun w' A c (h:PrdAt w' ((parseP s).getD zeroP) A c) e=>pholds18_any ((parseP s).getD zeroP) A c r t w' h hr ht e)
 obtain⟨R,hR⟩:∃R,R=reqV r:=⟨_,rfl⟩
 obtain⟨w1,hw1⟩:∃w1,w1=w.alloc (.cells R.toArray 33):=⟨_,rfl⟩
 obtain⟨q1,hb1⟩:=one_box hw1.symm
 have hE:=hE.next hb1
 have HW:=Lib.hid hw1
 rw[←hR] at hsR hho ⊢
 have hpa:=Lib.hid hpa
 generalize holdsL ((parseP s).getD zeroP) r t=hv at *
 generalize hx:(parseP s).getD zeroP=x at *
 generalize (parseP s).isSome=ok at *
 generalize bstr s=S at *
 clear hR hw1 hx
 have tk:True:=trivial
 cases ok
 all_goals
  go_enter Tryz.func10,Tryz.ntmps10
  go_wp2_with (first
   | (go_at_call 21;rw[←HW.out];refine (hpa.out _ hE).mono ?_;rintro e w2 ⟨A,c,rfl,ax,hq⟩;have hE:=hE.next hq;have hl:=length_prdV x ax.ok.net.a A c;have hzX:=Lib.hid (show (Tryz.prog.info? 31).map (·.size)=some (prdV x A c).length by rw[hl];exact size_prd);have hzX2:=Lib.hid (show (Tryz.prog.info? 31).map (·.size)=some (prdV x A c).toArray.size by rw[List.size_toArray,hl];exact size_prd);have h23:=Lib.hid (show 23=(prdV x A c).toArray.size by rw[List.size_toArray,hl]);have hX1:=Lib.hid (prdV_one x A c);clear hl;have q1:=q1.later hq q1.lt;have hb1:=hb1.trans (hq.mono hb1.size);clear hq)
   | (have _t:=tk;refine wpList_store_row rfl 31 (.tmp 7) (.tmp 12) rfl w2.heap.size (prdV x A c).toArray rfl rfl 31 _ (heap_alloc_new w2 _) hzX2.out h23.out hX1.out ?_;refine Hid.out ?_))
  refine Lib.hid ?_
  generalize hww:World.setRow _ _ _=w3
  obtain⟨x1,hq⟩:=row_new_set (xs:=prdV x A c) hww
  have q1:=q1.later hq q1.lt
  have ax:=ax.later (Nat.le_refl _) hq
  have hb1:=hb1.trans (hq.mono hb1.size)
  have hE:=hE.next hq
  clear hww hq
  generalize w2.heap.size=g at *
  have hho:=Lib.hid (hho.out w3 A c ax hE)
  clear ax
  obtain⟨X,hX⟩:∃X,X=prdV x A c:=⟨_,rfl⟩
  rw[←hX] at hho x1 hzX
  clear hX
  go_wp2_with (first
   | ((with_reducible refine wpList_step fun K hK=>?_);refine step_load_mid (some 16) rfl (by rfl) 31 (.tmp 7) rfl g 0 rfl X _ (row_range x1) Tryz.underlying31 rfl hzX.out ?_;refine hK _ _ ?_;clear hK)
   | ((with_reducible refine wpList_step fun K hK=>?_);refine step_load_mid (some 17) rfl (by rfl) 33 (.tmp 4) rfl w.heap.size 0 rfl R _ (row_range q1) Tryz.underlying33 rfl hsR.out ?_;refine hK _ _ ?_;clear hK)
   | (go_at_call 12;refine hho.out.mono ?_;rintro e w4 ⟨rfl,hq⟩;have hb1:=hb1.trans (hq.mono hb1.size);clear hq))
  go_ret
  exact⟨by rw[HV.out];rfl,hb1⟩
theorem pall1_any (s:List UInt8) (hs:s.length≤1000) (r:Req) (t:Nat) (w:World) (hr:r.Ok) (ht:t < 2^64) (hE:EnvQ w) (gr gc:Nat) (q1:Row w gr 33 (reqV r)) (q2:Row w gc 22 [.int .u64 (t:Int)]) :
  Calls Tryz.prog 38 #[.string (bstr s),.pointer (some ⟨gr,0,none⟩),.pointer (some ⟨gc,0,none⟩)] w fun e w'=>e=.returned (.bool (!holdsT s r t))∧Below w.heap.size w w':=by
 have hsR:=Lib.hid (show (Tryz.prog.info? 33).map (·.size)=some (reqV r).length by rw[length_reqV r hr.src];exact size_req)
 have hT:=ptext18_any s (by omega) r t w hr ht hE
 generalize holdsT s r t=V at *
 generalize bstr s=S at *
 obtain⟨R,hR⟩:∃R,R=reqV r:=⟨_,rfl⟩
 rw[←hR] at hsR hT q1
 have hT:=Lib.hid hT
 have c2:=q2.cell 0
 have c2:w.cell? ⟨gc,0,none⟩=some (.int .u64 (t:Int)):=c2
 clear hR hE q2
 go_enter Tryz.func38,Tryz.ntmps38
 go_wp2_with (first
  | (with_reducible refine wpList_load_mid rfl 33 (.tmp 1) rfl gr 0 rfl R _ (row_range q1) Tryz.underlying33 rfl hsR.out ?_)
  | (go_at_call 10;refine hT.out.mono ?_;rintro e w3 ⟨rfl,hq⟩))
 go_ret
 exact⟨rfl,hq⟩
set_option maxHeartbeats 4000000 in
theorem pindex18_any (l:List (List UInt8)) (hl:∀s∈l,s.length≤1000) (hlen:l.length≤100) (A:Option Addr) (c:Nat) (r:Req) (t:Nat) (w:World) (hsl:Sl w A c (strsV l)) (hr:r.Ok) (ht:t < 2^64) (hE:EnvQ w) (gr gc:Nat) (q1:Row w gr 33 (reqV r)) (q2:Row w gc 22 [.int .u64 (t:Int)]) :
  Calls Tryz.prog 72 #[.slice A l.length c,.func (.func 38) #[] #[.pointer (some ⟨gr,0,none⟩),.pointer (some ⟨gc,0,none⟩)]] w fun e w'=>∃i:Int,e=.returned (.int .i64 i)∧(i=-1∧holdsA l r t=true∨0≤i∧holdsA l r t=false)∧Below w.heap.size w w':=by
 have HYES:=Lib.hid (show (∀k < l.length,holdsT (l.getD k []) r t=true)→holdsA l r t=true from fun h=>by
  unfold holdsA
  rw[List.all_eq_true]
  intro s hs
  obtain⟨i,hi,rfl⟩:=List.mem_iff_getElem.1 hs
  have:=h i hi
  rw[List.getD_eq_getElem?_getD,List.getElem?_eq_getElem hi] at this
  exact this)
 have HNO:=Lib.hid (show ∀k < l.length,holdsT (l.getD k []) r t=false→holdsA l r t=false from fun k hk h=>by
  unfold holdsA
  rw[List.all_eq_false]
  refine⟨l[k],List.getElem_mem hk,?_⟩
  rw[List.getD_eq_getElem?_getD,List.getElem?_eq_getElem hk] at h
  have h:holdsT l[k] r t=false:=h
  rw[h];decide)
 have HT:=Lib.hid (fun k (hk:k < l.length) w' e p1 p2=>pall1_any (l.getD k []) (hl _ (by rw[List.getD_eq_getElem?_getD,List.getElem?_eq_getElem hk];exact List.getElem_mem hk)) r t w' hr ht e gr gc p1 p2)
 generalize holdsA l r t=V at *
 generalize hhT:(fun k=>holdsT (l.getD k []) r t)=fT
 have HF:=Lib.hid (fun k=>(congrFun hhT k:holdsT (l.getD k []) r t=fT k))
 clear hhT
 obtain⟨R,hR⟩:∃R,R=reqV r:=⟨_,rfl⟩
 rw[←hR] at HT q1
 clear hR hl
 have h2':(l.length:Int)≤100:=by omega
 go_enter Tryz.func72,Tryz.ntmps72
 go_wp2
 go_loopw [8] (fun i wr=>∃k:Nat,k≤l.length∧i=.int .i64 k∧(∀j < k,fT j=true)∧Below w.heap.size w wr) (fun i _=>l.length - (intOf i).toNat)
 case atStart=>exact⟨0,Nat.zero_le _,rfl,fun j hj=>by omega,Below.refl _ _⟩
 case round =>
  obtain⟨k,hk,rfl,hz,hb1⟩:=hrel
  by_cases hlt:k < l.length
  ·have hlt':(k:Int) < (l.length:Int):=by omega
   have hsl:=hsl.later (Nat.le_refl _) hb1
   obtain⟨b1,o1,rfl,-,-⟩:=hsl.rd.get (i:=k) (by rw[length_strsV];exact hlt)
   have hix:=index_strs (some ⟨b1,o1,none⟩) b1 o1 l.length c k rfl hlt
   have hce:=strs_cell hsl k hlt
   have hT:=Lib.hid (HT.out k hlt wr (hE.next hb1) (q1.later hb1 q1.lt) (q2.later hb1 q2.lt))
   have HN:=Lib.hid (HNO.out k hlt)
   have HFk:=Lib.hid (HF.out k)
   rw[HFk.out] at hT HN
   have HZ:=Lib.hid hz
   generalize bstr (l.getD k [])=S at *
   clear hz hsl
   cases hv:fT k with
   | true =>
    rw[hv] at hT
    have HZ2:=Lib.hid (show ∀j < k+1,fT j=true from fun j hj=>by
     by_cases e:j=k
     ·rw[e];exact hv
     ·exact HZ.out j (by omega))
    clear hv
    go_wp2_with (go_at_call 38;refine hT.out.mono ?_;rintro e w3 ⟨rfl,hq⟩;have hb1:=hb1.trans (hq.mono hb1.size))
    go_roundw
    case rel=>exact⟨k+1,by omega,by go_num,HZ2.out,hb1⟩
    case measure=>simp[intOf];omega
   | false =>
    rw[hv] at hT
    have HX:=Lib.hid (HN.out hv)
    clear hv
    go_wp2_with (go_at_call 38;refine hT.out.mono ?_;rintro e w3 ⟨rfl,hq⟩;have hb1:=hb1.trans (hq.mono hb1.size))
    go_ret
    exact⟨k,rfl,.inr ⟨by omega,HX.out⟩,hb1⟩
  ·obtain rfl:k=l.length:=by omega
   have HX:=Lib.hid (HYES.out (fun k hk=>(HF.out k).trans (hz k hk)))
   clear hz hlt hk
   generalize l.length=n at *
   go_wp2
   go_ret
   exact⟨-1,rfl,.inl ⟨rfl,HX.out⟩,hb1⟩
theorem phas18_any (l:List (List UInt8)) (hl:∀s∈l,s.length≤1000) (hlen:l.length≤100) (A:Option Addr) (c:Nat) (r:Req) (t:Nat) (w:World) (hsl:Sl w A c (strsV l)) (hr:r.Ok) (ht:t < 2^64) (hE:EnvQ w) (gr gc:Nat) (q1:Row w gr 33 (reqV r)) (q2:Row w gc 22 [.int .u64 (t:Int)]) :
  Calls Tryz.prog 39 #[.slice A l.length c,.func (.func 38) #[] #[.pointer (some ⟨gr,0,none⟩),.pointer (some ⟨gc,0,none⟩)]] w fun e w'=>e=.returned (.bool (!holdsA l r t))∧Below w.heap.size w w':=by
 have hi:=Lib.hid (pindex18_any l hl hlen A c r t w hsl hr ht hE gr gc q1 q2)
 generalize holdsA l r t=v at *
 generalize l.length=n at *
 clear hsl q1 q2 hE
 go_enter Tryz.func39,Tryz.ntmps39
 go_wp2_with (go_at_call 72;refine hi.out.mono ?_;rintro e w6 ⟨x,rfl,hx,hb6⟩)
 ·rcases hx with ⟨rfl,rfl⟩ | ⟨h1,rfl⟩
  all_goals go_wp2
  all_goals go_ret
  all_goals first | exact⟨rfl,hb6⟩ | (exfalso;omega) | trace_state
theorem pall18_any (l:List (List UInt8)) (hl:∀s∈l,s.length≤1000) (hlen:l.length≤100) (A:Option Addr) (c:Nat) (r:Req) (t:Nat) (w:World) (hsl:Sl w A c (strsV l)) (hr:r.Ok) (ht:t < 2^64) (hE:EnvQ w) :
  Calls Tryz.prog 14 #[.slice A l.length c,.agg (reqV r).toArray,.int .u64 (t:Int)] w fun e w'=>e=.returned (.bool (holdsA l r t))∧Below w.heap.size w w':=by
 have hmf:∀(fn:Fn) (first cap:Array Value) (w:World),(Instr.makeFunc fn first cap).run Tryz.prog w=.ok (.func fn first cap) w:=fun _ _ _ _=>rfl
 obtain⟨w1,hw1⟩:∃w1,w1=(w.alloc (.cells (reqV r).toArray 33)).alloc (.cells [Value.int .u64 (t:Int)].toArray 22):=⟨_,rfl⟩
 obtain⟨q1,q2,hb1⟩:=two_boxes hw1.symm
 have hc:=Lib.hid (phas18_any l hl hlen A c r t w1 (hsl.later (Nat.le_refl _) hb1) hr ht (hE.next hb1) _ _ q1 q2)
 have HW:=Lib.hid hw1
 generalize holdsA l r t=v at *
 generalize l.length=n at *
 obtain⟨R,hR⟩:∃R,R=reqV r:=⟨_,rfl⟩
 rw[←hR] at HW ⊢
 clear hw1 hR hsl q1 q2 hE
 go_enter Tryz.func14,Tryz.ntmps14
 go_wp2_with (go_at_call 39;rw[←HW.out];refine hc.out.mono ?_;rintro e w2 ⟨rfl,hq⟩;have hb1:=hb1.trans (hq.mono hb1.size))
 go_ret
 exact⟨rfl,hb1⟩
def EnvG (w:World):Prop:=EnvQ w
theorem EnvG.next {w w':World} (h:EnvG w) (hb:Below w.heap.size w w'):EnvG w':=EnvQ.next h hb
theorem gtext_any (s:List UInt8) (hs:s.length≤1000) (r:Req) (t:Nat) (w:World) (hr:r.Ok) (ht:t < 2^64) (hE:EnvG w) :
  Calls Tryz.prog 10 #[.string (bstr s),.agg (reqV r).toArray,.int .u64 (t:Int)] w fun e w'=>e=.returned (.bool (holdsT s r t))∧Below w.heap.size w w':=ptext18_any s (by omega) r t w hr ht hE
theorem gholds_any (p:Prd) (A:Option Addr) (c:Nat) (r:Req) (t:Nat) (w:World) (hp:PrdAt w p A c) (hr:r.Ok) (ht:t < 2^64) (hE:EnvG w) :
  Calls Tryz.prog 12 #[.agg (prdV p A c).toArray,.agg (reqV r).toArray,.int .u64 (t:Int)] w fun e w'=>e=.returned (.bool (holdsL p r t))∧Below w.heap.size w w':=pholds18_any p A c r t w hp hr ht hE
theorem gall_any (l:List (List UInt8)) (hl:∀s∈l,s.length≤1000) (hlen:l.length≤100) (A:Option Addr) (c:Nat) (r:Req) (t:Nat) (w:World) (hsl:Sl w A c (strsV l)) (hr:r.Ok) (ht:t < 2^64) (hE:EnvG w) :
  Calls Tryz.prog 14 #[.slice A l.length c,.agg (reqV r).toArray,.int .u64 (t:Int)] w fun e w'=>e=.returned (.bool (holdsA l r t))∧Below w.heap.size w w':=pall18_any l hl hlen A c r t w hsl hr ht hE
theorem step_sliceN {P:Program} {w w':World} {ops:Array Oper} {o:Oper} {a:Act} {K:Act→World→Prop} {Q:Exit→Act→World→Prop} {E:Prop} (dst:Option Tmp) (hdst:o.dst=dst) (hgd:Region.wanted o (yielded ops a.tmps)=true) (ty:TypeId) (n:Nat) (parts:List (Nat×Operand)) (ho:o.op=.buildSlice ty n parts.toArray) (vals:List (Nat×Value)) (hx:parts.map (fun p=>(p.1,a.eval p.2))=vals) (v:Value)
  (hv:(Instr.buildSlice ty n vals.toArray).run P w=.ok v w') (h:K (a.put dst v) w'):if Region.wanted o (yielded ops a.tmps)=true then Oper.wp P o a w K Q else E:=by
 subst hdst hx
 rw[if_pos hgd]
 unfold Oper.wp execOp
 simp only[ho,Sem.run_bind,Sem.run_pure,Result.andThen_ok,List.map_toArray,hv]
 exact h
theorem run_build_op2 {P:Program} {w:World} {o:Oper} {a:Act} (ty:TypeId) (k0 k1:Nat) (x0 x1:Operand) (ho:o.op=.build ty #[(k0,x0),(k1,x1)]) (v0 v1 v:Value) (hx0:a.eval x0=v0) (hx1:a.eval x1=v1) (hv:(Instr.build ty #[(k0,v0),(k1,v1)]).run P w=.ok v w):(execOp a.eval o).run P w=.ok (.value v) w:=by
 unfold execOp
 simp only[ho,Sem.run_bind,Sem.run_pure,Result.andThen_ok,List.map_toArray,List.map_cons,List.map_nil,hx0,hx1,hv]
theorem textP_of18 (p:Prd) (h2:(wordsP p).2≠[]) (ho:onlyP p=true) (hl:(wordsP p).1.length+(wordsP p).2.length≤511):textP p≠[]:=by
 unfold textP
 rw[if_neg (fun h=>by
  rcases h with h | h | h
  ·exact h2 h
  ·rw[ho] at h;cases h
  ·omega)]
 intro h
 have:=congrArg List.length h
 rw[List.length_append,List.length_cons] at this
 simp at this
theorem same_zero:sameR zeroR zeroR=true:=(sameR_iff _ _).2 rfl
theorem gparse_any (s:List UInt8) (hs:s.length≤2000) (w:World) (hE:EnvG w):Calls Tryz.prog 21 #[.string (bstr s)] w (GavePrd (parseP s) w):=qparse_any s hs w hE
open Go Go.ChangeShapes Go.WideShapes Go.ChangeAt Go.RowKit
theorem shape_most {W:World} (h:W.ShapedOpen Tryz.prog):∃m,W.cell? ⟨1,0,none⟩=some (.int .i64 m) :=
 Go.Proofs.cell_of_shapedOpen_int (zero:=#[.int .i64 0]) (t:=3) h (of_decide_eq_true (by kernel_rfl)) (by kernel_rfl) rfl (by kernel_rfl) (by kernel_rfl) Tryz.underlying3
theorem g64:Tryz.prog.globalNamed "math/bits.deBruijn64tab"=some 3:=by kernel_rfl
theorem gSyn:Tryz.prog.globalNamed "strconv.ErrSyntax"=some 6:=by kernel_rfl
theorem gRng:Tryz.prog.globalNamed "strconv.ErrRange"=some 7:=by kernel_rfl
def bruijn64:List Int:=[0,1,56,2,57,49,28,3,61,58,42,50,38,29,17,4,62,47,59,36,45,43,51,22,53,39,33,30,24,18,12,5,63,55,48,27,60,41,37,16,46,35,44,21,52,32,23,11,54,26,40,15,34,20,31,10,25,14,19,9,13,8,7,6]
theorem bruijn_at:∀j,j < 64→bruijn64.getD j 0=((Lib.deBruijn64tab.getD j 0:Nat):Int):=by
 have h:∀j:Fin 64,bruijn64.getD j.1 0=((Lib.deBruijn64tab.getD j.1 0:Nat):Int):=by decide +kernel
 intro j hj
 exact h ⟨j,hj⟩
theorem star_es:"*"++"errors.errorString"="*errors.errorString":=by decide
theorem type_string_ptr:∀u,Tryz.prog.typeName? 3 u=some "*errors.errorString"→u=210:=fun u h =>
 typeName_ptr_named (nm:="errors.errorString") (by rw[star_es];kernel_rfl) (by kernel_rfl) (by decide) u (by rw[star_es];exact h)
theorem env_c {W:World} (t64:Lib.TabIs Tryz.prog W "math/bits.deBruijn64tab" .u8 bruijn64) (tPow:Lib.TabIs Tryz.prog W "internal/strconv.uint64pow10" .u64 Lib.pow10Tab):EnvC W :=
 ⟨tPow,fun j hj=>by rw[t64.cell g64 j hj,bruijn_at j hj]⟩
theorem env_of {W:World} (h:laidMet Tryz.prog Rows.grantHoldsRow.laid W) (hs:W.ShapedOpen Tryz.prog):EnvG W:=by
 have h1:=laidMet.tail h
 have h2:=laidMet.tail h1
 have h4:=laidMet.tail (laidMet.tail h2)
 have h5:=laidMet.tail h4
 have t64:Lib.TabIs Tryz.prog W "math/bits.deBruijn64tab" .u8 bruijn64:=Lib.tabIs_of_head (zs:=bruijn64) g64 (t:=180) (by kernel_rfl) Tryz.underlying180 Tryz.underlying5 (by kernel_rfl) (by kernel_rfl) h1
 have tPow:Lib.TabIs Tryz.prog W "internal/strconv.uint64pow10" .u64 Lib.pow10Tab:=Lib.tabIs_of_head (zs:=Lib.pow10Tab) gPow (t:=171) (by kernel_rfl) Tryz.underlying171 Tryz.underlying22 (by kernel_rfl) (by kernel_rfl) h2
 obtain⟨aR,sR,hR,-⟩:=laid_sentinel h4 gRng (by kernel_rfl) Tryz.underlying125 type_string_ptr Tryz.underlying210 Tryz.underlying212 rfl rfl Tryz.underlying9 (by kernel_rfl) (by kernel_rfl)
 obtain⟨aS,sS,hS,-⟩:=laid_sentinel h5 gSyn (by kernel_rfl) Tryz.underlying125 type_string_ptr Tryz.underlying210 Tryz.underlying212 rfl rfl Tryz.underlying9 (by kernel_rfl) (by kernel_rfl)
 exact show EnvQ W from ⟨env_c t64 tPow,shape_most hs,⟨_,by simpa using World.var?_cell gSyn hS 0,.inr ⟨_,_,rfl⟩⟩,⟨_,by simpa using World.var?_cell gRng hR 0,.inr ⟨_,_,rfl⟩⟩⟩
def setCells12 (cs:List Value):Obj→Obj
 | .cells _ t frozen=>.cells cs.toArray t frozen
 | o=>o
def bruijn32:List Int:=[0,1,28,2,29,14,24,3,30,22,20,15,25,17,4,8,31,27,13,23,21,19,16,7,26,12,18,6,11,5,10,9]
def accept32:List Int:=[128,191,160,191,128,159,144,191,128,143]++List.replicate 22 0
def synS:ByteArray:={ data:=#[105,110,118,97,108,105,100,32,115,121,110,116,97,120] }
def rngS:ByteArray:={ data:=#[118,97,108,117,101,32,111,117,116,32,111,102,32,114,97,110,103,101] }
noncomputable def low12:Nat:=(World.holding Tryz.prog default ⟨#[],#[],[]⟩).heap.size
noncomputable def libWorld (os:Os):World :=
 let w0:=World.holding Tryz.prog os ⟨#[.cells #[.string rngS] 212,.cells #[.string synS] 212],#[],[]⟩
 { w0 with heap:=((((((w0.heap.modify 8 (setCells12 (bruijn32.map (Value.int .u8)))).modify 3 (setCells12 (bruijn64.map (Value.int .u8)))).modify 2 (setCells12 (Lib.pow10Tab.map (Value.int .u64)))).modify
   5 (setCells12 (accept32.map (Value.int .u8)))).modify 4 (setCells12 (Go.Pinned.utf8FirstZ.map fun n:Nat=>Value.int .u8 (n:Int)))).modify
   7 (setCells12 [.iface 210 (.pointer (some ⟨low12,0,none⟩))])).modify 6 (setCells12 [.iface 210 (.pointer (some ⟨low12+1,0,none⟩))]) }
theorem lib_met (os:Os) (args:Array Value):laidMet Tryz.prog Rows.grantHoldsRow.laid ((libWorld os).forCall (fun _ _=>0) ⟨#[],args,[]⟩).memory :=
 laidMet_of_run' 8 (by kernel_rfl) (by kernel_rfl)
end Go.Proofs.YtjieebmcbpdeiaaGreatDoor
namespace Go.Proofs.YtjieebmcbpdeiaaGreatDoor
open Go.ChangeShapes Go.WideShapes Go.ChangeAt Go.RowKit
set_option maxRecDepth 100000
theorem cells_req18:Tryz.prog.cellsOf 33=20:=by kernel_rfl
theorem cells_ask18:Tryz.prog.cellsOf 35=22:=by kernel_rfl
section
variable {H:Type} {enc:TypeId×Value→H} {W:World} {held:Bool} {b1:Nat}
theorem len3 {α:Type} (l:List α) (h:l.length=3):∃a b c,l=[a,b,c]:=by
 match l,h with
 | [a,b,c],_=>exact⟨a,b,c,rfl⟩
theorem len4 {α:Type} (l:List α) (h:l.length=4):∃a b c d,l=[a,b,c,d]:=by
 match l,h with
 | [a,b,c,d],_=>exact⟨a,b,c,d,rfl⟩
theorem cut4_18 {α:Type} (l:List α):l=(l.drop 0).take 1++((l.drop 1).take 1++((l.drop 2).take 17++l.drop 19)):=by
 rw[←List.drop_drop (i:=17) (j:=2),List.take_append_drop]
 match l with
 | []=>rfl
 | [_]=>rfl
 | _ :: _ :: _=>rfl
theorem cut3_18 {α:Type} (l:List α):l=(l.drop 0).take 20++((l.drop 20).take 1++l.drop 21):=by
 rw[←List.drop_drop (i:=1) (j:=20),List.take_append_drop,List.drop_zero,List.take_append_drop]
theorem open_req {n:Nat} {cs:List Value} {x:DataW H×List MemPlace} (h:DataW.trod enc Tryz.prog W b1 (fun _=>true) held n 33 cs=some x) (hsz:∀k∈x.1.weights Tryz.prog 33,k≤reachBytes) :
  ∃r:Req,cs=reqV r∧ReqArg r:=by
 obtain⟨xs,m,_,rfl,hcl,hxl,hf⟩:=DataW.trod_struct Tryz.underlying33 h
 rw[cells_req18] at hcl
 obtain⟨y0,y1,y2,y3,rfl⟩:=len4 xs hxl
 have g0:DataW.trod enc Tryz.prog W b1 (fun _=>true) held m 9 ((cs.drop 0).take (Tryz.prog.cellsOf 9))=some y0:=hf 0 _ rfl
 have g1:DataW.trod enc Tryz.prog W b1 (fun _=>true) held m 9 ((cs.drop 1).take (Tryz.prog.cellsOf 9))=some y1:=hf 1 _ rfl
 have g2:DataW.trod enc Tryz.prog W b1 (fun _=>true) held m 26 ((cs.drop 2).take (Tryz.prog.cellsOf 26))=some y2:=hf 2 _ rfl
 have g3:DataW.trod enc Tryz.prog W b1 (fun _=>true) held m 29 ((cs.drop 19).take (Tryz.prog.cellsOf 29))=some y3:=hf 3 _ rfl
 rw[cells_str] at g0 g1
 rw[cells_adr17] at g2
 rw[cells_f64_17,List.take_of_length_le (by rw[List.length_drop];omega)] at g3
 have hwe:∀k,(k∈y0.1.weights Tryz.prog 9∨k∈y1.1.weights Tryz.prog 9)→k≤reachBytes:=by
  intro k hk
  refine hsz k ?_
  simp only[DataW.weights,Tryz.underlying33,List.map_cons,List.map_nil,DataW.weightsEach,List.mem_append]
  rcases hk with hk | hk
  ·exact .inl hk
  ·exact .inr (.inl hk)
 obtain⟨s0,e0,q0,_⟩:=DataW.trod_string Tryz.underlying9 g0
 obtain⟨s1,e1,q1,_⟩:=DataW.trod_string Tryz.underlying9 g1
 obtain⟨a,ha,e2⟩:=open_adr17 g2
 obtain⟨f,e3,_⟩:=open_f64_17 g3
 refine⟨⟨s0.data.toList,s1.data.toList,a,f⟩,?_,⟨ha,?_,?_⟩⟩
 ·rw[cut4_18 cs,e0,e1,e2,e3]
  unfold reqV
  dsimp only
  rw[bstr_data,bstr_data]
  rfl
 ·have:=hwe s0.data.toList.length (.inl (by rw[q0];simp[DataW.weights]))
  unfold reachBytes at this
  exact this
 ·have:=hwe s1.data.toList.length (.inr (by rw[q1];simp[DataW.weights]))
  unfold reachBytes at this
  exact this
theorem open_ask {n:Nat} {cs:List Value} {x:DataW H×List MemPlace} (h:DataW.trod enc Tryz.prog W b1 (fun _=>true) held n 35 cs=some x) (hsz:∀k∈x.1.weights Tryz.prog 35,k≤reachBytes) :
  ∃(r:Req) (b t:Nat),cs=askV r b t∧ReqArg r∧b < 2^64∧t < 2^64:=by
 obtain⟨xs,m,_,rfl,hcl,hxl,hf⟩:=DataW.trod_struct Tryz.underlying35 h
 rw[cells_ask18] at hcl
 obtain⟨y0,y1,y2,rfl⟩:=len3 xs hxl
 have g0:DataW.trod enc Tryz.prog W b1 (fun _=>true) held m 33 ((cs.drop 0).take (Tryz.prog.cellsOf 33))=some y0:=hf 0 _ rfl
 have g1:DataW.trod enc Tryz.prog W b1 (fun _=>true) held m 22 ((cs.drop 20).take (Tryz.prog.cellsOf 22))=some y1:=hf 1 _ rfl
 have g2:DataW.trod enc Tryz.prog W b1 (fun _=>true) held m 22 ((cs.drop 21).take (Tryz.prog.cellsOf 22))=some y2:=hf 2 _ rfl
 rw[cells_req18] at g0
 rw[cells_u64_17] at g1
 rw[cells_u64_17,List.take_of_length_le (by rw[List.length_drop];omega)] at g2
 have hwe:∀k,k∈y0.1.weights Tryz.prog 33→k≤reachBytes:=by
  intro k hk
  refine hsz k ?_
  simp only[DataW.weights,Tryz.underlying35,List.map_cons,List.map_nil,DataW.weightsEach,List.mem_append]
  exact .inl hk
 obtain⟨r,e0,hr⟩:=open_req g0 hwe
 obtain⟨z1,e1,_,hwf1⟩:=DataW.trod_int Tryz.underlying22 g1
 obtain⟨z2,e2,_,hwf2⟩:=DataW.trod_int Tryz.underlying22 g2
 have hb1:=bounds_u64 hwf1
 have hb2:=bounds_u64 hwf2
 refine⟨r,z1.toNat,z2.toNat,?_,hr,by omega,by omega⟩
 rw[cut3_18 cs,e0,e1,e2]
 unfold askV
 rw[show ((z1.toNat:Nat):Int)=z1 by omega,show ((z2.toNat:Nat):Int)=z2 by omega]
 rfl
end
theorem open_askArg {H:Type} {enc:TypeId×Value→H} {W:World} {held:Bool} {b0 b1:Nat} {r:Reach} {v:Value} {d:DataW H} {p:List MemPlace} {ts:List TypeId} {ds:List (DataW H)}
  (hv:Value.okWide Tryz.prog W r b0 35 v) (h:DataW.Trod enc Tryz.prog W b1 (fun _=>true) held 35 v d p) (hsz:(DataW.weightsEach Tryz.prog ts ds).all (·≤reachBytes)=true) {j:Nat} (ht:ts[j]?=some 35) (hd:ds[j]?=some d) :
  ∃(q:Req) (b t:Nat),v=.agg (askV q b t).toArray∧ReqArg q∧b < 2^64∧t < 2^64:=by
 simp only[Value.okWide,Tryz.underlying35] at hv
 obtain⟨cs,rfl,_,_⟩:=hv
 obtain⟨fuel,hf⟩:=h
 obtain⟨q,b,t,e,h1,h2,h3⟩:=open_ask hf (fun k hk=>of_decide_eq_true (List.all_eq_true.1 hsz k (DataW.weights_mem_each ht hd k hk)))
 refine⟨q,b,t,?_,h1,h2,h3⟩
 have e:cs.toList=askV q b t:=e
 rw[←e]
def zAskV:Value:=.agg (#[.string { data:=#[] },.string { data:=#[] },.bool false]++Array.replicate 16 (.int .u8 0)++#[.float .f64 0,.int .u64 0,.int .u64 0])
def zAskD {H:Type} : DataW H:=.agg [.agg [.lit (.string []),.lit (.string []),.agg [.lit (.bool false),.agg (List.replicate 16 (.lit (.int .u8 0)))],.lit (.float .f64 0)],.lit (.int .u64 0),.lit (.int .u64 0)]
end Go.Proofs.YtjieebmcbpdeiaaGreatDoor
namespace Go.Proofs.YtjieebmcbpdeiaaGreatDoor
set_option maxRecDepth 100000
open Go Go.RowKit
theorem holdsA_append (l m:List (List UInt8)) (r:Req) (t:Nat):holdsA (l++m) r t=(holdsA l r t&&holdsA m r t):=List.all_append
theorem holdsT_no (s:List UInt8) (r:Req) (t:Nat) (h:parseP s=none):holdsT s r t=false:=by unfold holdsT;rw[h];rfl
theorem num20_len (n:Nat) (h:n < 2^64):(numL 10 n).length≤20:=numL_len 10 (by omega) 19 n (by omega)
theorem before_can (n:Nat) (h:n < 2^64):textP ⟨1,n,[],[],zeroR,0⟩≠[]:=by
 have hl:=num20_len n h
 have hW:wordsP ⟨1,n,[],[],zeroR,0⟩=([98,101,102,111,114,101],numL 10 n):=rfl
 exact textP_of18 _ (by rw[hW];exact numL_ne 10 n) (by unfold onlyP;rw[same_zero];rfl) (by rw[hW];show 6+(numL 10 n).length≤511;omega)
theorem since_can (n:Nat) (h:n < 2^64):textP ⟨2,n,[],[],zeroR,0⟩≠[]:=by
 have hl:=num20_len n h
 have hW:wordsP ⟨2,n,[],[],zeroR,0⟩=([115,105,110,99,101],numL 10 n):=rfl
 exact textP_of18 _ (by rw[hW];exact numL_ne 10 n) (by unfold onlyP;rw[same_zero];rfl) (by rw[hW];show 5+(numL 10 n).length≤511;omega)
theorem holds_before (n:Nat) (h:n < 2^64) (r:Req) (t:Nat):holdsL ⟨1,n,[],[],zeroR,0⟩ r t=decide (t < n):=by
 unfold holdsL
 rw[if_neg (before_can n h),if_pos rfl]
theorem holds_since (n:Nat) (h:n < 2^64) (r:Req) (t:Nat):holdsL ⟨2,n,[],[],zeroR,0⟩ r t=decide (n≤t):=by
 unfold holdsL
 rw[if_neg (since_can n h),if_neg (by show ¬(2:Int)=1;decide),if_pos rfl]
theorem before_since (n:Nat) (h:n < 2^64) (r:Req) (t:Nat):holdsL ⟨1,n,[],[],zeroR,0⟩ r t=!holdsL ⟨2,n,[],[],zeroR,0⟩ r t:=by
 rw[holds_before n h,holds_since n h]
 by_cases hc:t < n
 ·rw[decide_eq_true hc,decide_eq_false (by omega)];rfl
 ·rw[decide_eq_false hc,decide_eq_true (by omega)];rfl
theorem par_b5:parseP [98,101,102,111,114,101,32,53]=some ⟨1,5,[],[],zeroR,0⟩ :=
 (parseP_iff _ _).2 ⟨⟨zeroR_ok,by decide,by decide⟩,by decide,by decide⟩
theorem par_c0:parseP [99,111,115,116,32,48]=some ⟨6,0,[],[],zeroR,0⟩ :=
 (parseP_iff _ _).2 ⟨⟨zeroR_ok,by decide,by decide⟩,by decide,by decide⟩
def reqZ (c:Nat):Req:=⟨[],[],zeroA,c⟩
theorem reqZ_ok (c:Nat) (h:c < 2^64):(reqZ c).Ok:=⟨zeroA_ok,h,by show (0:Nat)≤1000;omega,by show (0:Nat)≤1000;omega⟩
theorem al_1:holdsT [98,101,102,111,114,101,32,53] (reqZ 0) 4=true:=by unfold holdsT;rw[par_b5];decide
theorem al_2:holdsT [98,101,102,111,114,101,32,53] (reqZ 0) 5=false:=by unfold holdsT;rw[par_b5];decide
theorem al_3:holdsT [99,111,115,116,32,48] (reqZ 9221120237041090561) 0=false:=by unfold holdsT;rw[par_c0];decide
set_option maxHeartbeats 2000000 in
theorem galive_any (w:World) (hE0:EnvG w):Calls Tryz.prog 6 #[] w fun e w'=>e=.returned (.bool true)∧Below w.heap.size w w':=by
 have h1:=fun w' h=>gtext_any [98,101,102,111,114,101,32,53] (by decide) (reqZ 0) 4 w' (reqZ_ok 0 (by decide)) (by decide) h
 have h2:=fun w' h=>gtext_any [98,101,102,111,114,101,32,53] (by decide) (reqZ 0) 5 w' (reqZ_ok 0 (by decide)) (by decide) h
 have h3:=fun w' h=>gtext_any [99,111,115,116,32,48] (by decide) (reqZ 9221120237041090561) 0 w' (reqZ_ok _ (by decide)) (by decide) h
 rw[al_1] at h1
 rw[al_2] at h2
 rw[al_3] at h3
 have h1:=Lib.hid h1
 have h2:=Lib.hid h2
 have h3:=Lib.hid h3
 have hn:=Lib.hid (fun w'=>fnan_any w')
 have hb0:Below w.heap.size w w:=Below.refl _ _
 have tk1:True:=trivial
 have tk2:True:=trivial
 go_enter Tryz.func6,Tryz.ntmps6
 go_wp2_with (first
  | (go_at_call 10;have _t:=tk1;refine (h1.out _ hE0).mono ?_;rintro e w1 ⟨rfl,hq⟩;have hE0:=hE0.next hq;have hb0:=hb0.trans (hq.mono hb0.size);clear hq tk1)
  | (go_at_call 10;have _t:=tk2;refine (h2.out _ hE0).mono ?_;rintro e w2 ⟨rfl,hq⟩;have hE0:=hE0.next hq;have hb0:=hb0.trans (hq.mono hb0.size);clear hq tk2)
  | (go_at_call 10;refine (h3.out _ hE0).mono ?_;rintro e w3 ⟨rfl,hq⟩;have hb0:=hb0.trans (hq.mono hb0.size);clear hq)
  | (go_at_call 22;refine (hn.out _).mono ?_;rintro e w' ⟨rfl,rfl⟩))
 go_ret
 exact⟨rfl,hb0⟩
theorem size_ask:(Tryz.prog.info? 35).map (·.size)=some 22:=by kernel_rfl
theorem length_askV (r:Req) (h:r.src.Ok) (b t:Nat):(askV r b t).length=22:=by unfold askV;rw[List.length_append,length_reqV r h];rfl
theorem askR_ok (r:Req) (b:Nat) (h:ReqArg r) (hb:b < 2^64) (h1:r.op.length≤1000) (h2:r.path.length≤1000):(askR r b).Ok:=⟨h.src,hb,h1,h2⟩
end Go.Proofs.YtjieebmcbpdeiaaGreatDoor
