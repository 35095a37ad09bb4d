import Derived.Test.YtjieebmcbpdeiaaGreatDoorRcap
import Derived.Test.YtjieebmcbpdeiaaGreatDoorRcac
namespace Go.Proofs.YtjieebmcbpdeiaaGreatDoor
set_option maxRecDepth 100000
open Go Go.RowKit
set_option maxHeartbeats 4000000 in
theorem gless_l (l m:List (List UInt8)) (A B:Option Addr) (c d:Nat) (r:Req) (b t:Nat) (w:World) (_hr:ReqArg r) (hE0:EnvG w) (hl:30 < l.length) :
  Calls Tryz.prog 5 #[.slice A l.length c,.slice B m.length d,.agg (askV r b t).toArray] w fun e w'=>e=.returned (.bool true)∧Below w.heap.size w w':=by
 have hl':(30:Int) < (l.length:Int):=by omega
 clear hl
 have hal:=Lib.hid (fun w' hE=>galive_any w' hE)
 obtain⟨w1,hw1⟩:∃w1,w1=w.alloc (.cells (askV r b t).toArray 35):=⟨_,rfl⟩
 obtain⟨q1,hb0⟩:=one_box hw1.symm
 have hE0:=hE0.next hb0
 obtain⟨V,hV⟩:∃V,V=askV r b t:=⟨_,rfl⟩
 rw[←hV] at q1 hw1 ⊢
 have HW:=Lib.hid hw1
 clear hw1 hV
 go_enter Tryz.func5,Tryz.ntmps5
 go_wp2_with (first
  | (go_at_call 6;rw[←HW.out];refine (hal.out _ hE0).mono ?_;rintro e w2 ⟨rfl,hq⟩;have hE0:=hE0.next hq;have q1:=q1.later hq q1.lt;have hb0:=hb0.trans (hq.mono hb0.size);clear hq))
 go_ret
 exact⟨rfl,hb0⟩
set_option maxHeartbeats 4000000 in
theorem gless_m (l m:List (List UInt8)) (A B:Option Addr) (c d:Nat) (r:Req) (b t:Nat) (w:World) (_hr:ReqArg r) (hE0:EnvG w) (hl:l.length≤30) (hm:30 < m.length) :
  Calls Tryz.prog 5 #[.slice A l.length c,.slice B m.length d,.agg (askV r b t).toArray] w fun e w'=>e=.returned (.bool true)∧Below w.heap.size w w':=by
 have hl':(l.length:Int)≤30:=by omega
 have hm':(30:Int) < (m.length:Int):=by omega
 clear hl hm
 have hal:=Lib.hid (fun w' hE=>galive_any w' hE)
 obtain⟨w1,hw1⟩:∃w1,w1=w.alloc (.cells (askV r b t).toArray 35):=⟨_,rfl⟩
 obtain⟨q1,hb0⟩:=one_box hw1.symm
 have hE0:=hE0.next hb0
 obtain⟨V,hV⟩:∃V,V=askV r b t:=⟨_,rfl⟩
 rw[←hV] at q1 hw1 ⊢
 have HW:=Lib.hid hw1
 clear hw1 hV
 go_enter Tryz.func5,Tryz.ntmps5
 go_wp2_with (first
  | (go_at_call 6;rw[←HW.out];refine (hal.out _ hE0).mono ?_;rintro e w2 ⟨rfl,hq⟩;have hE0:=hE0.next hq;have q1:=q1.later hq q1.lt;have hb0:=hb0.trans (hq.mono hb0.size);clear hq))
 go_ret
 exact⟨rfl,hb0⟩
theorem own_nil18 (w:World):(w.alloc (.cells #[] 9)).ownsRow w.heap.size 9 1 (.slice (some ⟨w.heap.size,0,none⟩) 0 0) 0 (strsV []):=World.ownsRow_lit w (e:=9) (size:=1) #[] 0 (Nat.le_refl _) (by unfold maxLen;omega) rfl
theorem below_nil18 (w:World):Below w.heap.size w (w.alloc (.cells #[] 9)):=(Below.refl _ w).alloc (Nat.le_refl _) _
theorem slice_zero18 (w:World):(Instr.buildSlice 23 0 #[]).run Tryz.prog w=.ok (.slice (some ⟨w.heap.size,0,none⟩) 0 0) (w.alloc (.cells #[] 9)):=by go_simp
theorem step_zero18 {w:World} {ops:Array Oper} {o:Oper} {a:Act} {K:Act→World→Prop} {Q:Exit→Act→World→Prop} {E:Prop} (dst:Option Tmp) (hdst:o.dst=dst) (hgd:Region.wanted o (yielded ops a.tmps)=true) (ho:o.op=.buildSlice 23 0 #[])
  (h:∀w',w'.ownsRow w.heap.size 9 1 (.slice (some ⟨w.heap.size,0,none⟩) 0 0) 0 (strsV [])→Below w.heap.size w w'→K (a.put dst (.slice (some ⟨w.heap.size,0,none⟩) 0 0)) w'):if Region.wanted o (yielded ops a.tmps)=true then Oper.wp Tryz.prog o a w K Q else E :=
 step_sliceN dst hdst hgd 23 0 [] ho [] rfl _ (slice_zero18 w) (h _ (own_nil18 w) (below_nil18 w))
theorem before_at (W:World) (n:Nat) (h:n < 2^64):PrdAt W ⟨1,n,[],[],zeroR,0⟩ none 0 :=
 ⟨⟨zeroR_ok,h,by show (0:Nat) < _;omega⟩,sl_none16 W,by show (-9223372036854775808:Int)≤1;omega,by show (1:Int)≤_;omega,by show (0:Nat)≤_;omega,by show (0:Nat)≤_;omega⟩
theorem since_at (W:World) (n:Nat) (h:n < 2^64):PrdAt W ⟨2,n,[],[],zeroR,0⟩ none 0 :=
 ⟨⟨zeroR_ok,h,by show (0:Nat) < _;omega⟩,sl_none16 W,by show (-9223372036854775808:Int)≤2;omega,by show (2:Int)≤_;omega,by show (0:Nat)≤_;omega,by show (0:Nat)≤_;omega⟩
structure LessI (w:World) (V:List Value) (l m:List (List UInt8)) (A B:Option Addr) (c d:Nat) (wx:World):Prop where
 ask:Row wx w.heap.size 35 V
 sl:Sl wx A c (strsV l)
 sm:Sl wx B d (strsV m)
 env:EnvG wx
 bel:Below w.heap.size w wx
theorem LessI.later {w wx wy:World} {V:List Value} {l m:List (List UInt8)} {A B:Option Addr} {c d:Nat} (h:LessI w V l m A B c d wx) (hq:Below wx.heap.size wx wy):LessI w V l m A B c d wy :=
 ⟨h.ask.later hq h.ask.lt,h.sl.later (Nat.le_refl _) hq,h.sm.later (Nat.le_refl _) hq,h.env.next hq,h.bel.trans (hq.mono h.bel.size)⟩
set_option maxHeartbeats 4000000 in
theorem gless_odd (l m:List (List UInt8)) (A B:Option Addr) (c d:Nat) (r:Req) (b t:Nat) (w:World) (hr:ReqArg r) (hE0:EnvG w) (hsl:Sl w A c (strsV l)) (hsm:Sl w B d (strsV m)) (hl:l.length≤30) (hm:m.length≤30) (ho:oddQ r=1) :
  Calls Tryz.prog 5 #[.slice A l.length c,.slice B m.length d,.agg (askV r b t).toArray] w fun e w'=>e=.returned (.bool true)∧Below w.heap.size w w':=by
 have hal:=Lib.hid (fun w' hE=>galive_any w' hE)
 have hzR:=Lib.hid (show (Tryz.prog.info? 33).map (·.size)=some (reqV r).length by rw[length_reqV r hr.src];exact size_req)
 have HRG:=Lib.hid (show ∀(W:World) g,Row W g 35 (askV r b t)→W.rangeAt g 0 (reqV r) from fun W g h=>range_of_row (A:=[]) (B:=reqV r) (C:=[.int .u64 (b:Int),.int .u64 (t:Int)]) h)
 have HOD:=Lib.hid (fun w'=>qodd_any r w' hr)
 rw[ho] at HOD
 have hl':(l.length:Int)≤30:=by omega
 have hm':(m.length:Int)≤30:=by omega
 have d1:decide ((30:Int) < (l.length:Int))=false:=decide_eq_false (by omega)
 have d2:decide ((30:Int) < (m.length:Int))=false:=decide_eq_false (by omega)
 have d3:(decide ((30:Int) < (l.length:Int))||decide ((30:Int) < (m.length:Int)))=false:=by rw[d1,d2];rfl
 obtain⟨w1,hw1⟩:∃w1,w1=w.alloc (.cells (askV r b t).toArray 35):=⟨_,rfl⟩
 obtain⟨q1,hb0⟩:=one_box hw1.symm
 obtain⟨V,hV⟩:∃V,V=askV r b t:=⟨_,rfl⟩
 obtain⟨R,hR⟩:∃R,R=reqV r:=⟨_,rfl⟩
 rw[←hV] at HRG q1 hw1 ⊢
 rw[←hR] at hzR HOD HRG
 have I:LessI w V l m A B c d w1:=⟨q1,hsl.later (Nat.le_refl _) hb0,hsm.later (Nat.le_refl _) hb0,hE0.next hb0,hb0⟩
 have HW:=Lib.hid hw1
 clear hw1 hsl hsm hV hR hE0 hb0 ho hl hm
 go_enter Tryz.func5,Tryz.ntmps5
 go_wp2_with (first
  | (go_at_call 6;rw[←HW.out];refine (hal.out _ I.env).mono ?_;rintro e w2 ⟨rfl,hq⟩;have I:=I.later hq;have q1:=I.ask;clear hq)
  | ((with_reducible refine wpList_step fun K hK=>?_);refine step_load_mid (some 27) rfl (by rfl) 33 (.tmp 26) rfl w.heap.size 0 rfl R _ (HRG.out _ _ q1) Tryz.underlying33 rfl hzR.out ?_;refine hK _ _ ?_;clear hK)
  | (go_at_call 8;refine (HOD.out _).mono ?_;rintro e w4 ⟨rfl,hq⟩;have I:=I.later hq;have q1:=I.ask;clear hq))
 go_ret
 exact⟨rfl,I.bel⟩
set_option maxHeartbeats 16000000 in
theorem gless_main (l m:List (List UInt8)) (A B:Option Addr) (c d:Nat) (r:Req) (b t:Nat) (w:World) (hsl:Sl w A c (strsV l)) (hsm:Sl w B d (strsV m)) (hle:∀s∈l,s.length≤140737488351232) (hme:∀s∈m,s.length≤140737488351232) (hr:ReqArg r) (hbb:b < 2^64) (htt:t < 2^64) (hE0:EnvG w) (hl:l.length≤30) (hm:m.length≤30) (ho:oddQ r=0) (ho1:r.op.length≤1000) (ho2:r.path.length≤1000) :
  Calls Tryz.prog 5 #[.slice A l.length c,.slice B m.length d,.agg (askV r b t).toArray] w fun e w'=>e=.returned (.bool true)∧Below w.heap.size w w':=by
 have hal:=Lib.hid (fun w' hE=>galive_any w' hE)
 have hzA:=Lib.hid (show (Tryz.prog.info? 35).map (·.size)=some (askV r b t).length by rw[length_askV r hr.src];exact size_ask)
 have hzR:=Lib.hid (show (Tryz.prog.info? 33).map (·.size)=some (reqV r).length by rw[length_reqV r hr.src];exact size_req)
 have hzQ2:=Lib.hid (show (Tryz.prog.info? 33).map (·.size)=some (reqV (askR r b)).length by rw[length_reqV (askR r b) hr.src];exact size_req)
 have hzQ3:=Lib.hid (show (Tryz.prog.info? 33).map (·.size)=some (reqV (askR r b)).toArray.size by rw[List.size_toArray,length_reqV (askR r b) hr.src];exact size_req)
 have h20:=Lib.hid (show 20=(reqV (askR r b)).toArray.size by rw[List.size_toArray,length_reqV (askR r b) hr.src])
 have hQ1:=Lib.hid (reqV_one (askR r b))
 have hok:=askR_ok r b hr hbb ho1 ho2
 have HOK:=Lib.hid hok
 have HRG:=Lib.hid (show ∀(W:World) g,Row W g 35 (askV r b t)→W.rangeAt g 0 (reqV r) from fun W g h=>range_of_row (A:=[]) (B:=reqV r) (C:=[.int .u64 (b:Int),.int .u64 (t:Int)]) h)
 have HCE:=Lib.hid (show ∀(W:World) g,Row W g 35 (askV r b t)→W.cell? ⟨g,21,none⟩=some (.int .u64 (t:Int)) from fun W g h=>by
  rw[h.cell];unfold askV
  rw[List.getElem?_append_right (by rw[length_reqV r hr.src];omega),length_reqV r hr.src];rfl)
 have HCB:=Lib.hid (show ∀(W:World) g,Row W g 35 (askV r b t)→W.cell? ⟨g,20,none⟩=some (.int .u64 (b:Int)) from fun W g h=>by
  rw[h.cell];unfold askV
  rw[List.getElem?_append_right (by rw[length_reqV r hr.src];omega),length_reqV r hr.src];rfl)
 have HOD:=Lib.hid (fun w'=>qodd_any r w' hr)
 have HRQ:=Lib.hid (fun w'=>qreq_any r b t hbb w' hr)
 rw[ho] at HOD
 have hl':(l.length:Int)≤30:=by omega
 have hm':(m.length:Int)≤30:=by omega
 have d1:decide ((30:Int) < (l.length:Int))=false:=decide_eq_false (by omega)
 have d2:decide ((30:Int) < (m.length:Int))=false:=decide_eq_false (by omega)
 have d3:(decide ((30:Int) < (l.length:Int))||decide ((30:Int) < (m.length:Int)))=false:=by rw[d1,d2];rfl
 obtain⟨w1,hw1⟩:∃w1,w1=w.alloc (.cells (askV r b t).toArray 35):=⟨_,rfl⟩
 obtain⟨q1,hb0⟩:=one_box hw1.symm
 obtain⟨V,hV⟩:∃V,V=askV r b t:=⟨_,rfl⟩
 obtain⟨R,hR⟩:∃R,R=reqV r:=⟨_,rfl⟩
 obtain⟨Q2,hQ2⟩:∃Q2,Q2=reqV (askR r b):=⟨_,rfl⟩
 rw[←hV] at hzA HRG HCE HCB HRQ q1 hw1 ⊢
 rw[←hR] at hzR HOD HRG
 rw[←hQ2] at hzQ2 hzQ3 h20 hQ1 HRQ
 have I:LessI w V l m A B c d w1:=⟨q1,hsl.later (Nat.le_refl _) hb0,hsm.later (Nat.le_refl _) hb0,hE0.next hb0,hb0⟩
 have HW:=Lib.hid hw1
 have HQ2:=Lib.hid hQ2
 have HLE:=Lib.hid hle
 have HME:=Lib.hid hme
 clear hw1 hsl hsm hV hR hQ2 hle hme hE0 hb0 hok ho hl hm
 go_enter Tryz.func5,Tryz.ntmps5
 go_wp2_with (first
  | (go_at_call 6;rw[←HW.out];refine (hal.out _ I.env).mono ?_;rintro e w2 ⟨rfl,hq⟩;have I:=I.later hq;have q1:=I.ask;clear hq)
  | ((with_reducible refine wpList_step fun K hK=>?_);refine step_load_mid (some 27) rfl (by rfl) 33 (.tmp 26) rfl w.heap.size 0 rfl R _ (HRG.out _ _ q1) Tryz.underlying33 rfl hzR.out ?_;refine hK _ _ ?_;clear hK)
  | (go_at_call 8;refine (HOD.out _).mono ?_;rintro e w4 ⟨rfl,hq⟩;have I:=I.later hq;have q1:=I.ask;clear hq)
  | ((with_reducible refine wpList_step fun K hK=>?_);refine step_load_mid (some 31) rfl (by rfl) 35 (.tmp 5) rfl w.heap.size 0 rfl V _ (row_range q1) Tryz.underlying35 rfl hzA.out ?_;refine hK _ _ ?_;clear hK)
  | (go_at_call 9;refine (HRQ.out _).mono ?_;rintro e w5 ⟨rfl,hq⟩;have I:=I.later hq;have q1:=I.ask;clear hq)
  | (have _t:=w5;refine wpList_store_row rfl 33 (.tmp 7) (.tmp 32) rfl w5.heap.size Q2.toArray rfl rfl 33 _ (heap_alloc_new w5 _) hzQ3.out h20.out hQ1.out ?_;refine Hid.out ?_))
 refine Lib.hid ?_
 generalize hww:World.setRow _ _ _=w6
 obtain⟨x1,hq⟩:=row_new_set (xs:=Q2) hww
 have I:=I.later hq
 clear hq hww q1
 generalize w5.heap.size=g7 at *
 obtain⟨i0,hi,hz0,hz1,hz2⟩:=info_parts infoStr
 have hbq:=below_nil18 w6
 have hownq:=own_nil18 w6
 have n1:0+l.length≤maxLen:=by unfold maxLen;omega
 have n2:(0+l.length)*16≤140737488355328:=by omega
 have m1:l.length+m.length≤maxLen:=by unfold maxLen;omega
 have m2:(l.length+m.length)*16≤140737488355328:=by omega
 obtain⟨zs,hzs⟩:∃zs,zs=l++m:=⟨_,rfl⟩
 have HZ:=Lib.hid hzs
 have hzl:zs.length≤60:=by rw[hzs,List.length_append];omega
 clear hzs
 have HZE:=Lib.hid (show ∀s∈zs,s.length≤140737488351232 from fun s hs=>by
  rw[HZ.out] at hs
  rcases List.mem_append.1 hs with hs | hs
  ·exact HLE.out s hs
  ·exact HME.out s hs)
 have sl:=I.sl
 have sm:=I.sm
 go_wp2_with (first
  | (at_builtin;refine wpList_append_sl rfl (.tmp 33) (.tmp 34) 23 rfl w6.heap.size 9 i0 _ 16 Tryz.underlying23 hi hz0 hz1 hz2 rfl _ 0 (strsV []) rfl hownq A l.length c (strsV l) rfl (length_strsV l).symm (sl.later (Nat.le_refl _) hbq) (strsV_one _) n1 n2 hbq.size ?_;intro v7 w7 own7 hg7;have hb7:=hbq.grown hg7 hbq.size (fun j hj=>(hownq.lt j hj).1);rw[show strsV []++strsV l=strsV l from rfl,Nat.zero_add] at own7)
  | (at_builtin;refine wpList_append_sl rfl (.tmp 35) (.tmp 36) 23 rfl w6.heap.size 9 i0 _ 16 Tryz.underlying23 hi hz0 hz1 hz2 rfl _ l.length (strsV l) rfl own7 B m.length d (strsV m) rfl (length_strsV m).symm (sm.later (Nat.le_refl _) hb7) (strsV_one _) m1 m2 hb7.size ?_;intro v8 w8 own8 hg8;have hb8:=hb7.grown hg8 hb7.size (fun j hj=>(own7.lt j hj).1);rw[←strsV_append,←List.length_append,←HZ.out] at own8;obtain⟨A8,c8,rfl,hpl,sz⟩:=Sl.of_own own8;clear hpl;have x1:=x1.later hb8 x1.lt;have I:=I.later hb8;clear hg7 hg8 own7 own8 hb7 hb8))
 clear sl sm hbq hownq n1 n2 m1 m2
 go_loopw [39] (fun i wr=>∃k:Nat,k≤zs.length∧i=.int .i64 k∧(∀j < k,(zs.getD j []).length≤1000)∧Row wr g7 33 Q2∧Sl wr A8 c8 (strsV zs)∧LessI w V l m A B c d wr) (fun i _=>zs.length - (intOf i).toNat)
 case atStart=>exact⟨0,Nat.zero_le _,rfl,fun j hj=>by omega,x1,sz,I⟩
 case round =>
  clear I x1 sz
  obtain⟨k,hk,rfl,hz,x1,sz,I⟩:=hrel
  by_cases hlt:k < zs.length
  ·have hlt':(k:Int) < (zs.length:Int):=by omega
   obtain⟨b1,o1,rfl,-,-⟩:=sz.rd.get (i:=k) (by rw[length_strsV];exact hlt)
   have hix:=index_strs (some ⟨b1,o1,none⟩) b1 o1 zs.length c8 k rfl hlt
   have hce:=strs_cell sz k hlt
   have hz2:=size_bstr (zs.getD k [])
   have hmx:(zs.getD k []).length≤140737488351232:=HZE.out (zs.getD k []) (by rw[List.getD_eq_getElem?_getD,List.getElem?_eq_getElem hlt];exact List.getElem_mem hlt)
   by_cases hg:1000 < (zs.getD k []).length
   ·have hg':(1000:Int) < ((zs.getD k []).length:Int):=by omega
    have hbe:=I.bel
    generalize (zs.getD k []).length=n at *
    generalize bstr (zs.getD k [])=S at *
    clear hz hg I
    go_wp2
    go_ret
    exact⟨rfl,hbe⟩
   ·have hg':((zs.getD k []).length:Int)≤1000:=by omega
    have HK2:=Lib.hid (show ∀j < k+1,(zs.getD j []).length≤1000 from fun j hj=>by
     by_cases e:j=k
     ·rw[e];omega
     ·exact hz j (by omega))
    have hpa:=fun w' h=>gparse_any (zs.getD k []) (by omega) w' h
    unfold GavePrd at hpa
    have hho:=fun w' h=>gtext_any (zs.getD k []) (by omega) (askR r b) t w' HOK.out htt h
    rw[←HQ2.out] at hho
    have HNT:=Lib.hid (holdsT_no (zs.getD k []) (askR r b) t)
    generalize holdsT (zs.getD k []) (askR r b) t=hv at *
    generalize hx:(parseP (zs.getD k [])).getD zeroP=x at *
    obtain⟨ok,hok⟩:∃ok,ok=(parseP (zs.getD k [])).isSome:=⟨_,rfl⟩
    have HOV:=Lib.hid (show ok=false→hv=false from fun h=>HNT.out (by
     cases hp:parseP (zs.getD k []) with
     | none=>rfl
     | some y=>rw[hok,hp] at h;cases h))
    rw[←hok] at hpa
    have hpa:=Lib.hid hpa
    have hho:=Lib.hid hho
    generalize (zs.getD k []).length=n at *
    generalize bstr (zs.getD k [])=S at *
    clear hz hg hx hok HNT hmx
    have tk:True:=trivial
    cases ok
    ·have HV0:=Lib.hid (HOV.out rfl)
     clear HOV
     go_wp2_with (first
      | (go_at_call 21;refine (hpa.out _ I.env).mono ?_;rintro e w9 ⟨A9,c9,rfl,ax,hq⟩;have hl9:=length_prdV x ax.ok.net.a A9 c9;have hzX2:=Lib.hid (show (Tryz.prog.info? 31).map (·.size)=some (prdV x A9 c9).toArray.size by rw[List.size_toArray,hl9];exact size_prd);have h23:=Lib.hid (show 23=(prdV x A9 c9).toArray.size by rw[List.size_toArray,hl9]);have hX1:=Lib.hid (prdV_one x A9 c9);have I:=I.later hq;have x1:=x1.later hq x1.lt;have sz:=sz.later (Nat.le_refl _) hq;clear hq hl9)
      | (have _t:=tk;refine wpList_store_row rfl 31 (.tmp 10) (.tmp 49) rfl w9.heap.size (prdV x A9 c9).toArray rfl rfl 31 _ (heap_alloc_new w9 _) hzX2.out h23.out hX1.out ?_;refine Hid.out ?_))
     refine Lib.hid ?_
     generalize hww:World.setRow _ _ _=w10
     obtain⟨-,hq⟩:=row_new_set (xs:=prdV x A9 c9) hww
     have I:=I.later hq
     have x1:=x1.later hq x1.lt
     have sz:=sz.later (Nat.le_refl _) hq
     have hcl:=HCE.out _ _ I.ask
     clear hww hq ax
     generalize w9.heap.size=g10 at *
     obtain rfl:=HV0.out
     go_wp2_with (first
      | ((with_reducible refine wpList_step fun K hK=>?_);refine step_load_mid (some 55) rfl (by rfl) 33 (.tmp 7) rfl g7 0 rfl Q2 _ (row_range x1) Tryz.underlying33 rfl hzQ2.out ?_;refine hK _ _ ?_;clear hK)
      | (go_at_call 10;refine (hho.out _ I.env).mono ?_;rintro e w11 ⟨rfl,hq⟩;have I:=I.later hq;have x1:=x1.later hq x1.lt;have sz:=sz.later (Nat.le_refl _) hq;clear hq hcl))
     go_roundw
     case rel=>exact⟨k+1,by omega,by go_num,HK2.out,x1,sz,I⟩
     case measure=>simp[intOf];omega
    ·clear HOV
     go_wp2_with (first
      | (go_at_call 21;refine (hpa.out _ I.env).mono ?_;rintro e w9 ⟨A9,c9,rfl,ax,hq⟩;have hl9:=length_prdV x ax.ok.net.a A9 c9;have hzX2:=Lib.hid (show (Tryz.prog.info? 31).map (·.size)=some (prdV x A9 c9).toArray.size by rw[List.size_toArray,hl9];exact size_prd);have h23:=Lib.hid (show 23=(prdV x A9 c9).toArray.size by rw[List.size_toArray,hl9]);have hX1:=Lib.hid (prdV_one x A9 c9);have I:=I.later hq;have x1:=x1.later hq x1.lt;have sz:=sz.later (Nat.le_refl _) hq;clear hq hl9)
      | (have _t:=tk;refine wpList_store_row rfl 31 (.tmp 10) (.tmp 49) rfl w9.heap.size (prdV x A9 c9).toArray rfl rfl 31 _ (heap_alloc_new w9 _) hzX2.out h23.out hX1.out ?_;refine Hid.out ?_))
     refine Lib.hid ?_
     generalize hww:World.setRow _ _ _=w10
     obtain⟨-,hq⟩:=row_new_set (xs:=prdV x A9 c9) hww
     have I:=I.later hq
     have x1:=x1.later hq x1.lt
     have sz:=sz.later (Nat.le_refl _) hq
     have hcl:=HCE.out _ _ I.ask
     clear hww hq ax
     generalize w9.heap.size=g10 at *
     clear hcl
     go_wp2
     go_roundw
     case rel=>exact⟨k+1,by omega,by go_num,HK2.out,x1,sz,I⟩
     case measure=>simp[intOf];omega
  ·obtain rfl:k=zs.length:=by omega
   have hall:∀s∈zs,s.length≤1000:=by
    intro s hs
    obtain⟨i,hi,rfl⟩:=List.mem_iff_getElem.1 hs
    have:=hz i hi
    rw[List.getD_eq_getElem?_getD,List.getElem?_eq_getElem hi] at this
    exact this
   have hal1:∀s∈l,s.length≤1000:=fun s hs=>hall s (by rw[HZ.out];exact List.mem_append_left _ hs)
   have hal2:∀s∈m,s.length≤1000:=fun s hs=>hall s (by rw[HZ.out];exact List.mem_append_right _ hs)
   have HGZ:=Lib.hid (fun w' A' c' h e=>gall_any zs hall (by omega) A' c' (askR r b) t w' h HOK.out htt e)
   have HGL:=Lib.hid (fun w' h e=>gall_any l hal1 (by omega) A c (askR r b) t w' h HOK.out htt e)
   have HGM:=Lib.hid (fun w' h e=>gall_any m hal2 (by omega) B d (askR r b) t w' h HOK.out htt e)
   have HGN:=Lib.hid (fun w' e=>gall_any [] (fun _ h=>by cases h) (by show (0:Nat)≤100;omega) none 0 (askR r b) t w' (sl_none16 w') HOK.out htt e)
   have HVZ:=Lib.hid (show holdsA zs (askR r b) t=(holdsA l (askR r b) t&&holdsA m (askR r b) t) by rw[HZ.out];exact holdsA_append l m _ t)
   rw[show holdsA [] (askR r b) t=true from rfl] at HGN
   have HA1:=Lib.hid (fun W=>before_at W b hbb)
   have HA2:=Lib.hid (fun W=>since_at W b hbb)
   have HGP:=Lib.hid (fun w' e=>gholds_any ⟨1,b,[],[],zeroR,0⟩ none 0 (askR r b) t w' (HA1.out w') HOK.out htt e)
   have HGQ:=Lib.hid (fun w' e=>gholds_any ⟨2,b,[],[],zeroR,0⟩ none 0 (askR r b) t w' (HA2.out w') HOK.out htt e)
   have HBS:=Lib.hid (before_since b hbb (askR r b) t)
   rw[←HQ2.out] at HGZ HGL HGM HGN HGP HGQ
   have HCL:=Lib.hid (fun w' (h:Below wr.heap.size wr w')=>HCE.out w' _ (I.later h).ask)
   generalize holdsA zs (askR r b) t=vz at *
   generalize holdsA l (askR r b) t=v1 at *
   generalize holdsA m (askR r b) t=v2 at *
   generalize holdsL ⟨1,b,[],[],zeroR,0⟩ (askR r b) t=x2 at *
   generalize holdsL ⟨2,b,[],[],zeroR,0⟩ (askR r b) t=x3 at *
   clear hz hall hal1 hal2 HZE
   have ssl:=I.sl
   have ssm:=I.sm
   go_upto_region 15 with fail
   go_cut [12] (fun y wx=>y=.bool vz∧Row wx g7 33 Q2∧LessI w V l m A B c d wx)
   case first =>
    obtain⟨i0,hi,hz0,hz1,hz2⟩:=info_parts infoStr
    have n1:0+l.length≤maxLen:=by unfold maxLen;omega
    have n2:(0+l.length)*16≤140737488355328:=by omega
    have m1:l.length+m.length≤maxLen:=by unfold maxLen;omega
    have m2:(l.length+m.length)*16≤140737488355328:=by omega
    refine wp_region_noPanic ?_
    refine wp_region_held_drew (S:=fun w'=>Below wr.heap.size wr w') (by kernel_rfl) ((Below.refl _ _).drew) (fun hHeld=>?_)
    have hB:=hHeld
    refine rtake 1 _ (some 62) _ rfl rfl (by kernel_rfl) (by kernel_rfl) (by kernel_rfl) (fun _ _ _ h=>h) (by rfl) hHeld (by intro w hS;go_simp;try with_reducible rfl) ?_
    try (first | (rw[put_some];dsimp only[List.set]) | rw[put_none])
    refine rtake 3 _ (some 64) _ rfl rfl (by kernel_rfl) (by kernel_rfl) (by kernel_rfl) (fun _ _ _ h=>h) (by rfl) hHeld (by intro w hS;go_simp;try with_reducible rfl) ?_
    try (first | (rw[put_some];dsimp only[List.set]) | rw[put_none])
    refine rtake 5 _ (some 66) _ rfl rfl (by kernel_rfl) (by kernel_rfl) (by kernel_rfl) (fun _ _ _ h=>h) (by rfl) hHeld (by intro w hS;exact run_load_op 33 (.tmp 7) rfl _ 0 rfl Q2 _ (row_range (x1.later hS x1.lt)) Tryz.underlying33 rfl hzQ2.out) ?_
    try (first | (rw[put_some];dsimp only[List.set]) | rw[put_none])
    refine rtake 6 _ (some 67) _ rfl rfl (by kernel_rfl) (by kernel_rfl) (by kernel_rfl) (fun _ _ _ h=>h) (by rfl) hHeld (by intro w hS;go_simp;try with_reducible rfl) ?_
    try (first | (rw[put_some];dsimp only[List.set]) | rw[put_none])
    refine rtake 7 _ (some 68) _ rfl rfl (by kernel_rfl) (by kernel_rfl) (by kernel_rfl) (fun _ _ _ h=>h) (by rfl) hHeld (by intro w hS;have hc:=HCL.out w hS;go_simp;try with_reducible rfl) ?_
    try (first | (rw[put_some];dsimp only[List.set]) | rw[put_none])
    refine wpAnyH_ready (rs:=[0]) (by kernel_rfl) (by simp) (AllReadyH.cons (o:=_) rfl (fun K hK=>?_) AllReadyH.nil)
    refine step_zero18 (some 61) rfl (by rfl) rfl ?_;intro wwr0 own0 hqwr0
    refine hK.out _ _ (hHeld.trans (hqwr0.mono hHeld.size)) (fun hHeld'=>?_)
    clear hK K
    try (first | (rw[put_some];dsimp only[List.set]) | rw[put_none])
    have hB:=below_step hB hqwr0
    have hB0:Below wwr0.heap.size wwr0 wwr0:=Below.refl _ _
    clear hHeld
    have hHeld:=hHeld'
    refine wpAnyH_ready (rs:=[2]) (by kernel_rfl) (by simp) (AllReadyH.cons (o:=_) rfl (fun K hK=>?_) AllReadyH.nil)
    refine step_append_k (some 63) rfl (by rfl) (.tmp 61) (.tmp 62) 23 rfl wr.heap.size 9 i0 _ 1 16 Tryz.underlying23 hi hz0 hz1 (by omega) hz2 rfl _ 0 (strsV []) rfl own0 A l.length c (strsV l) rfl (by rw[length_strsV,Nat.mul_one]) (by rw[Nat.mul_one];exact ssl.later (Nat.le_refl _) hB) (strsV_one _) n1 n2 hB.size ?_;intro v2' wwr2 own2 hg2;have hqwr2:=(Below.refl wr.heap.size _).grown hg2 hB.size (fun j hj=>(own0.lt j hj).1);rw[show strsV []++strsV l=strsV l from rfl,Nat.zero_add] at own2
    refine hK.out _ _ (hHeld.trans hqwr2) (fun hHeld'=>?_)
    clear hK K
    try (first | (rw[put_some];dsimp only[List.set]) | rw[put_none])
    have hB:=hB.trans hqwr2
    clear hB0
    have hB2:Below wwr2.heap.size wwr2 wwr2:=Below.refl _ _
    clear hHeld
    have hHeld:=hHeld'
    refine wpAnyH_ready (rs:=[4]) (by kernel_rfl) (by simp) (AllReadyH.cons (o:=_) rfl (fun K hK=>?_) AllReadyH.nil)
    refine step_append_k (some 65) rfl (by rfl) (.tmp 63) (.tmp 64) 23 rfl wr.heap.size 9 i0 _ 1 16 Tryz.underlying23 hi hz0 hz1 (by omega) hz2 rfl _ l.length (strsV l) rfl own2 B m.length d (strsV m) rfl (by rw[length_strsV,Nat.mul_one]) (by rw[Nat.mul_one];exact ssm.later (Nat.le_refl _) hB) (strsV_one _) m1 m2 hB.size ?_;intro v4' wwr4 own4 hg4;have hqwr4:=(Below.refl wr.heap.size _).grown hg4 hB.size (fun j hj=>(own2.lt j hj).1);rw[←strsV_append,←List.length_append,←HZ.out] at own4;obtain⟨A4,c4,rfl,-,sz4⟩:=Sl.of_own own4
    refine hK.out _ _ (hHeld.trans hqwr4) (fun hHeld'=>?_)
    clear hK K
    try (first | (rw[put_some];dsimp only[List.set]) | rw[put_none])
    have hB:=hB.trans hqwr4
    clear hB2
    have hB4:Below wwr4.heap.size wwr4 wwr4:=Below.refl _ _
    refine wpAnyH_narrow (S':=fun w'=>Below wwr4.heap.size wwr4 w') (fun _ h=>(hHeld.trans hqwr4).trans (h.mono (hHeld.trans hqwr4).size)) _ _ _ _ ?_
    clear hHeld
    have hHeld:Below wwr4.heap.size wwr4 wwr4:=Below.refl _ _
    refine wpAnyH_ready (rs:=[8]) (by kernel_rfl) (by simp) (AllReadyH.cons (o:=_) rfl (fun K hK=>?_) AllReadyH.nil)
    go_simp
    refine (HGZ.out _ _ _ sz4 (I.later hB).env).mono ?_;rintro e wwr8 ⟨rfl,hqwr8⟩
    try go_wp2_with fail
    refine hK.out _ _ (hHeld.trans (hqwr8.mono hHeld.size)) (fun hHeld'=>?_)
    clear hK K
    try (first | (rw[put_some];dsimp only[List.set]) | rw[put_none])
    have hB:=below_step hB hqwr8
    have hB4:=below_step hB4 hqwr8
    have hB8:Below wwr8.heap.size wwr8 wwr8:=Below.refl _ _
    refine wpAnyH_narrow (S':=fun w'=>Below wwr8.heap.size wwr8 w') (fun _ h=>(hHeld.trans (hqwr8.mono hHeld.size)).trans (h.mono (hHeld.trans (hqwr8.mono hHeld.size)).size)) _ _ _ _ ?_
    clear hHeld
    have hHeld:Below wwr8.heap.size wwr8 wwr8:=Below.refl _ _
    refine rtake 9 _ (some 12) _ rfl rfl (by kernel_rfl) (by kernel_rfl) (by kernel_rfl) (fun _ _ _ h=>h) (by rfl) hHeld (by intro w hS;go_simp;try with_reducible rfl) ?_
    try (first | (rw[put_some];dsimp only[List.set]) | rw[put_none])
    refine wpAnyH_done (by kernel_rfl) ?_ _
    refine NoPanic.normal ?_
    go_wp2_with fail
    go_meet
    case rel=>exact⟨rfl,x1.later hB x1.lt,I.later hB⟩
   case rest =>
    obtain⟨rfl,x1,I⟩:=hcut
    have HCC:=Lib.hid (fun w' (h:Below wc.heap.size wc w')=>HCB.out w' _ (I.later h).ask)
    obtain⟨P1,hP1⟩:∃P,P=prdV ⟨1,b,[],[],zeroR,0⟩ none 0:=⟨_,rfl⟩
    obtain⟨P2,hP2⟩:∃P,P=prdV ⟨2,b,[],[],zeroR,0⟩ none 0:=⟨_,rfl⟩
    have hB1:=Lib.hid (show ∀w',(Instr.build 31 #[(0,.int .i64 1),(1,.int .u64 (b:Int))]).run Tryz.prog w'=.ok (.agg P1.toArray) w' from fun w'=>by rw[hP1];exact build_1 b 1 w')
    have hB2:=Lib.hid (show ∀w',(Instr.build 31 #[(0,.int .i64 2),(1,.int .u64 (b:Int))]).run Tryz.prog w'=.ok (.agg P2.toArray) w' from fun w'=>by rw[hP2];exact build_1 b 2 w')
    have hl1:=Lib.hid (show P1.length=23 by rw[hP1];exact length_prdV _ zeroA_ok _ _)
    have hl2:=Lib.hid (show P2.length=23 by rw[hP2];exact length_prdV _ zeroA_ok _ _)
    have ho1:=Lib.hid (show ∀u∈P1,u.oneCell'=true by have:=prdV_one ⟨1,b,[],[],zeroR,0⟩ none 0;rw[←hP1,List.all_toArray] at this;exact fun u hu=>List.all_eq_true.1 this u hu)
    have ho2:=Lib.hid (show ∀u∈P2,u.oneCell'=true by have:=prdV_one ⟨2,b,[],[],zeroR,0⟩ none 0;rw[←hP2,List.all_toArray] at this;exact fun u hu=>List.all_eq_true.1 this u hu)
    rw[←hP1] at HGP
    rw[←hP2] at HGQ
    clear hP1 hP2 HGZ HCL ssl ssm
    go_upto_region 16 with fail
    go_cut [13,14] (fun y z wx=>∃g h,y=.pointer (some ⟨g,0,none⟩)∧z=.pointer (some ⟨h,0,none⟩)∧Row wx g 31 P1∧Row wx h 31 P2∧Row wx g7 33 Q2∧LessI w V l m A B c d wx)
    case first =>
     refine wp_region_noPanic ?_
     refine wp_region_held_drew (S:=fun w'=>Below wc.heap.size wc w') (by kernel_rfl) ((Below.refl _ _).drew) (fun hHeld=>?_)
     have hB:=hHeld
     refine rtake 0 _ (some 70) _ rfl rfl (by kernel_rfl) (by kernel_rfl) (by kernel_rfl) (fun _ _ _ h=>h) (by rfl) hHeld (by intro w hS;go_simp;try with_reducible rfl) ?_
     try (first | (rw[put_some];dsimp only[List.set]) | rw[put_none])
     refine rtake 1 _ (some 71) _ rfl rfl (by kernel_rfl) (by kernel_rfl) (by kernel_rfl) (fun _ _ _ h=>h) (by rfl) hHeld (by intro w hS;have hc:=HCC.out w hS;go_simp;try with_reducible rfl) ?_
     try (first | (rw[put_some];dsimp only[List.set]) | rw[put_none])
     refine rtake 2 _ (some 72) _ rfl rfl (by kernel_rfl) (by kernel_rfl) (by kernel_rfl) (fun _ _ _ h=>h) (by rfl) hHeld (by intro w hS;exact run_build_op2 31 0 1 _ (.tmp 71) rfl (.int .i64 1) (.int .u64 (b:Int)) (.agg P1.toArray) rfl rfl (hB1.out _)) ?_
     try (first | (rw[put_some];dsimp only[List.set]) | rw[put_none])
     refine rtake 3 _ (some 73) _ rfl rfl (by kernel_rfl) (by kernel_rfl) (by kernel_rfl) (fun _ _ _ h=>h) (by rfl) hHeld (by intro w hS;go_simp;try with_reducible rfl) ?_
     try (first | (rw[put_some];dsimp only[List.set]) | rw[put_none])
     refine rtake 4 _ (some 74) _ rfl rfl (by kernel_rfl) (by kernel_rfl) (by kernel_rfl) (fun _ _ _ h=>h) (by rfl) hHeld (by intro w hS;have hc:=HCC.out w hS;go_simp;try with_reducible rfl) ?_
     try (first | (rw[put_some];dsimp only[List.set]) | rw[put_none])
     refine rtake 5 _ (some 75) _ rfl rfl (by kernel_rfl) (by kernel_rfl) (by kernel_rfl) (fun _ _ _ h=>h) (by rfl) hHeld (by intro w hS;exact run_build_op2 31 0 1 _ (.tmp 74) rfl (.int .i64 2) (.int .u64 (b:Int)) (.agg P2.toArray) rfl rfl (hB2.out _)) ?_
     try (first | (rw[put_some];dsimp only[List.set]) | rw[put_none])
     refine wpAnyH_ready (rs:=[6,7]) (by kernel_rfl) (by simp) (AllReadyH.cons (o:=_) rfl (fun K hK=>?_) (AllReadyH.cons (o:=_) rfl (fun K hK=>?_) AllReadyH.nil))
     ·refine step_alloc (some 13) rfl (by rfl) (.pointer (some ⟨wc.heap.size,0,none⟩)) (.cells (prdV zeroP none 0).toArray 31) (by rw[prd_zero];go_simp;try rfl) ?_;intro wwc6 hw hqwc6;have r6:Row wwc6 wc.heap.size 31 (prdV zeroP none 0):=(by rw[hw];exact Row.new _ _ _);have hG6:=Lib.hid hB.size;have h6e:wc.heap.size < wwc6.heap.size:=r6.lt;clear hw
      refine hK.out _ _ (hHeld.trans (hqwc6.mono hHeld.size)) (fun hHeld'=>?_)
      clear hK K
      try (first | (rw[put_some];dsimp only[List.set]) | rw[put_none])
      have hB:=below_step hB hqwc6
      have hB6:Below wwc6.heap.size wwc6 wwc6:=Below.refl _ _
      clear hHeld
      have hHeld:=hHeld'
      refine wpAnyH_ready (rs:=[7]) (by kernel_rfl) (by simp) (AllReadyH.cons (o:=_) rfl (fun K hK=>?_) AllReadyH.nil)
      refine step_alloc (some 14) rfl (by rfl) (.pointer (some ⟨wwc6.heap.size,0,none⟩)) (.cells (prdV zeroP none 0).toArray 31) (by rw[prd_zero];go_simp;try rfl) ?_;intro wwc7 hw hqwc7;have r7:Row wwc7 wwc6.heap.size 31 (prdV zeroP none 0):=(by rw[hw];exact Row.new _ _ _);have hG7:=Lib.hid hB.size;have h7e:wwc6.heap.size < wwc7.heap.size:=r7.lt;clear hw
      refine hK.out _ _ (hHeld.trans (hqwc7.mono hHeld.size)) (fun hHeld'=>?_)
      clear hK K
      try (first | (rw[put_some];dsimp only[List.set]) | rw[put_none])
      have hB:=below_step hB hqwc7
      have hB6:=below_step hB6 hqwc7
      have hB7:Below wwc7.heap.size wwc7 wwc7:=Below.refl _ _
      clear hHeld
      have hHeld:=hHeld'
      refine wpAnyH_ready (rs:=[8]) (by kernel_rfl) (by simp) (AllReadyH.cons (o:=_) rfl (fun K hK=>?_) AllReadyH.nil)
      refine step_store_row none rfl (by rfl) 31 (.tmp 13) (.tmp 72) rfl _ 0 31 _ P1 rfl rfl (r6.later hB6 r6.lt) (by rw[length_prdV zeroP zeroA_ok,hl1.out];exact Nat.le_refl _) (by rw[hl1.out];exact size_prd) ho1.out ?_;intro wwc8 r8 hg8;have hqwc8:=(Below.refl wc.heap.size _).grown hg8 hB.size (fun k h=>by cases h;exact hG6.out);have r8:=row_all (length_prdV zeroP zeroA_ok _ _) hl1.out r8;have r7:=(r7.later hB7 r7.lt).grown hg8 (by first | exact (Nat.ne_of_lt h6e).symm | exact Nat.ne_of_lt h7e)
      refine hK.out _ _ (hHeld.trans hqwc8) (fun hHeld'=>?_)
      clear hK K
      try (first | (rw[put_some];dsimp only[List.set]) | rw[put_none])
      have hB:=hB.trans hqwc8
      clear hB6 hB7
      have hB8:Below wwc8.heap.size wwc8 wwc8:=Below.refl _ _
      clear hHeld
      have hHeld:=hHeld'
      refine wpAnyH_ready (rs:=[9]) (by kernel_rfl) (by simp) (AllReadyH.cons (o:=_) rfl (fun K hK=>?_) AllReadyH.nil)
      refine step_store_row none rfl (by rfl) 31 (.tmp 14) (.tmp 75) rfl _ 0 31 _ P2 rfl rfl r7 (by rw[length_prdV zeroP zeroA_ok,hl2.out];exact Nat.le_refl _) (by rw[hl2.out];exact size_prd) ho2.out ?_;intro wwc9 r9 hg9;have hqwc9:=(Below.refl wc.heap.size _).grown hg9 hB.size (fun k h=>by cases h;exact hG7.out);have r9:=row_all (length_prdV zeroP zeroA_ok _ _) hl2.out r9;have r8:=r8.grown hg9 (by first | exact Nat.ne_of_lt h6e | exact (Nat.ne_of_lt h7e).symm)
      refine hK.out _ _ (hHeld.trans hqwc9) (fun _=>?_)
      clear hK K
      try (first | (rw[put_some];dsimp only[List.set]) | rw[put_none])
      have hB:=hB.trans hqwc9
      clear hB8
      have hB9:Below wwc9.heap.size wwc9 wwc9:=Below.refl _ _
      refine wpAnyH_narrow (S':=fun w'=>Below wwc9.heap.size wwc9 w') (fun _ h=>(hHeld.trans hqwc9).trans (h.mono (hHeld.trans hqwc9).size)) _ _ _ _ ?_
      clear hHeld
      have hHeld:Below wwc9.heap.size wwc9 wwc9:=Below.refl _ _
      refine wpAnyH_done (by kernel_rfl) ?_ _
      refine NoPanic.normal ?_
      go_wp2_with fail
      go_meet
      case rel=>exact⟨_,_,rfl,rfl,r8,r9,x1.later hB x1.lt,I.later hB⟩
     ·refine step_alloc (some 14) rfl (by rfl) (.pointer (some ⟨wc.heap.size,0,none⟩)) (.cells (prdV zeroP none 0).toArray 31) (by rw[prd_zero];go_simp;try rfl) ?_;intro wwc7 hw hqwc7;have r7:Row wwc7 wc.heap.size 31 (prdV zeroP none 0):=(by rw[hw];exact Row.new _ _ _);have hG7:=Lib.hid hB.size;have h7e:wc.heap.size < wwc7.heap.size:=r7.lt;clear hw
      refine hK.out _ _ (hHeld.trans (hqwc7.mono hHeld.size)) (fun hHeld'=>?_)
      clear hK K
      try (first | (rw[put_some];dsimp only[List.set]) | rw[put_none])
      have hB:=below_step hB hqwc7
      have hB7:Below wwc7.heap.size wwc7 wwc7:=Below.refl _ _
      clear hHeld
      have hHeld:=hHeld'
      refine wpAnyH_ready (rs:=[6]) (by kernel_rfl) (by simp) (AllReadyH.cons (o:=_) rfl (fun K hK=>?_) AllReadyH.nil)
      refine step_alloc (some 13) rfl (by rfl) (.pointer (some ⟨wwc7.heap.size,0,none⟩)) (.cells (prdV zeroP none 0).toArray 31) (by rw[prd_zero];go_simp;try rfl) ?_;intro wwc6 hw hqwc6;have r6:Row wwc6 wwc7.heap.size 31 (prdV zeroP none 0):=(by rw[hw];exact Row.new _ _ _);have hG6:=Lib.hid hB.size;have h6e:wwc7.heap.size < wwc6.heap.size:=r6.lt;clear hw
      refine hK.out _ _ (hHeld.trans (hqwc6.mono hHeld.size)) (fun hHeld'=>?_)
      clear hK K
      try (first | (rw[put_some];dsimp only[List.set]) | rw[put_none])
      have hB:=below_step hB hqwc6
      have hB7:=below_step hB7 hqwc6
      have hB6:Below wwc6.heap.size wwc6 wwc6:=Below.refl _ _
      clear hHeld
      have hHeld:=hHeld'
      refine wpAnyH_ready (rs:=[8]) (by kernel_rfl) (by simp) (AllReadyH.cons (o:=_) rfl (fun K hK=>?_) AllReadyH.nil)
      refine step_store_row none rfl (by rfl) 31 (.tmp 13) (.tmp 72) rfl _ 0 31 _ P1 rfl rfl (r6.later hB6 r6.lt) (by rw[length_prdV zeroP zeroA_ok,hl1.out];exact Nat.le_refl _) (by rw[hl1.out];exact size_prd) ho1.out ?_;intro wwc8 r8 hg8;have hqwc8:=(Below.refl wc.heap.size _).grown hg8 hB.size (fun k h=>by cases h;exact hG6.out);have r8:=row_all (length_prdV zeroP zeroA_ok _ _) hl1.out r8;have r7:=(r7.later hB7 r7.lt).grown hg8 (by first | exact (Nat.ne_of_lt h6e).symm | exact Nat.ne_of_lt h7e)
      refine hK.out _ _ (hHeld.trans hqwc8) (fun hHeld'=>?_)
      clear hK K
      try (first | (rw[put_some];dsimp only[List.set]) | rw[put_none])
      have hB:=hB.trans hqwc8
      clear hB7 hB6
      have hB8:Below wwc8.heap.size wwc8 wwc8:=Below.refl _ _
      clear hHeld
      have hHeld:=hHeld'
      refine wpAnyH_ready (rs:=[9]) (by kernel_rfl) (by simp) (AllReadyH.cons (o:=_) rfl (fun K hK=>?_) AllReadyH.nil)
      refine step_store_row none rfl (by rfl) 31 (.tmp 14) (.tmp 75) rfl _ 0 31 _ P2 rfl rfl r7 (by rw[length_prdV zeroP zeroA_ok,hl2.out];exact Nat.le_refl _) (by rw[hl2.out];exact size_prd) ho2.out ?_;intro wwc9 r9 hg9;have hqwc9:=(Below.refl wc.heap.size _).grown hg9 hB.size (fun k h=>by cases h;exact hG7.out);have r9:=row_all (length_prdV zeroP zeroA_ok _ _) hl2.out r9;have r8:=r8.grown hg9 (by first | exact Nat.ne_of_lt h6e | exact (Nat.ne_of_lt h7e).symm)
      refine hK.out _ _ (hHeld.trans hqwc9) (fun _=>?_)
      clear hK K
      try (first | (rw[put_some];dsimp only[List.set]) | rw[put_none])
      have hB:=hB.trans hqwc9
      clear hB8
      have hB9:Below wwc9.heap.size wwc9 wwc9:=Below.refl _ _
      refine wpAnyH_narrow (S':=fun w'=>Below wwc9.heap.size wwc9 w') (fun _ h=>(hHeld.trans hqwc9).trans (h.mono (hHeld.trans hqwc9).size)) _ _ _ _ ?_
      clear hHeld
      have hHeld:Below wwc9.heap.size wwc9 wwc9:=Below.refl _ _
      refine wpAnyH_done (by kernel_rfl) ?_ _
      refine NoPanic.normal ?_
      go_wp2_with fail
      go_meet
      case rel=>exact⟨_,_,rfl,rfl,r8,r9,x1.later hB x1.lt,I.later hB⟩
    case rest =>
     obtain⟨gp,gq,rfl,rfl,rp,rq,x1,I⟩:=hcut
     have hzP1:=Lib.hid (show (Tryz.prog.info? 31).map (·.size)=some P1.length by rw[hl1.out];exact size_prd)
     have hzP2:=Lib.hid (show (Tryz.prog.info? 31).map (·.size)=some P2.length by rw[hl2.out];exact size_prd)
     have HCL:=Lib.hid (fun w' (h:Below wc.heap.size wc w')=>HCE.out w' _ (I.later h).ask)
     obtain rfl:=HVZ.out
     obtain rfl:=HBS.out
     have e31:((!x3) != x3)=true:=by cases x3<;>rfl
     have e13:((v1&&v2)==(v1&&v2))=true:=by rw[beq_self_eq_true]
     clear HCC hB1 hB2 ho1 ho2 HVZ HBS
     cases v1
     ·skip
      go_upto_region 17 with fail
      refine wp_region_noPanic ?_
      refine wp_region_held_drew (S:=fun w'=>Below wc.heap.size wc w') (by kernel_rfl) ((Below.refl _ _).drew) (fun hHeld=>?_)
      have hB:=hHeld
      refine rtake 0 _ (some 76) _ rfl rfl (by kernel_rfl) (by kernel_rfl) (by kernel_rfl) (fun _ _ _ h=>h) (by rfl) hHeld (by intro w hS;go_simp;try with_reducible rfl) ?_
      try (first | (rw[put_some];dsimp only[List.set]) | rw[put_none])
      refine rtake 1 _ (some 77) _ rfl rfl (by kernel_rfl) (by kernel_rfl) (by kernel_rfl) (fun _ _ _ h=>h) (by rfl) hHeld (by intro w hS;go_simp;try with_reducible rfl) ?_
      try (first | (rw[put_some];dsimp only[List.set]) | rw[put_none])
      refine rtake 2 _ (some 78) _ rfl rfl (by kernel_rfl) (by kernel_rfl) (by kernel_rfl) (fun _ _ _ h=>h) (by rfl) hHeld (by intro w hS;exact run_load_op 33 (.tmp 7) rfl _ 0 rfl Q2 _ (row_range (x1.later hS x1.lt)) Tryz.underlying33 rfl hzQ2.out) ?_
      try (first | (rw[put_some];dsimp only[List.set]) | rw[put_none])
      refine rtake 3 _ (some 79) _ rfl rfl (by kernel_rfl) (by kernel_rfl) (by kernel_rfl) (fun _ _ _ h=>h) (by rfl) hHeld (by intro w hS;go_simp;try with_reducible rfl) ?_
      try (first | (rw[put_some];dsimp only[List.set]) | rw[put_none])
      refine rtake 4 _ (some 80) _ rfl rfl (by kernel_rfl) (by kernel_rfl) (by kernel_rfl) (fun _ _ _ h=>h) (by rfl) hHeld (by intro w hS;have hc:=HCL.out w hS;go_simp;try with_reducible rfl) ?_
      try (first | (rw[put_some];dsimp only[List.set]) | rw[put_none])
      refine wpAnyH_ready (rs:=[5]) (by kernel_rfl) (by simp) (AllReadyH.cons (o:=_) rfl (fun K hK=>?_) AllReadyH.nil)
      go_simp
      refine (HGL.out _ (I.later hB).sl (I.later hB).env).mono ?_;rintro e wwc5 ⟨rfl,hqwc5⟩
      try go_wp2_with fail
      refine hK.out _ _ (hHeld.trans (hqwc5.mono hHeld.size)) (fun hHeld'=>?_)
      clear hK K
      try (first | (rw[put_some];dsimp only[List.set]) | rw[put_none])
      have hB:=below_step hB hqwc5
      have hB5:Below wwc5.heap.size wwc5 wwc5:=Below.refl _ _
      refine wpAnyH_narrow (S':=fun w'=>Below wwc5.heap.size wwc5 w') (fun _ h=>(hHeld.trans (hqwc5.mono hHeld.size)).trans (h.mono (hHeld.trans (hqwc5.mono hHeld.size)).size)) _ _ _ _ ?_
      clear hHeld
      have hHeld:Below wwc5.heap.size wwc5 wwc5:=Below.refl _ _
      refine rtake 6 _ (some 82) _ rfl rfl (by kernel_rfl) (by kernel_rfl) (by kernel_rfl) (fun _ _ _ h=>h) (by rfl) hHeld (by intro w hS;go_simp;try with_reducible rfl) ?_
      try (first | (rw[put_some];dsimp only[List.set]) | rw[put_none])
      refine rskip 7 _ (some 83) rfl rfl (by kernel_rfl) (by kernel_rfl) (by kernel_rfl) (fun _ _ _ h=>h) (by rfl) hHeld ?_
      try (first | (rw[put_some];dsimp only[List.set]) | rw[put_none])
      refine rskip 8 _ (some 84) rfl rfl (by kernel_rfl) (by kernel_rfl) (by kernel_rfl) (fun _ _ _ h=>h) (by rfl) hHeld ?_
      try (first | (rw[put_some];dsimp only[List.set]) | rw[put_none])
      refine rskip 9 _ (some 85) rfl rfl (by kernel_rfl) (by kernel_rfl) (by kernel_rfl) (fun _ _ _ h=>h) (by rfl) hHeld ?_
      try (first | (rw[put_some];dsimp only[List.set]) | rw[put_none])
      refine rskip 10 _ (some 86) rfl rfl (by kernel_rfl) (by kernel_rfl) (by kernel_rfl) (fun _ _ _ h=>h) (by rfl) hHeld ?_
      try (first | (rw[put_some];dsimp only[List.set]) | rw[put_none])
      refine rskip 11 _ (some 87) rfl rfl (by kernel_rfl) (by kernel_rfl) (by kernel_rfl) (fun _ _ _ h=>h) (by rfl) hHeld ?_
      try (first | (rw[put_some];dsimp only[List.set]) | rw[put_none])
      refine rtake 12 _ (some 88) _ rfl rfl (by kernel_rfl) (by kernel_rfl) (by kernel_rfl) (fun _ _ _ h=>h) (by rfl) hHeld (by intro w hS;go_simp;try with_reducible rfl) ?_
      try (first | (rw[put_some];dsimp only[List.set]) | rw[put_none])
      refine rtake 13 _ (some 89) _ rfl rfl (by kernel_rfl) (by kernel_rfl) (by kernel_rfl) (fun _ _ _ h=>h) (by rfl) hHeld (by intro w hS;go_simp;try with_reducible rfl) ?_
      try (first | (rw[put_some];dsimp only[List.set]) | rw[put_none])
      refine rtake 14 _ (some 90) _ rfl rfl (by kernel_rfl) (by kernel_rfl) (by kernel_rfl) (fun _ _ _ h=>h) (by rfl) hHeld (by intro w hS;go_simp;try with_reducible rfl) ?_
      try (first | (rw[put_some];dsimp only[List.set]) | rw[put_none])
      refine rtake 15 _ (some 91) _ rfl rfl (by kernel_rfl) (by kernel_rfl) (by kernel_rfl) (fun _ _ _ h=>h) (by rfl) hHeld (by intro w hS;exact run_load_op 33 (.tmp 7) rfl _ 0 rfl Q2 _ (row_range (x1.later (hB.trans (hS.mono hB.size)) x1.lt)) Tryz.underlying33 rfl hzQ2.out) ?_
      try (first | (rw[put_some];dsimp only[List.set]) | rw[put_none])
      refine rtake 16 _ (some 92) _ rfl rfl (by kernel_rfl) (by kernel_rfl) (by kernel_rfl) (fun _ _ _ h=>h) (by rfl) hHeld (by intro w hS;go_simp;try with_reducible rfl) ?_
      try (first | (rw[put_some];dsimp only[List.set]) | rw[put_none])
      refine rtake 17 _ (some 93) _ rfl rfl (by kernel_rfl) (by kernel_rfl) (by kernel_rfl) (fun _ _ _ h=>h) (by rfl) hHeld (by intro w hS;have hc:=HCL.out w (hB.trans (hS.mono hB.size));go_simp;try with_reducible rfl) ?_
      try (first | (rw[put_some];dsimp only[List.set]) | rw[put_none])
      refine wpAnyH_ready (rs:=[18]) (by kernel_rfl) (by simp) (AllReadyH.cons (o:=_) rfl (fun K hK=>?_) AllReadyH.nil)
      go_simp
      refine (HGN.out _ (I.later hB).env).mono ?_;rintro e wwc18 ⟨rfl,hqwc18⟩
      try go_wp2_with fail
      refine hK.out _ _ (hHeld.trans (hqwc18.mono hHeld.size)) (fun hHeld'=>?_)
      clear hK K
      try (first | (rw[put_some];dsimp only[List.set]) | rw[put_none])
      have hB:=below_step hB hqwc18
      have hB5:=below_step hB5 hqwc18
      have hB18:Below wwc18.heap.size wwc18 wwc18:=Below.refl _ _
      refine wpAnyH_narrow (S':=fun w'=>Below wwc18.heap.size wwc18 w') (fun _ h=>(hHeld.trans (hqwc18.mono hHeld.size)).trans (h.mono (hHeld.trans (hqwc18.mono hHeld.size)).size)) _ _ _ _ ?_
      clear hHeld
      have hHeld:Below wwc18.heap.size wwc18 wwc18:=Below.refl _ _
      refine rtake 19 _ (some 95) _ rfl rfl (by kernel_rfl) (by kernel_rfl) (by kernel_rfl) (fun _ _ _ h=>h) (by rfl) hHeld (by intro w hS;go_simp;try with_reducible rfl) ?_
      try (first | (rw[put_some];dsimp only[List.set]) | rw[put_none])
      refine rtake 20 _ (some 96) _ rfl rfl (by kernel_rfl) (by kernel_rfl) (by kernel_rfl) (fun _ _ _ h=>h) (by rfl) hHeld (by intro w hS;go_simp;try with_reducible rfl) ?_
      try (first | (rw[put_some];dsimp only[List.set]) | rw[put_none])
      refine rtake 21 _ (some 97) _ rfl rfl (by kernel_rfl) (by kernel_rfl) (by kernel_rfl) (fun _ _ _ h=>h) (by rfl) hHeld (by intro w hS;exact run_load_op 31 (.tmp 13) rfl _ 0 rfl P1 _ (row_range (rp.later (hB.trans (hS.mono hB.size)) rp.lt)) Tryz.underlying31 rfl hzP1.out) ?_
      try (first | (rw[put_some];dsimp only[List.set]) | rw[put_none])
      refine rtake 22 _ (some 98) _ rfl rfl (by kernel_rfl) (by kernel_rfl) (by kernel_rfl) (fun _ _ _ h=>h) (by rfl) hHeld (by intro w hS;exact run_load_op 33 (.tmp 7) rfl _ 0 rfl Q2 _ (row_range (x1.later (hB.trans (hS.mono hB.size)) x1.lt)) Tryz.underlying33 rfl hzQ2.out) ?_
      try (first | (rw[put_some];dsimp only[List.set]) | rw[put_none])
      refine rtake 23 _ (some 99) _ rfl rfl (by kernel_rfl) (by kernel_rfl) (by kernel_rfl) (fun _ _ _ h=>h) (by rfl) hHeld (by intro w hS;go_simp;try with_reducible rfl) ?_
      try (first | (rw[put_some];dsimp only[List.set]) | rw[put_none])
      refine rtake 24 _ (some 100) _ rfl rfl (by kernel_rfl) (by kernel_rfl) (by kernel_rfl) (fun _ _ _ h=>h) (by rfl) hHeld (by intro w hS;have hc:=HCL.out w (hB.trans (hS.mono hB.size));go_simp;try with_reducible rfl) ?_
      try (first | (rw[put_some];dsimp only[List.set]) | rw[put_none])
      refine rtake 26 _ (some 102) _ rfl rfl (by kernel_rfl) (by kernel_rfl) (by kernel_rfl) (fun _ _ _ h=>h) (by rfl) hHeld (by intro w hS;exact run_load_op 31 (.tmp 14) rfl _ 0 rfl P2 _ (row_range (rq.later (hB.trans (hS.mono hB.size)) rq.lt)) Tryz.underlying31 rfl hzP2.out) ?_
      try (first | (rw[put_some];dsimp only[List.set]) | rw[put_none])
      refine rtake 27 _ (some 103) _ rfl rfl (by kernel_rfl) (by kernel_rfl) (by kernel_rfl) (fun _ _ _ h=>h) (by rfl) hHeld (by intro w hS;exact run_load_op 33 (.tmp 7) rfl _ 0 rfl Q2 _ (row_range (x1.later (hB.trans (hS.mono hB.size)) x1.lt)) Tryz.underlying33 rfl hzQ2.out) ?_
      try (first | (rw[put_some];dsimp only[List.set]) | rw[put_none])
      refine rtake 28 _ (some 104) _ rfl rfl (by kernel_rfl) (by kernel_rfl) (by kernel_rfl) (fun _ _ _ h=>h) (by rfl) hHeld (by intro w hS;go_simp;try with_reducible rfl) ?_
      try (first | (rw[put_some];dsimp only[List.set]) | rw[put_none])
      refine rtake 29 _ (some 105) _ rfl rfl (by kernel_rfl) (by kernel_rfl) (by kernel_rfl) (fun _ _ _ h=>h) (by rfl) hHeld (by intro w hS;have hc:=HCL.out w (hB.trans (hS.mono hB.size));go_simp;try with_reducible rfl) ?_
      try (first | (rw[put_some];dsimp only[List.set]) | rw[put_none])
      refine wpAnyH_ready (rs:=[25]) (by kernel_rfl) (by simp) (AllReadyH.cons (o:=_) rfl (fun K hK=>?_) AllReadyH.nil)
      go_simp
      refine (HGP.out _ (I.later hB).env).mono ?_;rintro e wwc25 ⟨rfl,hqwc25⟩
      try go_wp2_with fail
      refine hK.out _ _ (hHeld.trans (hqwc25.mono hHeld.size)) (fun hHeld'=>?_)
      clear hK K
      try (first | (rw[put_some];dsimp only[List.set]) | rw[put_none])
      have hB:=below_step hB hqwc25
      have hB5:=below_step hB5 hqwc25
      have hB18:=below_step hB18 hqwc25
      have hB25:Below wwc25.heap.size wwc25 wwc25:=Below.refl _ _
      refine wpAnyH_narrow (S':=fun w'=>Below wwc25.heap.size wwc25 w') (fun _ h=>(hHeld.trans (hqwc25.mono hHeld.size)).trans (h.mono (hHeld.trans (hqwc25.mono hHeld.size)).size)) _ _ _ _ ?_
      clear hHeld
      have hHeld:Below wwc25.heap.size wwc25 wwc25:=Below.refl _ _
      refine wpAnyH_ready (rs:=[30]) (by kernel_rfl) (by simp) (AllReadyH.cons (o:=_) rfl (fun K hK=>?_) AllReadyH.nil)
      go_simp
      refine (HGQ.out _ (I.later hB).env).mono ?_;rintro e wwc30 ⟨rfl,hqwc30⟩
      try go_wp2_with fail
      refine hK.out _ _ (hHeld.trans (hqwc30.mono hHeld.size)) (fun hHeld'=>?_)
      clear hK K
      try (first | (rw[put_some];dsimp only[List.set]) | rw[put_none])
      have hB:=below_step hB hqwc30
      have hB5:=below_step hB5 hqwc30
      have hB18:=below_step hB18 hqwc30
      have hB25:=below_step hB25 hqwc30
      have hB30:Below wwc30.heap.size wwc30 wwc30:=Below.refl _ _
      refine wpAnyH_narrow (S':=fun w'=>Below wwc30.heap.size wwc30 w') (fun _ h=>(hHeld.trans (hqwc30.mono hHeld.size)).trans (h.mono (hHeld.trans (hqwc30.mono hHeld.size)).size)) _ _ _ _ ?_
      clear hHeld
      have hHeld:Below wwc30.heap.size wwc30 wwc30:=Below.refl _ _
      refine rtake 31 _ (some 107) _ rfl rfl (by kernel_rfl) (by kernel_rfl) (by kernel_rfl) (fun _ _ _ h=>h) (by rfl) hHeld (by intro w hS;go_simp;try with_reducible rfl) ?_
      try (first | (rw[put_some];dsimp only[List.set]) | rw[put_none])
      refine rtake 32 _ (some 108) _ rfl rfl (by kernel_rfl) (by kernel_rfl) (by kernel_rfl) (fun _ _ _ h=>h) (by rfl) hHeld (by intro w hS;go_simp;try with_reducible rfl) ?_
      try (first | (rw[put_some];dsimp only[List.set]) | rw[put_none])
      refine rtake 33 _ (some 6) _ rfl rfl (by kernel_rfl) (by kernel_rfl) (by kernel_rfl) (fun _ _ _ h=>h) (by rfl) hHeld (by intro w hS;go_simp;try with_reducible rfl) ?_
      try (first | (rw[put_some];dsimp only[List.set]) | rw[put_none])
      refine wpAnyH_done (by kernel_rfl) ?_ _
      refine NoPanic.normal ?_
      have hBe:=(I.later hB).bel
      clear hHeld
      go_wp2
      go_ret
      exact⟨rfl,hBe⟩
     ·skip
      go_upto_region 17 with fail
      refine wp_region_noPanic ?_
      refine wp_region_held_drew (S:=fun w'=>Below wc.heap.size wc w') (by kernel_rfl) ((Below.refl _ _).drew) (fun hHeld=>?_)
      have hB:=hHeld
      refine rtake 0 _ (some 76) _ rfl rfl (by kernel_rfl) (by kernel_rfl) (by kernel_rfl) (fun _ _ _ h=>h) (by rfl) hHeld (by intro w hS;go_simp;try with_reducible rfl) ?_
      try (first | (rw[put_some];dsimp only[List.set]) | rw[put_none])
      refine rtake 1 _ (some 77) _ rfl rfl (by kernel_rfl) (by kernel_rfl) (by kernel_rfl) (fun _ _ _ h=>h) (by rfl) hHeld (by intro w hS;go_simp;try with_reducible rfl) ?_
      try (first | (rw[put_some];dsimp only[List.set]) | rw[put_none])
      refine rtake 2 _ (some 78) _ rfl rfl (by kernel_rfl) (by kernel_rfl) (by kernel_rfl) (fun _ _ _ h=>h) (by rfl) hHeld (by intro w hS;exact run_load_op 33 (.tmp 7) rfl _ 0 rfl Q2 _ (row_range (x1.later hS x1.lt)) Tryz.underlying33 rfl hzQ2.out) ?_
      try (first | (rw[put_some];dsimp only[List.set]) | rw[put_none])
      refine rtake 3 _ (some 79) _ rfl rfl (by kernel_rfl) (by kernel_rfl) (by kernel_rfl) (fun _ _ _ h=>h) (by rfl) hHeld (by intro w hS;go_simp;try with_reducible rfl) ?_
      try (first | (rw[put_some];dsimp only[List.set]) | rw[put_none])
      refine rtake 4 _ (some 80) _ rfl rfl (by kernel_rfl) (by kernel_rfl) (by kernel_rfl) (fun _ _ _ h=>h) (by rfl) hHeld (by intro w hS;have hc:=HCL.out w hS;go_simp;try with_reducible rfl) ?_
      try (first | (rw[put_some];dsimp only[List.set]) | rw[put_none])
      refine wpAnyH_ready (rs:=[5]) (by kernel_rfl) (by simp) (AllReadyH.cons (o:=_) rfl (fun K hK=>?_) AllReadyH.nil)
      go_simp
      refine (HGL.out _ (I.later hB).sl (I.later hB).env).mono ?_;rintro e wwc5 ⟨rfl,hqwc5⟩
      try go_wp2_with fail
      refine hK.out _ _ (hHeld.trans (hqwc5.mono hHeld.size)) (fun hHeld'=>?_)
      clear hK K
      try (first | (rw[put_some];dsimp only[List.set]) | rw[put_none])
      have hB:=below_step hB hqwc5
      have hB5:Below wwc5.heap.size wwc5 wwc5:=Below.refl _ _
      refine wpAnyH_narrow (S':=fun w'=>Below wwc5.heap.size wwc5 w') (fun _ h=>(hHeld.trans (hqwc5.mono hHeld.size)).trans (h.mono (hHeld.trans (hqwc5.mono hHeld.size)).size)) _ _ _ _ ?_
      clear hHeld
      have hHeld:Below wwc5.heap.size wwc5 wwc5:=Below.refl _ _
      refine rtake 6 _ (some 82) _ rfl rfl (by kernel_rfl) (by kernel_rfl) (by kernel_rfl) (fun _ _ _ h=>h) (by rfl) hHeld (by intro w hS;go_simp;try with_reducible rfl) ?_
      try (first | (rw[put_some];dsimp only[List.set]) | rw[put_none])
      refine rtake 7 _ (some 83) _ rfl rfl (by kernel_rfl) (by kernel_rfl) (by kernel_rfl) (fun _ _ _ h=>h) (by rfl) hHeld (by intro w hS;go_simp;try with_reducible rfl) ?_
      try (first | (rw[put_some];dsimp only[List.set]) | rw[put_none])
      refine rtake 8 _ (some 84) _ rfl rfl (by kernel_rfl) (by kernel_rfl) (by kernel_rfl) (fun _ _ _ h=>h) (by rfl) hHeld (by intro w hS;exact run_load_op 33 (.tmp 7) rfl _ 0 rfl Q2 _ (row_range (x1.later (hB.trans (hS.mono hB.size)) x1.lt)) Tryz.underlying33 rfl hzQ2.out) ?_
      try (first | (rw[put_some];dsimp only[List.set]) | rw[put_none])
      refine rtake 9 _ (some 85) _ rfl rfl (by kernel_rfl) (by kernel_rfl) (by kernel_rfl) (fun _ _ _ h=>h) (by rfl) hHeld (by intro w hS;go_simp;try with_reducible rfl) ?_
      try (first | (rw[put_some];dsimp only[List.set]) | rw[put_none])
      refine rtake 10 _ (some 86) _ rfl rfl (by kernel_rfl) (by kernel_rfl) (by kernel_rfl) (fun _ _ _ h=>h) (by rfl) hHeld (by intro w hS;have hc:=HCL.out w (hB.trans (hS.mono hB.size));go_simp;try with_reducible rfl) ?_
      try (first | (rw[put_some];dsimp only[List.set]) | rw[put_none])
      refine wpAnyH_ready (rs:=[11]) (by kernel_rfl) (by simp) (AllReadyH.cons (o:=_) rfl (fun K hK=>?_) AllReadyH.nil)
      go_simp
      refine (HGM.out _ (I.later hB).sm (I.later hB).env).mono ?_;rintro e wwc11 ⟨rfl,hqwc11⟩
      try go_wp2_with fail
      refine hK.out _ _ (hHeld.trans (hqwc11.mono hHeld.size)) (fun hHeld'=>?_)
      clear hK K
      try (first | (rw[put_some];dsimp only[List.set]) | rw[put_none])
      have hB:=below_step hB hqwc11
      have hB5:=below_step hB5 hqwc11
      have hB11:Below wwc11.heap.size wwc11 wwc11:=Below.refl _ _
      refine wpAnyH_narrow (S':=fun w'=>Below wwc11.heap.size wwc11 w') (fun _ h=>(hHeld.trans (hqwc11.mono hHeld.size)).trans (h.mono (hHeld.trans (hqwc11.mono hHeld.size)).size)) _ _ _ _ ?_
      clear hHeld
      have hHeld:Below wwc11.heap.size wwc11 wwc11:=Below.refl _ _
      refine rtake 12 _ (some 88) _ rfl rfl (by kernel_rfl) (by kernel_rfl) (by kernel_rfl) (fun _ _ _ h=>h) (by rfl) hHeld (by intro w hS;go_simp;try with_reducible rfl) ?_
      try (first | (rw[put_some];dsimp only[List.set]) | rw[put_none])
      refine rtake 13 _ (some 89) _ rfl rfl (by kernel_rfl) (by kernel_rfl) (by kernel_rfl) (fun _ _ _ h=>h) (by rfl) hHeld (by intro w hS;go_simp;try with_reducible rfl) ?_
      try (first | (rw[put_some];dsimp only[List.set]) | rw[put_none])
      refine rtake 14 _ (some 90) _ rfl rfl (by kernel_rfl) (by kernel_rfl) (by kernel_rfl) (fun _ _ _ h=>h) (by rfl) hHeld (by intro w hS;go_simp;try with_reducible rfl) ?_
      try (first | (rw[put_some];dsimp only[List.set]) | rw[put_none])
      refine rtake 15 _ (some 91) _ rfl rfl (by kernel_rfl) (by kernel_rfl) (by kernel_rfl) (fun _ _ _ h=>h) (by rfl) hHeld (by intro w hS;exact run_load_op 33 (.tmp 7) rfl _ 0 rfl Q2 _ (row_range (x1.later (hB.trans (hS.mono hB.size)) x1.lt)) Tryz.underlying33 rfl hzQ2.out) ?_
      try (first | (rw[put_some];dsimp only[List.set]) | rw[put_none])
      refine rtake 16 _ (some 92) _ rfl rfl (by kernel_rfl) (by kernel_rfl) (by kernel_rfl) (fun _ _ _ h=>h) (by rfl) hHeld (by intro w hS;go_simp;try with_reducible rfl) ?_
      try (first | (rw[put_some];dsimp only[List.set]) | rw[put_none])
      refine rtake 17 _ (some 93) _ rfl rfl (by kernel_rfl) (by kernel_rfl) (by kernel_rfl) (fun _ _ _ h=>h) (by rfl) hHeld (by intro w hS;have hc:=HCL.out w (hB.trans (hS.mono hB.size));go_simp;try with_reducible rfl) ?_
      try (first | (rw[put_some];dsimp only[List.set]) | rw[put_none])
      refine wpAnyH_ready (rs:=[18]) (by kernel_rfl) (by simp) (AllReadyH.cons (o:=_) rfl (fun K hK=>?_) AllReadyH.nil)
      go_simp
      refine (HGN.out _ (I.later hB).env).mono ?_;rintro e wwc18 ⟨rfl,hqwc18⟩
      try go_wp2_with fail
      refine hK.out _ _ (hHeld.trans (hqwc18.mono hHeld.size)) (fun hHeld'=>?_)
      clear hK K
      try (first | (rw[put_some];dsimp only[List.set]) | rw[put_none])
      have hB:=below_step hB hqwc18
      have hB5:=below_step hB5 hqwc18
      have hB11:=below_step hB11 hqwc18
      have hB18:Below wwc18.heap.size wwc18 wwc18:=Below.refl _ _
      refine wpAnyH_narrow (S':=fun w'=>Below wwc18.heap.size wwc18 w') (fun _ h=>(hHeld.trans (hqwc18.mono hHeld.size)).trans (h.mono (hHeld.trans (hqwc18.mono hHeld.size)).size)) _ _ _ _ ?_
      clear hHeld
      have hHeld:Below wwc18.heap.size wwc18 wwc18:=Below.refl _ _
      refine rtake 19 _ (some 95) _ rfl rfl (by kernel_rfl) (by kernel_rfl) (by kernel_rfl) (fun _ _ _ h=>h) (by rfl) hHeld (by intro w hS;go_simp;try with_reducible rfl) ?_
      try (first | (rw[put_some];dsimp only[List.set]) | rw[put_none])
      refine rtake 20 _ (some 96) _ rfl rfl (by kernel_rfl) (by kernel_rfl) (by kernel_rfl) (fun _ _ _ h=>h) (by rfl) hHeld (by intro w hS;go_simp;try with_reducible rfl) ?_
      try (first | (rw[put_some];dsimp only[List.set]) | rw[put_none])
      refine rtake 21 _ (some 97) _ rfl rfl (by kernel_rfl) (by kernel_rfl) (by kernel_rfl) (fun _ _ _ h=>h) (by rfl) hHeld (by intro w hS;exact run_load_op 31 (.tmp 13) rfl _ 0 rfl P1 _ (row_range (rp.later (hB.trans (hS.mono hB.size)) rp.lt)) Tryz.underlying31 rfl hzP1.out) ?_
      try (first | (rw[put_some];dsimp only[List.set]) | rw[put_none])
      refine rtake 22 _ (some 98) _ rfl rfl (by kernel_rfl) (by kernel_rfl) (by kernel_rfl) (fun _ _ _ h=>h) (by rfl) hHeld (by intro w hS;exact run_load_op 33 (.tmp 7) rfl _ 0 rfl Q2 _ (row_range (x1.later (hB.trans (hS.mono hB.size)) x1.lt)) Tryz.underlying33 rfl hzQ2.out) ?_
      try (first | (rw[put_some];dsimp only[List.set]) | rw[put_none])
      refine rtake 23 _ (some 99) _ rfl rfl (by kernel_rfl) (by kernel_rfl) (by kernel_rfl) (fun _ _ _ h=>h) (by rfl) hHeld (by intro w hS;go_simp;try with_reducible rfl) ?_
      try (first | (rw[put_some];dsimp only[List.set]) | rw[put_none])
      refine rtake 24 _ (some 100) _ rfl rfl (by kernel_rfl) (by kernel_rfl) (by kernel_rfl) (fun _ _ _ h=>h) (by rfl) hHeld (by intro w hS;have hc:=HCL.out w (hB.trans (hS.mono hB.size));go_simp;try with_reducible rfl) ?_
      try (first | (rw[put_some];dsimp only[List.set]) | rw[put_none])
      refine rtake 26 _ (some 102) _ rfl rfl (by kernel_rfl) (by kernel_rfl) (by kernel_rfl) (fun _ _ _ h=>h) (by rfl) hHeld (by intro w hS;exact run_load_op 31 (.tmp 14) rfl _ 0 rfl P2 _ (row_range (rq.later (hB.trans (hS.mono hB.size)) rq.lt)) Tryz.underlying31 rfl hzP2.out) ?_
      try (first | (rw[put_some];dsimp only[List.set]) | rw[put_none])
      refine rtake 27 _ (some 103) _ rfl rfl (by kernel_rfl) (by kernel_rfl) (by kernel_rfl) (fun _ _ _ h=>h) (by rfl) hHeld (by intro w hS;exact run_load_op 33 (.tmp 7) rfl _ 0 rfl Q2 _ (row_range (x1.later (hB.trans (hS.mono hB.size)) x1.lt)) Tryz.underlying33 rfl hzQ2.out) ?_
      try (first | (rw[put_some];dsimp only[List.set]) | rw[put_none])
      refine rtake 28 _ (some 104) _ rfl rfl (by kernel_rfl) (by kernel_rfl) (by kernel_rfl) (fun _ _ _ h=>h) (by rfl) hHeld (by intro w hS;go_simp;try with_reducible rfl) ?_
      try (first | (rw[put_some];dsimp only[List.set]) | rw[put_none])
      refine rtake 29 _ (some 105) _ rfl rfl (by kernel_rfl) (by kernel_rfl) (by kernel_rfl) (fun _ _ _ h=>h) (by rfl) hHeld (by intro w hS;have hc:=HCL.out w (hB.trans (hS.mono hB.size));go_simp;try with_reducible rfl) ?_
      try (first | (rw[put_some];dsimp only[List.set]) | rw[put_none])
      refine wpAnyH_ready (rs:=[25]) (by kernel_rfl) (by simp) (AllReadyH.cons (o:=_) rfl (fun K hK=>?_) AllReadyH.nil)
      go_simp
      refine (HGP.out _ (I.later hB).env).mono ?_;rintro e wwc25 ⟨rfl,hqwc25⟩
      try go_wp2_with fail
      refine hK.out _ _ (hHeld.trans (hqwc25.mono hHeld.size)) (fun hHeld'=>?_)
      clear hK K
      try (first | (rw[put_some];dsimp only[List.set]) | rw[put_none])
      have hB:=below_step hB hqwc25
      have hB5:=below_step hB5 hqwc25
      have hB11:=below_step hB11 hqwc25
      have hB18:=below_step hB18 hqwc25
      have hB25:Below wwc25.heap.size wwc25 wwc25:=Below.refl _ _
      refine wpAnyH_narrow (S':=fun w'=>Below wwc25.heap.size wwc25 w') (fun _ h=>(hHeld.trans (hqwc25.mono hHeld.size)).trans (h.mono (hHeld.trans (hqwc25.mono hHeld.size)).size)) _ _ _ _ ?_
      clear hHeld
      have hHeld:Below wwc25.heap.size wwc25 wwc25:=Below.refl _ _
      refine wpAnyH_ready (rs:=[30]) (by kernel_rfl) (by simp) (AllReadyH.cons (o:=_) rfl (fun K hK=>?_) AllReadyH.nil)
      go_simp
      refine (HGQ.out _ (I.later hB).env).mono ?_;rintro e wwc30 ⟨rfl,hqwc30⟩
      try go_wp2_with fail
      refine hK.out _ _ (hHeld.trans (hqwc30.mono hHeld.size)) (fun hHeld'=>?_)
      clear hK K
      try (first | (rw[put_some];dsimp only[List.set]) | rw[put_none])
      have hB:=below_step hB hqwc30
      have hB5:=below_step hB5 hqwc30
      have hB11:=below_step hB11 hqwc30
      have hB18:=below_step hB18 hqwc30
      have hB25:=below_step hB25 hqwc30
      have hB30:Below wwc30.heap.size wwc30 wwc30:=Below.refl _ _
      refine wpAnyH_narrow (S':=fun w'=>Below wwc30.heap.size wwc30 w') (fun _ h=>(hHeld.trans (hqwc30.mono hHeld.size)).trans (h.mono (hHeld.trans (hqwc30.mono hHeld.size)).size)) _ _ _ _ ?_
      clear hHeld
      have hHeld:Below wwc30.heap.size wwc30 wwc30:=Below.refl _ _
      refine rtake 31 _ (some 107) _ rfl rfl (by kernel_rfl) (by kernel_rfl) (by kernel_rfl) (fun _ _ _ h=>h) (by rfl) hHeld (by intro w hS;go_simp;try with_reducible rfl) ?_
      try (first | (rw[put_some];dsimp only[List.set]) | rw[put_none])
      refine rtake 32 _ (some 108) _ rfl rfl (by kernel_rfl) (by kernel_rfl) (by kernel_rfl) (fun _ _ _ h=>h) (by rfl) hHeld (by intro w hS;go_simp;try with_reducible rfl) ?_
      try (first | (rw[put_some];dsimp only[List.set]) | rw[put_none])
      refine rtake 33 _ (some 6) _ rfl rfl (by kernel_rfl) (by kernel_rfl) (by kernel_rfl) (fun _ _ _ h=>h) (by rfl) hHeld (by intro w hS;go_simp;try with_reducible rfl) ?_
      try (first | (rw[put_some];dsimp only[List.set]) | rw[put_none])
      refine wpAnyH_done (by kernel_rfl) ?_ _
      refine NoPanic.normal ?_
      have hBe:=(I.later hB).bel
      clear hHeld
      go_wp2
      go_ret
      exact⟨rfl,hBe⟩
theorem gless_walk (l:List (List UInt8)) (A:Option Addr) (c:Nat) (m:List (List UInt8)) (B:Option Addr) (d:Nat) (r:Req) (b t:Nat) (w:World) (hsl:Sl w A c (strsV l)) (hle:∀s∈l,s.length≤140737488351232) (_hll:l.length≤9223372036854775807) (hsm:Sl w B d (strsV m)) (hme:∀s∈m,s.length≤140737488351232) (_hml:m.length≤9223372036854775807) (hr:ReqArg r) (hbb:b < 2^64) (htt:t < 2^64) (hE0:EnvG w) :
  Calls Tryz.prog 5 #[.slice A l.length c,.slice B m.length d,.agg (askV r b t).toArray] w fun e w'=>e=.returned (.bool true)∧Below w.heap.size w w':=by
 by_cases hl:30 < l.length
 ·exact gless_l l m A B c d r b t w hr hE0 hl
 by_cases hm:30 < m.length
 ·exact gless_m l m A B c d r b t w hr hE0 (by omega) hm
 by_cases ho:1000 < r.op.length∨1000 < r.path.length
 ·exact gless_odd l m A B c d r b t w hr hE0 hsl hsm (by omega) (by omega) (oddQ_one r ho)
 ·exact gless_main l m A B c d r b t w hsl hsm hle hme hr hbb htt hE0 (by omega) (by omega) (oddQ_zero r (by omega) (by omega)) (by omega) (by omega)
end Go.Proofs.YtjieebmcbpdeiaaGreatDoor
