import Derived.Test.YtjieebmcbpdeiaaGreatDoorRbat
import Derived.Test.YtjieebmcbpdeiaaGreatDoorRbac
import Derived.Test.YtjieebmcbpdeiaaGreatDoorRbar
import Derived.Test.YtjieebmcbpdeiaaGreatDoorRbaq
import Derived.Test.YtjieebmcbpdeiaaGreatDoorRbae
namespace Go.Proofs.YtjieebmcbpdeiaaGreatDoor
set_option maxRecDepth 100000
open Go Go.RowKit
def GavePrds (l:List Prd) (w:World) (e:Ending) (w':World):Prop :=
 ∃(A:Option Addr) (c:Nat) (xs:List PrdX),e=.returned (.slice A l.length c)∧xs.map (·.1)=l∧Sl w' A (c*23) (xs.flatMap prdX)∧(∀x∈xs,PrdAt w' x.1 x.2.1 x.2.2)∧Below w.heap.size w w'
theorem gave_prds {l:List Prd} {w w':World} {e:Ending} {v:Value} {xs:List PrdX} (h1:e=.returned v) (h2:xs.map (·.1)=l) (h3:PrdsOwn w' w.heap.size v xs) (h4:Below w.heap.size w w'):GavePrds l w e w':=by
 obtain⟨A,c,rfl,-,s⟩:=Sl.of_ownk h3.own
 refine⟨A,c,xs,?_,h2,s,h3.each,h4⟩
 rw[h1,←h2,List.length_map]
theorem gof_gave (r:Req) (w:World) (hr:r.Ok) (h:EnvG w):Calls Tryz.prog 16 #[.agg (reqV r).toArray] w (GavePrds (ofL r) w) :=
 (gof_any r w hr h).mono fun _ _ ⟨_,_,h1,h2,h3,h4⟩=>gave_prds h1 h2 h3 h4
theorem rof_gave (r:Req) (w:World) (hr:r.Ok):Calls Tryz.prog 17 #[.agg (reqV r).toArray] w (GavePrds (ofL r) w) :=
 (rof18_any r w hr).mono fun _ _ ⟨_,_,h1,h2,h3,h4⟩=>gave_prds h1 h2 h3 h4
theorem length_prdX {w:World} {x:PrdX} (h:PrdAt w x.1 x.2.1 x.2.2):(prdX x).length=23:=length_prdV x.1 h.ok.net.a _ _
theorem prds_addr {w:World} {A:Option Addr} {c k:Nat} {xs:List PrdX} {x:PrdX} (h:Sl w A c (xs.flatMap prdX)) (he:∀x∈xs,PrdAt w x.1 x.2.1 x.2.2) (hx:xs[k]?=some x):∃b o,A=some ⟨b,o,none⟩:=by
 rcases h.rd with h0 | ⟨b,o,rfl,-,-⟩
 ·have h1:=List.flatMap_eq_nil_iff.1 h0 x (List.mem_of_getElem? hx)
  have h2:=length_prdX (he x (List.mem_of_getElem? hx))
  rw[h1] at h2;cases h2
 ·exact⟨b,o,rfl⟩
theorem prds_range {w:World} {b o c k:Nat} {xs:List PrdX} {x:PrdX} (h:Sl w (some ⟨b,o,none⟩) c (xs.flatMap prdX)) (he:∀x∈xs,PrdAt w x.1 x.2.1 x.2.2) (hx:xs[k]?=some x):w.rangeAt b (o+k*23) (prdX x) :=
 h.thing (fun a ha=>length_prdX (he a ha)) k x hx
theorem par_b5:parseP [98,101,102,111,114,101,32,53]=some ⟨1,5,[],[],zeroR,0⟩ :=
 (parseP_iff _ _).2 ⟨⟨zeroR_ok,by decide,by decide⟩,by decide,by decide⟩
theorem par_c0:parseP [99,111,115,116,32,48]=some ⟨6,0,[],[],zeroR,0⟩ :=
 (parseP_iff _ _).2 ⟨⟨zeroR_ok,by decide,by decide⟩,by decide,by decide⟩
def reqZ (c:Nat):Req:=⟨[],[],zeroA,c⟩
theorem reqZ_ok (c:Nat) (h:c < 2^64):(reqZ c).Ok:=⟨zeroA_ok,h,by show (0:Nat)≤1000;omega,by show (0:Nat)≤1000;omega⟩
theorem al_1:holdsT [98,101,102,111,114,101,32,53] (reqZ 0) 4=true:=by unfold holdsT;rw[par_b5];decide
theorem al_2:holdsT [98,101,102,111,114,101,32,53] (reqZ 0) 5=false:=by unfold holdsT;rw[par_b5];decide
theorem al_3:holdsT [99,111,115,116,32,48] (reqZ 9221120237041090561) 0=false:=by unfold holdsT;rw[par_c0];decide
set_option maxHeartbeats 2000000 in
theorem galive_any (w:World) (hE0:EnvG w):Calls Tryz.prog 6 #[] w fun e w'=>e=.returned (.bool true)∧Below w.heap.size w w':=by
 have h1:=fun w' h=>gtext_any [98,101,102,111,114,101,32,53] (by decide) (reqZ 0) 4 w' (reqZ_ok 0 (by decide)) (by decide) h
 have h2:=fun w' h=>gtext_any [98,101,102,111,114,101,32,53] (by decide) (reqZ 0) 5 w' (reqZ_ok 0 (by decide)) (by decide) h
 have h3:=fun w' h=>gtext_any [99,111,115,116,32,48] (by decide) (reqZ 9221120237041090561) 0 w' (reqZ_ok _ (by decide)) (by decide) h
 rw[al_1] at h1
 rw[al_2] at h2
 rw[al_3] at h3
 have h1:=Lib.hid h1
 have h2:=Lib.hid h2
 have h3:=Lib.hid h3
 have hn:=Lib.hid (fun w'=>fnan_any w')
 have hb0:Below w.heap.size w w:=Below.refl _ _
 have tk1:True:=trivial
 have tk2:True:=trivial
 go_enter Tryz.func6,Tryz.ntmps6
 go_wp2_with (first
  | (go_at_call 10;have _t:=tk1;refine (h1.out _ hE0).mono ?_;rintro e w1 ⟨rfl,hq⟩;have hE0:=hE0.next hq;have hb0:=hb0.trans (hq.mono hb0.size);clear hq tk1)
  | (go_at_call 10;have _t:=tk2;refine (h2.out _ hE0).mono ?_;rintro e w2 ⟨rfl,hq⟩;have hE0:=hE0.next hq;have hb0:=hb0.trans (hq.mono hb0.size);clear hq tk2)
  | (go_at_call 10;refine (h3.out _ hE0).mono ?_;rintro e w3 ⟨rfl,hq⟩;have hb0:=hb0.trans (hq.mono hb0.size);clear hq)
  | (go_at_call 22;refine (hn.out _).mono ?_;rintro e w' ⟨rfl,rfl⟩))
 go_ret
 exact⟨rfl,hb0⟩
theorem size_ask:(Tryz.prog.info? 35).map (·.size)=some 22:=by kernel_rfl
theorem length_askV (r:Req) (h:r.src.Ok) (b t:Nat):(askV r b t).length=22:=by unfold askV;rw[List.length_append,length_reqV r h];rfl
theorem askR_ok (r:Req) (b:Nat) (h:ReqArg r) (hb:b < 2^64) (h1:r.op.length≤1000) (h2:r.path.length≤1000):(askR r b).Ok:=⟨h.src,hb,h1,h2⟩
set_option maxHeartbeats 16000000 in
theorem gof_walk (r:Req) (b t:Nat) (w:World) (hr:ReqArg r) (hbb:b < 2^64) (htt:t < 2^64) (hE0:EnvG w) :
  Calls Tryz.prog 4 #[.agg (askV r b t).toArray] w fun e w'=>e=.returned (.bool true)∧Below w.heap.size w w':=by
 have hal:=Lib.hid (fun w' hE=>galive_any w' hE)
 have hzA:=Lib.hid (show (Tryz.prog.info? 35).map (·.size)=some (askV r b t).length by rw[length_askV r hr.src];exact size_ask)
 have hzR:=Lib.hid (show (Tryz.prog.info? 33).map (·.size)=some (reqV r).length by rw[length_reqV r hr.src];exact size_req)
 have hzQ2:=Lib.hid (show (Tryz.prog.info? 33).map (·.size)=some (reqV (askR r b)).length by rw[length_reqV (askR r b) hr.src];exact size_req)
 have hzQ3:=Lib.hid (show (Tryz.prog.info? 33).map (·.size)=some (reqV (askR r b)).toArray.size by rw[List.size_toArray,length_reqV (askR r b) hr.src];exact size_req)
 have h20:=Lib.hid (show 20=(reqV (askR r b)).toArray.size by rw[List.size_toArray,length_reqV (askR r b) hr.src])
 have hQ1:=Lib.hid (reqV_one (askR r b))
 obtain⟨w1,hw1⟩:∃w1,w1=w.alloc (.cells (askV r b t).toArray 35):=⟨_,rfl⟩
 obtain⟨q1,hb0⟩:=one_box hw1.symm
 have hE0:=hE0.next hb0
 have HOD:=Lib.hid (fun w'=>qodd_any r w' hr)
 have HRQ:=Lib.hid (fun w'=>qreq_any r b t hbb w' hr)
 have HRG:=Lib.hid (show ∀(W:World) g,Row W g 35 (askV r b t)→W.rangeAt g 0 (reqV r) from fun W g h=>range_of_row (A:=[]) (B:=reqV r) (C:=[.int .u64 (b:Int),.int .u64 (t:Int)]) h)
 have HCE:=Lib.hid (show ∀(W:World) g,Row W g 35 (askV r b t)→W.cell? ⟨g,21,none⟩=some (.int .u64 (t:Int)) from fun W g h=>by
  rw[h.cell];unfold askV
  rw[List.getElem?_append_right (by rw[length_reqV r hr.src];omega),length_reqV r hr.src];rfl)
 have hod:oddQ r=1∨oddQ r=0∧r.op.length≤1000∧r.path.length≤1000:=by
  by_cases h:1000 < r.op.length∨1000 < r.path.length
  ·exact .inl (oddQ_one r h)
  ·exact .inr ⟨oddQ_zero r (by omega) (by omega),by omega,by omega⟩
 generalize oddQ r=od at *
 obtain⟨V,hV⟩:∃V,V=askV r b t:=⟨_,rfl⟩
 obtain⟨R,hR⟩:∃R,R=reqV r:=⟨_,rfl⟩
 obtain⟨Q2,hQ2⟩:∃Q2,Q2=reqV (askR r b):=⟨_,rfl⟩
 rw[←hV] at hzA q1 HRG HCE HRQ hw1 ⊢
 rw[←hR] at hzR HOD HRG
 rw[←hQ2] at hzQ2 hzQ3 h20 hQ1 HRQ
 have HW:=Lib.hid hw1
 have HQ2:=Lib.hid hQ2
 clear hw1 hV hR hQ2
 rcases hod with rfl | ⟨rfl,ho1,ho2⟩
 ·go_enter Tryz.func4,Tryz.ntmps4
  go_wp2_with (first
   | (go_at_call 6;rw[←HW.out];refine (hal.out _ hE0).mono ?_;rintro e w2 ⟨rfl,hq⟩;have hE0:=hE0.next hq;have q1:=q1.later hq q1.lt;have hb0:=hb0.trans (hq.mono hb0.size);clear hq)
   | ((with_reducible refine wpList_step fun K hK=>?_);refine step_load_mid (some 11) rfl (by rfl) 33 (.tmp 10) rfl w.heap.size 0 rfl R _ (HRG.out _ _ q1) Tryz.underlying33 rfl hzR.out ?_;refine hK _ _ ?_;clear hK)
   | (go_at_call 8;refine (HOD.out _).mono ?_;rintro e w4 ⟨rfl,hq⟩;have hE0:=hE0.next hq;have q1:=q1.later hq q1.lt;have hb0:=hb0.trans (hq.mono hb0.size);clear hq))
  go_ret
  exact⟨rfl,hb0⟩
 ·have hok:=askR_ok r b hr hbb ho1 ho2
  have HOK:=Lib.hid hok
  clear ho1 ho2 hok
  go_enter Tryz.func4,Tryz.ntmps4
  go_wp2_with (first
   | (go_at_call 6;rw[←HW.out];refine (hal.out _ hE0).mono ?_;rintro e w2 ⟨rfl,hq⟩;have hE0:=hE0.next hq;have q1:=q1.later hq q1.lt;have hb0:=hb0.trans (hq.mono hb0.size);clear hq)
   | ((with_reducible refine wpList_step fun K hK=>?_);refine step_load_mid (some 11) rfl (by rfl) 33 (.tmp 10) rfl w.heap.size 0 rfl R _ (HRG.out _ _ q1) Tryz.underlying33 rfl hzR.out ?_;refine hK _ _ ?_;clear hK)
   | (go_at_call 8;refine (HOD.out _).mono ?_;rintro e w4 ⟨rfl,hq⟩;have hE0:=hE0.next hq;have q1:=q1.later hq q1.lt;have hb0:=hb0.trans (hq.mono hb0.size);clear hq)
   | ((with_reducible refine wpList_step fun K hK=>?_);refine step_load_mid (some 14) rfl (by rfl) 35 (.tmp 1) rfl w.heap.size 0 rfl V _ (row_range q1) Tryz.underlying35 rfl hzA.out ?_;refine hK _ _ ?_;clear hK)
   | (go_at_call 9;refine (HRQ.out _).mono ?_;rintro e w5 ⟨rfl,hq⟩;have hE0:=hE0.next hq;have q1:=q1.later hq q1.lt;have hb0:=hb0.trans (hq.mono hb0.size);clear hq)
   | (have _t:=w5;refine wpList_store_row rfl 33 (.tmp 3) (.tmp 15) rfl w5.heap.size Q2.toArray rfl rfl 33 _ (heap_alloc_new w5 _) hzQ3.out h20.out hQ1.out ?_;refine Hid.out ?_))
  refine Lib.hid ?_
  generalize hww:World.setRow _ _ _=w6
  obtain⟨x1,hq⟩:=row_new_set (xs:=Q2) hww
  have hE0:=hE0.next hq
  have q1:=q1.later hq q1.lt
  have hb0:=hb0.trans (hq.mono hb0.size)
  clear hq
  clear hww
  generalize w5.heap.size=g7 at *
  have HO:=Lib.hid (fun w' (h:Below w6.heap.size w6 w')=>gof_gave (askR r b) w' HOK.out (hE0.next h))
  have HP:=Lib.hid (fun w' (_:Below w6.heap.size w6 w')=>rof_gave (askR r b) w' HOK.out)
  rw[←HQ2.out] at HO HP
  have HGD:=Lib.hid (of_good (askR r b) HOK.out t)
  have hLn:=of_len (askR r b)
  generalize ofL (askR r b)=L at *
  go_wp2
  refine wp_region_noPanic ?_
  refine wp_region_held_drew (S:=fun w'=>Below w6.heap.size w6 w') (by kernel_rfl) ((Below.refl _ _).drew) (fun hHeld=>?_)
  have hB:=hHeld
  refine rtake 0 _ (some 16) _ rfl rfl (by kernel_rfl) (by kernel_rfl) (by kernel_rfl) (fun _ _ _ h=>h) (by rfl) hHeld (by intro w hS;exact run_load_op 33 (.tmp 3) rfl _ 0 rfl Q2 _ (row_range (x1.later hS x1.lt)) Tryz.underlying33 rfl hzQ2.out) ?_
  try (first | (rw[put_some];dsimp only[List.set]) | rw[put_none])
  refine rtake 2 _ (some 18) _ rfl rfl (by kernel_rfl) (by kernel_rfl) (by kernel_rfl) (fun _ _ _ h=>h) (by rfl) hHeld (by intro w hS;exact run_load_op 33 (.tmp 3) rfl _ 0 rfl Q2 _ (row_range (x1.later hS x1.lt)) Tryz.underlying33 rfl hzQ2.out) ?_
  try (first | (rw[put_some];dsimp only[List.set]) | rw[put_none])
  refine wpAnyH_ready (rs:=[1]) (by kernel_rfl) (by simp) (AllReadyH.cons (o:=_) rfl (fun K hK=>?_) AllReadyH.nil)
  go_simp
  refine (HO.out _ hB).mono ?_;rintro e ww61 ⟨A1,c1,xs1,rfl,hx1,s1,e1,hqw61⟩
  try go_wp2_with fail
  refine hK.out _ _ (hHeld.trans (hqw61.mono hHeld.size)) (fun hHeld'=>?_)
  clear hK K
  try (first | (rw[put_some];dsimp only[List.set]) | rw[put_none])
  have hB:=below_step hB hqw61
  have hB1:Below ww61.heap.size ww61 ww61:=Below.refl _ _
  refine wpAnyH_narrow (S':=fun w'=>Below ww61.heap.size ww61 w') (fun _ h=>(hHeld.trans (hqw61.mono hHeld.size)).trans (h.mono (hHeld.trans (hqw61.mono hHeld.size)).size)) _ _ _ _ ?_
  clear hHeld
  have hHeld:Below ww61.heap.size ww61 ww61:=Below.refl _ _
  refine wpAnyH_ready (rs:=[3]) (by kernel_rfl) (by simp) (AllReadyH.cons (o:=_) rfl (fun K hK=>?_) AllReadyH.nil)
  go_simp
  refine (HP.out _ hB).mono ?_;rintro e ww63 ⟨A2,c2,xs2,rfl,hx2,s2,e2,hqw63⟩
  try go_wp2_with fail
  refine hK.out _ _ (hHeld.trans (hqw63.mono hHeld.size)) (fun hHeld'=>?_)
  clear hK K
  try (first | (rw[put_some];dsimp only[List.set]) | rw[put_none])
  have hB:=below_step hB hqw63
  have hB1:=below_step hB1 hqw63
  have hB3:Below ww63.heap.size ww63 ww63:=Below.refl _ _
  refine wpAnyH_narrow (S':=fun w'=>Below ww63.heap.size ww63 w') (fun _ h=>(hHeld.trans (hqw63.mono hHeld.size)).trans (h.mono (hHeld.trans (hqw63.mono hHeld.size)).size)) _ _ _ _ ?_
  clear hHeld
  have hHeld:Below ww63.heap.size ww63 ww63:=Below.refl _ _
  refine rtake 4 _ (some 4) _ rfl rfl (by kernel_rfl) (by kernel_rfl) (by kernel_rfl) (fun _ _ _ h=>h) (by rfl) hHeld (by intro w hS;go_simp;try with_reducible rfl) ?_
  try (first | (rw[put_some];dsimp only[List.set]) | rw[put_none])
  refine rtake 5 _ (some 5) _ rfl rfl (by kernel_rfl) (by kernel_rfl) (by kernel_rfl) (fun _ _ _ h=>h) (by rfl) hHeld (by intro w hS;go_simp;try with_reducible rfl) ?_
  try (first | (rw[put_some];dsimp only[List.set]) | rw[put_none])
  refine wpAnyH_done (by kernel_rfl) ?_ _
  refine NoPanic.normal ?_
  have s1:=s1.later (Nat.le_refl _) hB1
  have e1:=fun x hx=>(e1 x hx).later (Nat.le_refl _) hB1
  have hq:=hB
  clear hHeld hB hB1 hB3
  have hE0:=hE0.next hq
  have q1:=q1.later hq q1.lt
  have x1:=x1.later hq x1.lt
  have hb0:=hb0.trans (hq.mono hb0.size)
  clear hq
  go_wp2
  go_loopw [27] (fun i wr=>∃k:Nat,k≤L.length∧i=.int .i64 k∧Row wr w.heap.size 35 V∧Row wr g7 33 Q2∧Sl wr A1 (c1*23) (xs1.flatMap prdX)∧(∀x∈xs1,PrdAt wr x.1 x.2.1 x.2.2)∧Sl wr A2 (c2*23) (xs2.flatMap prdX)∧(∀x∈xs2,PrdAt wr x.1 x.2.1 x.2.2)∧EnvG wr∧Below w.heap.size w wr) (fun i _=>L.length - (intOf i).toNat)
  case atStart=>exact⟨0,Nat.zero_le _,rfl,q1,x1,s1,e1,s2,e2,hE0,hb0⟩
  case round =>
   clear q1 x1 s1 e1 s2 e2 hE0 hb0
   obtain⟨k,hk,rfl,q1,x1,s1,e1,s2,e2,hE0,hb0⟩:=hrel
   by_cases hlt:k < L.length
   ·have hlt':(k:Int) < (L.length:Int):=by omega
    obtain⟨x,hx⟩:∃x,xs1[k]?=some x:=⟨_,List.getElem?_eq_getElem (by rw[←List.length_map (f:=fun x:PrdX=>x.1),hx1];exact hlt)⟩
    obtain⟨y,hy⟩:∃y,xs2[k]?=some y:=⟨_,List.getElem?_eq_getElem (by rw[←List.length_map (f:=fun x:PrdX=>x.1),hx2];exact hlt)⟩
    have hpx:L[k]?=some x.1:=by rw[←hx1,List.getElem?_map,hx];rfl
    have hpy:L[k]?=some y.1:=by rw[←hx2,List.getElem?_map,hy];rfl
    obtain⟨p,A,c⟩:=x
    obtain⟨p',B,d⟩:=y
    obtain rfl:p=p':=Option.some.inj (hpx.symm.trans hpy)
    obtain⟨hpo,hpt,hph⟩:=HGD.out p (List.mem_of_getElem? hpx)
    have a1:PrdAt wr p A c:=e1 _ (List.mem_of_getElem? hx)
    have a2:PrdAt wr p B d:=e2 _ (List.mem_of_getElem? hy)
    obtain⟨b1,o1,rfl⟩:=prds_addr s1 e1 hx
    obtain⟨b2,o2,rfl⟩:=prds_addr s2 e2 hy
    have hra:wr.rangeAt b1 (o1+k*23) (prdV p A c):=prds_range s1 e1 hx
    have hix1:=index_prd (some ⟨b1,o1,none⟩) b1 o1 L.length c1 k rfl hlt
    have hix2:=index_prd (some ⟨b2,o2,none⟩) b2 o2 L.length c2 k rfl hlt
    have hsp:sameP p p=true:=(sameP_iff _ _).2 rfl
    have HY:=fun w' (h:Below wr.heap.size wr w')=>show w'.rangeAt b2 (o2+k*23) (prdV p B d) from prds_range (s2.later (Nat.le_refl _) h) (fun x hx=>(e2 x hx).later (Nat.le_refl _) h) hy
    have hzX:=Lib.hid (show (Tryz.prog.info? 31).map (·.size)=some (prdV p A c).length by rw[length_prdV p hpo.net.a];exact size_prd)
    have hzY:=Lib.hid (show (Tryz.prog.info? 31).map (·.size)=some (prdV p B d).length by rw[length_prdV p hpo.net.a];exact size_prd)
    have hzX3:=Lib.hid (show (Tryz.prog.info? 31).map (·.size)=some (prdV p A c).toArray.size by rw[List.size_toArray,length_prdV p hpo.net.a];exact size_prd)
    have h23:=Lib.hid (show 23=(prdV p A c).toArray.size by rw[List.size_toArray,length_prdV p hpo.net.a])
    have hX1:=Lib.hid (prdV_one p A c)
    have HS:=fun w' (h:Below wr.heap.size wr w')=>rsame17_any p p A B c d w' (a1.later (Nat.le_refl _) h) (a2.later (Nat.le_refl _) h)
    rw[hsp] at HS
    have HCK:=fun w' (h:Below wr.heap.size wr w')=>gcheck_any p A c w' (a1.later (Nat.le_refl _) h) (hE0.next h)
    rw[decide_eq_false hpt] at HCK
    have HH:=fun w' (h:Below wr.heap.size wr w')=>gholds_any p A c (askR r b) t w' (a1.later (Nat.le_refl _) h) HOK.out htt (hE0.next h)
    rw[hph,←HQ2.out] at HH
    have HT:=fun w' (h:Below wr.heap.size wr w')=>gtxt_any p A c w' (a1.later (Nat.le_refl _) h) (hE0.next h)
    have HG:=fun w' (h:Below wr.heap.size wr w')=>gtext_any (textP p) (by have:=text_len18 p;omega) (askR r b) t w' HOK.out htt (hE0.next h)
    rw[text_holds p hpo hpt,hph,←HQ2.out] at HG
    have HCL:=fun w' (h:Below wr.heap.size wr w')=>HCE.out w' _ (q1.later h q1.lt)
    generalize bstr (textP p)=TX at *
    obtain⟨X,hX⟩:∃X,X=prdV p A c:=⟨_,rfl⟩
    obtain⟨Y,hY⟩:∃Y,Y=prdV p B d:=⟨_,rfl⟩
    rw[←hX] at hra hzX hzX3 h23 hX1 HS HCK HH HT
    rw[←hY] at HY hzY HS
    have HY0:=Lib.hid HY
    have HS0:=Lib.hid HS
    have HCK0:=Lib.hid HCK
    have HH0:=Lib.hid HH
    have HT0:=Lib.hid HT
    have HG0:=Lib.hid HG
    have HCL0:=Lib.hid HCL
    clear HY HS HCK HH HT HG HCL
    clear hX hY hpx hpy hx hy hpo hpt hph hsp a1 a2
    go_wp2_with (first
     | ((with_reducible refine wpList_step fun K hK=>?_);refine step_load_mid (some 31) rfl (by rfl) 31 (.tmp 30) rfl b1 (o1+k*23) rfl X _ hra Tryz.underlying31 rfl hzX.out ?_;refine hK _ _ ?_;clear hK)
     | (have _t:=hra;refine wpList_store_row rfl 31 (.tmp 7) (.tmp 31) rfl wr.heap.size X.toArray rfl rfl 31 _ (heap_alloc_new wr _) hzX3.out h23.out hX1.out ?_;refine Hid.out ?_))
    refine Lib.hid ?_
    generalize hww:World.setRow _ _ _=wx
    obtain⟨z1,hq⟩:=row_new_set (xs:=X) hww
    have HY:=Lib.hid (fun w' (h:Below wx.heap.size wx w')=>HY0.out w' (hq.trans (h.mono hq.size)))
    have HS:=Lib.hid (fun w' (h:Below wx.heap.size wx w')=>HS0.out w' (hq.trans (h.mono hq.size)))
    have HCK:=Lib.hid (fun w' (h:Below wx.heap.size wx w')=>HCK0.out w' (hq.trans (h.mono hq.size)))
    have HH:=Lib.hid (fun w' (h:Below wx.heap.size wx w')=>HH0.out w' (hq.trans (h.mono hq.size)))
    have HT:=Lib.hid (fun w' (h:Below wx.heap.size wx w')=>HT0.out w' (hq.trans (h.mono hq.size)))
    have HG:=Lib.hid (fun w' (h:Below wx.heap.size wx w')=>HG0.out w' (hq.trans (h.mono hq.size)))
    have HCL:=Lib.hid (fun w' (h:Below wx.heap.size wx w')=>HCL0.out w' (hq.trans (h.mono hq.size)))
    have hE0:=hE0.next hq
    have q1:=q1.later hq q1.lt
    have x1:=x1.later hq x1.lt
    have s1:=s1.later (Nat.le_refl _) hq
    have s2:=s2.later (Nat.le_refl _) hq
    have e1:=fun x hx=>(e1 x hx).later (Nat.le_refl _) hq
    have e2:=fun x hx=>(e2 x hx).later (Nat.le_refl _) hq
    have hb0:=hb0.trans (hq.mono hb0.size)
    clear hq
    clear hww hra HY0 HS0 HCK0 HH0 HT0 HG0 HCL0
    generalize wr.heap.size=g9 at *
    go_wp2
    refine wp_region_noPanic ?_
    refine wp_region_held_drew (S:=fun w'=>Below wx.heap.size wx w') (by kernel_rfl) ((Below.refl _ _).drew) (fun hHeld=>?_)
    have hB:=hHeld
    refine rtake 0 _ (some 32) _ rfl rfl (by kernel_rfl) (by kernel_rfl) (by kernel_rfl) (fun _ _ _ h=>h) (by rfl) hHeld (by intro w hS;exact run_load_op 31 (.tmp 7) rfl _ 0 rfl X _ (row_range (z1.later hS z1.lt)) Tryz.underlying31 rfl hzX.out) ?_
    try (first | (rw[put_some];dsimp only[List.set]) | rw[put_none])
    refine rtake 1 _ (some 33) _ rfl rfl (by kernel_rfl) (by kernel_rfl) (by kernel_rfl) (fun _ _ _ h=>h) (by rfl) hHeld (by intro w hS;go_simp;try with_reducible rfl) ?_
    try (first | (rw[put_some];dsimp only[List.set]) | rw[put_none])
    refine rtake 2 _ (some 34) _ rfl rfl (by kernel_rfl) (by kernel_rfl) (by kernel_rfl) (fun _ _ _ h=>h) (by rfl) hHeld (by intro w hS;go_simp;try with_reducible rfl) ?_
    try (first | (rw[put_some];dsimp only[List.set]) | rw[put_none])
    refine rtake 3 _ (some 35) _ rfl rfl (by kernel_rfl) (by kernel_rfl) (by kernel_rfl) (fun _ _ _ h=>h) (by rfl) hHeld (by intro w hS;go_simp;try with_reducible rfl) ?_
    try (first | (rw[put_some];dsimp only[List.set]) | rw[put_none])
    refine rtake 4 _ (some 36) _ rfl rfl (by kernel_rfl) (by kernel_rfl) (by kernel_rfl) (fun _ _ _ h=>h) (by rfl) hHeld (by intro w hS;exact run_load_op 31 (.tmp 35) rfl b2 (o2+k*23) rfl Y _ (HY.out w hS) Tryz.underlying31 rfl hzY.out) ?_
    try (first | (rw[put_some];dsimp only[List.set]) | rw[put_none])
    refine wpAnyH_ready (rs:=[5]) (by kernel_rfl) (by simp) (AllReadyH.cons (o:=_) rfl (fun K hK=>?_) AllReadyH.nil)
    go_simp
    refine (HS.out _ hB).mono ?_;rintro e wwx5 ⟨rfl,hqwx5⟩
    try go_wp2_with fail
    refine hK.out _ _ (hHeld.trans (hqwx5.mono hHeld.size)) (fun hHeld'=>?_)
    clear hK K
    try (first | (rw[put_some];dsimp only[List.set]) | rw[put_none])
    have hB:=below_step hB hqwx5
    have hB5:Below wwx5.heap.size wwx5 wwx5:=Below.refl _ _
    refine wpAnyH_narrow (S':=fun w'=>Below wwx5.heap.size wwx5 w') (fun _ h=>(hHeld.trans (hqwx5.mono hHeld.size)).trans (h.mono (hHeld.trans (hqwx5.mono hHeld.size)).size)) _ _ _ _ ?_
    clear hHeld
    have hHeld:Below wwx5.heap.size wwx5 wwx5:=Below.refl _ _
    refine rtake 6 _ (some 38) _ rfl rfl (by kernel_rfl) (by kernel_rfl) (by kernel_rfl) (fun _ _ _ h=>h) (by rfl) hHeld (by intro w hS;go_simp;try with_reducible rfl) ?_
    try (first | (rw[put_some];dsimp only[List.set]) | rw[put_none])
    refine rtake 7 _ (some 39) _ rfl rfl (by kernel_rfl) (by kernel_rfl) (by kernel_rfl) (fun _ _ _ h=>h) (by rfl) hHeld (by intro w hS;go_simp;try with_reducible rfl) ?_
    try (first | (rw[put_some];dsimp only[List.set]) | rw[put_none])
    refine rtake 8 _ (some 40) _ rfl rfl (by kernel_rfl) (by kernel_rfl) (by kernel_rfl) (fun _ _ _ h=>h) (by rfl) hHeld (by intro w hS;exact run_load_op 31 (.tmp 7) rfl _ 0 rfl X _ (row_range (z1.later (hB.trans (hS.mono hB.size)) z1.lt)) Tryz.underlying31 rfl hzX.out) ?_
    try (first | (rw[put_some];dsimp only[List.set]) | rw[put_none])
    refine wpAnyH_ready (rs:=[9]) (by kernel_rfl) (by simp) (AllReadyH.cons (o:=_) rfl (fun K hK=>?_) AllReadyH.nil)
    go_simp
    refine (HCK.out _ hB).mono ?_;rintro e wwx9 ⟨rfl,hqwx9⟩
    try go_wp2_with fail
    refine hK.out _ _ (hHeld.trans (hqwx9.mono hHeld.size)) (fun hHeld'=>?_)
    clear hK K
    try (first | (rw[put_some];dsimp only[List.set]) | rw[put_none])
    have hB:=below_step hB hqwx9
    have hB5:=below_step hB5 hqwx9
    have hB9:Below wwx9.heap.size wwx9 wwx9:=Below.refl _ _
    refine wpAnyH_narrow (S':=fun w'=>Below wwx9.heap.size wwx9 w') (fun _ h=>(hHeld.trans (hqwx9.mono hHeld.size)).trans (h.mono (hHeld.trans (hqwx9.mono hHeld.size)).size)) _ _ _ _ ?_
    clear hHeld
    have hHeld:Below wwx9.heap.size wwx9 wwx9:=Below.refl _ _
    refine rtake 10 _ (some 42) _ rfl rfl (by kernel_rfl) (by kernel_rfl) (by kernel_rfl) (fun _ _ _ h=>h) (by rfl) hHeld (by intro w hS;go_simp;try with_reducible rfl) ?_
    try (first | (rw[put_some];dsimp only[List.set]) | rw[put_none])
    refine rtake 11 _ (some 43) _ rfl rfl (by kernel_rfl) (by kernel_rfl) (by kernel_rfl) (fun _ _ _ h=>h) (by rfl) hHeld (by intro w hS;go_simp;try with_reducible rfl) ?_
    try (first | (rw[put_some];dsimp only[List.set]) | rw[put_none])
    refine rtake 12 _ (some 44) _ rfl rfl (by kernel_rfl) (by kernel_rfl) (by kernel_rfl) (fun _ _ _ h=>h) (by rfl) hHeld (by intro w hS;go_simp;try with_reducible rfl) ?_
    try (first | (rw[put_some];dsimp only[List.set]) | rw[put_none])
    refine rtake 13 _ (some 45) _ rfl rfl (by kernel_rfl) (by kernel_rfl) (by kernel_rfl) (fun _ _ _ h=>h) (by rfl) hHeld (by intro w hS;exact run_load_op 31 (.tmp 7) rfl _ 0 rfl X _ (row_range (z1.later (hB.trans (hS.mono hB.size)) z1.lt)) Tryz.underlying31 rfl hzX.out) ?_
    try (first | (rw[put_some];dsimp only[List.set]) | rw[put_none])
    refine rtake 14 _ (some 46) _ rfl rfl (by kernel_rfl) (by kernel_rfl) (by kernel_rfl) (fun _ _ _ h=>h) (by rfl) hHeld (by intro w hS;exact run_load_op 33 (.tmp 3) rfl _ 0 rfl Q2 _ (row_range (x1.later (hB.trans (hS.mono hB.size)) x1.lt)) Tryz.underlying33 rfl hzQ2.out) ?_
    try (first | (rw[put_some];dsimp only[List.set]) | rw[put_none])
    refine rtake 15 _ (some 47) _ rfl rfl (by kernel_rfl) (by kernel_rfl) (by kernel_rfl) (fun _ _ _ h=>h) (by rfl) hHeld (by intro w hS;go_simp;try with_reducible rfl) ?_
    try (first | (rw[put_some];dsimp only[List.set]) | rw[put_none])
    refine rtake 16 _ (some 48) _ rfl rfl (by kernel_rfl) (by kernel_rfl) (by kernel_rfl) (fun _ _ _ h=>h) (by rfl) hHeld (by intro w hS;have hc:=HCL.out w (hB.trans (hS.mono hB.size));go_simp;try with_reducible rfl) ?_
    try (first | (rw[put_some];dsimp only[List.set]) | rw[put_none])
    refine wpAnyH_ready (rs:=[17]) (by kernel_rfl) (by simp) (AllReadyH.cons (o:=_) rfl (fun K hK=>?_) AllReadyH.nil)
    go_simp
    refine (HH.out _ hB).mono ?_;rintro e wwx17 ⟨rfl,hqwx17⟩
    try go_wp2_with fail
    refine hK.out _ _ (hHeld.trans (hqwx17.mono hHeld.size)) (fun hHeld'=>?_)
    clear hK K
    try (first | (rw[put_some];dsimp only[List.set]) | rw[put_none])
    have hB:=below_step hB hqwx17
    have hB5:=below_step hB5 hqwx17
    have hB9:=below_step hB9 hqwx17
    have hB17:Below wwx17.heap.size wwx17 wwx17:=Below.refl _ _
    refine wpAnyH_narrow (S':=fun w'=>Below wwx17.heap.size wwx17 w') (fun _ h=>(hHeld.trans (hqwx17.mono hHeld.size)).trans (h.mono (hHeld.trans (hqwx17.mono hHeld.size)).size)) _ _ _ _ ?_
    clear hHeld
    have hHeld:Below wwx17.heap.size wwx17 wwx17:=Below.refl _ _
    refine rtake 18 _ (some 50) _ rfl rfl (by kernel_rfl) (by kernel_rfl) (by kernel_rfl) (fun _ _ _ h=>h) (by rfl) hHeld (by intro w hS;go_simp;try with_reducible rfl) ?_
    try (first | (rw[put_some];dsimp only[List.set]) | rw[put_none])
    refine rtake 19 _ (some 51) _ rfl rfl (by kernel_rfl) (by kernel_rfl) (by kernel_rfl) (fun _ _ _ h=>h) (by rfl) hHeld (by intro w hS;go_simp;try with_reducible rfl) ?_
    try (first | (rw[put_some];dsimp only[List.set]) | rw[put_none])
    refine rtake 20 _ (some 52) _ rfl rfl (by kernel_rfl) (by kernel_rfl) (by kernel_rfl) (fun _ _ _ h=>h) (by rfl) hHeld (by intro w hS;go_simp;try with_reducible rfl) ?_
    try (first | (rw[put_some];dsimp only[List.set]) | rw[put_none])
    refine rtake 21 _ (some 53) _ rfl rfl (by kernel_rfl) (by kernel_rfl) (by kernel_rfl) (fun _ _ _ h=>h) (by rfl) hHeld (by intro w hS;exact run_load_op 31 (.tmp 7) rfl _ 0 rfl X _ (row_range (z1.later (hB.trans (hS.mono hB.size)) z1.lt)) Tryz.underlying31 rfl hzX.out) ?_
    try (first | (rw[put_some];dsimp only[List.set]) | rw[put_none])
    refine rtake 23 _ (some 55) _ rfl rfl (by kernel_rfl) (by kernel_rfl) (by kernel_rfl) (fun _ _ _ h=>h) (by rfl) hHeld (by intro w hS;exact run_load_op 33 (.tmp 3) rfl _ 0 rfl Q2 _ (row_range (x1.later (hB.trans (hS.mono hB.size)) x1.lt)) Tryz.underlying33 rfl hzQ2.out) ?_
    try (first | (rw[put_some];dsimp only[List.set]) | rw[put_none])
    refine rtake 24 _ (some 56) _ rfl rfl (by kernel_rfl) (by kernel_rfl) (by kernel_rfl) (fun _ _ _ h=>h) (by rfl) hHeld (by intro w hS;go_simp;try with_reducible rfl) ?_
    try (first | (rw[put_some];dsimp only[List.set]) | rw[put_none])
    refine rtake 25 _ (some 57) _ rfl rfl (by kernel_rfl) (by kernel_rfl) (by kernel_rfl) (fun _ _ _ h=>h) (by rfl) hHeld (by intro w hS;have hc:=HCL.out w (hB.trans (hS.mono hB.size));go_simp;try with_reducible rfl) ?_
    try (first | (rw[put_some];dsimp only[List.set]) | rw[put_none])
    refine wpAnyH_ready (rs:=[22]) (by kernel_rfl) (by simp) (AllReadyH.cons (o:=_) rfl (fun K hK=>?_) AllReadyH.nil)
    go_simp
    refine (HT.out _ hB).mono ?_;rintro e wwx22 ⟨rfl,hqwx22⟩
    try go_wp2_with fail
    refine hK.out _ _ (hHeld.trans (hqwx22.mono hHeld.size)) (fun hHeld'=>?_)
    clear hK K
    try (first | (rw[put_some];dsimp only[List.set]) | rw[put_none])
    have hB:=below_step hB hqwx22
    have hB5:=below_step hB5 hqwx22
    have hB9:=below_step hB9 hqwx22
    have hB17:=below_step hB17 hqwx22
    have hB22:Below wwx22.heap.size wwx22 wwx22:=Below.refl _ _
    refine wpAnyH_narrow (S':=fun w'=>Below wwx22.heap.size wwx22 w') (fun _ h=>(hHeld.trans (hqwx22.mono hHeld.size)).trans (h.mono (hHeld.trans (hqwx22.mono hHeld.size)).size)) _ _ _ _ ?_
    clear hHeld
    have hHeld:Below wwx22.heap.size wwx22 wwx22:=Below.refl _ _
    refine wpAnyH_ready (rs:=[26]) (by kernel_rfl) (by simp) (AllReadyH.cons (o:=_) rfl (fun K hK=>?_) AllReadyH.nil)
    go_simp
    refine (HG.out _ hB).mono ?_;rintro e wwx26 ⟨rfl,hqwx26⟩
    try go_wp2_with fail
    refine hK.out _ _ (hHeld.trans (hqwx26.mono hHeld.size)) (fun hHeld'=>?_)
    clear hK K
    try (first | (rw[put_some];dsimp only[List.set]) | rw[put_none])
    have hB:=below_step hB hqwx26
    have hB5:=below_step hB5 hqwx26
    have hB9:=below_step hB9 hqwx26
    have hB17:=below_step hB17 hqwx26
    have hB22:=below_step hB22 hqwx26
    have hB26:Below wwx26.heap.size wwx26 wwx26:=Below.refl _ _
    refine wpAnyH_narrow (S':=fun w'=>Below wwx26.heap.size wwx26 w') (fun _ h=>(hHeld.trans (hqwx26.mono hHeld.size)).trans (h.mono (hHeld.trans (hqwx26.mono hHeld.size)).size)) _ _ _ _ ?_
    clear hHeld
    have hHeld:Below wwx26.heap.size wwx26 wwx26:=Below.refl _ _
    refine rtake 27 _ (some 59) _ rfl rfl (by kernel_rfl) (by kernel_rfl) (by kernel_rfl) (fun _ _ _ h=>h) (by rfl) hHeld (by intro w hS;go_simp;try with_reducible rfl) ?_
    try (first | (rw[put_some];dsimp only[List.set]) | rw[put_none])
    refine rtake 28 _ (some 60) _ rfl rfl (by kernel_rfl) (by kernel_rfl) (by kernel_rfl) (fun _ _ _ h=>h) (by rfl) hHeld (by intro w hS;go_simp;try with_reducible rfl) ?_
    try (first | (rw[put_some];dsimp only[List.set]) | rw[put_none])
    refine wpAnyH_done (by kernel_rfl) ?_ _
    refine NoPanic.normal ?_
    have hq:=hB
    clear hHeld hB
    have hE0:=hE0.next hq
    have q1:=q1.later hq q1.lt
    have x1:=x1.later hq x1.lt
    have s1:=s1.later (Nat.le_refl _) hq
    have s2:=s2.later (Nat.le_refl _) hq
    have e1:=fun x hx=>(e1 x hx).later (Nat.le_refl _) hq
    have e2:=fun x hx=>(e2 x hx).later (Nat.le_refl _) hq
    have hb0:=hb0.trans (hq.mono hb0.size)
    clear hq
    go_wp2
    go_roundw
    case rel=>exact⟨k+1,by omega,by go_num,q1,x1,s1,e1,s2,e2,hE0,hb0⟩
    case measure=>simp[intOf];omega
   ·obtain rfl:k=L.length:=by omega
    go_wp2
    go_ret
    exact⟨rfl,hb0⟩
end Go.Proofs.YtjieebmcbpdeiaaGreatDoor
