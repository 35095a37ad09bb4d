import Derived.Test.YtjieebmcbpdeiaaGreatDoorRbaq
import Derived.Test.YtjieebmcbpdeiaaGreatDoorRbao
import Derived.Test.YtjieebmcbpdeiaaGreatDoorRbae
import Derived.Test.YtjieebmcbpdeiaaGreatDoorRbab
namespace Go.Proofs.YtjieebmcbpdeiaaGreatDoor
set_option maxRecDepth 100000
open Go Go.RowKit
set_option maxHeartbeats 4000000 in
theorem ptext18_any (s:List UInt8) (hs:s.length≤2000) (r:Req) (t:Nat) (w:World) (hr:r.Ok) (ht:t < 2^64) (hE:EnvQ w) :
  Calls Tryz.prog 10 #[.string (bstr s),.agg (reqV r).toArray,.int .u64 (t:Int)] w fun e w'=>e=.returned (.bool (holdsT s r t))∧Below w.heap.size w w':=by
 have hsR:=Lib.hid (show (Tryz.prog.info? 33).map (·.size)=some (reqV r).length by rw[length_reqV r hr.src];exact size_req)
 have HV:=Lib.hid (show holdsT s r t=((parseP s).isSome&&holdsL ((parseP s).getD zeroP) r t) from rfl)
 generalize holdsT s r t=V at *
 have hpa:=fun w' e=>qparse_any s hs w' e
 unfold GavePrd at hpa
 have hho:=Lib.hid (fun w' A c (h:PrdAt w' ((parseP s).getD zeroP) A c) e=>pholds18_any ((parseP s).getD zeroP) A c r t w' h hr ht e)
 obtain⟨R,hR⟩:∃R,R=reqV r:=⟨_,rfl⟩
 obtain⟨w1,hw1⟩:∃w1,w1=w.alloc (.cells R.toArray 33):=⟨_,rfl⟩
 obtain⟨q1,hb1⟩:=one_box hw1.symm
 have hE:=hE.next hb1
 have HW:=Lib.hid hw1
 rw[←hR] at hsR hho ⊢
 have hpa:=Lib.hid hpa
 generalize holdsL ((parseP s).getD zeroP) r t=hv at *
 generalize hx:(parseP s).getD zeroP=x at *
 generalize (parseP s).isSome=ok at *
 generalize bstr s=S at *
 clear hR hw1 hx
 have tk:True:=trivial
 cases ok
 all_goals
  go_enter Tryz.func10,Tryz.ntmps10
  go_wp2_with (first
   | (go_at_call 21;rw[←HW.out];refine (hpa.out _ hE).mono ?_;rintro e w2 ⟨A,c,rfl,ax,hq⟩;have hE:=hE.next hq;have hl:=length_prdV x ax.ok.net.a A c;have hzX:=Lib.hid (show (Tryz.prog.info? 31).map (·.size)=some (prdV x A c).length by rw[hl];exact size_prd);have hzX2:=Lib.hid (show (Tryz.prog.info? 31).map (·.size)=some (prdV x A c).toArray.size by rw[List.size_toArray,hl];exact size_prd);have h23:=Lib.hid (show 23=(prdV x A c).toArray.size by rw[List.size_toArray,hl]);have hX1:=Lib.hid (prdV_one x A c);clear hl;have q1:=q1.later hq q1.lt;have hb1:=hb1.trans (hq.mono hb1.size);clear hq)
   | (have _t:=tk;refine wpList_store_row rfl 31 (.tmp 7) (.tmp 12) rfl w2.heap.size (prdV x A c).toArray rfl rfl 31 _ (heap_alloc_new w2 _) hzX2.out h23.out hX1.out ?_;refine Hid.out ?_))
  refine Lib.hid ?_
  generalize hww:World.setRow _ _ _=w3
  obtain⟨x1,hq⟩:=row_new_set (xs:=prdV x A c) hww
  have q1:=q1.later hq q1.lt
  have ax:=ax.later (Nat.le_refl _) hq
  have hb1:=hb1.trans (hq.mono hb1.size)
  have hE:=hE.next hq
  clear hww hq
  generalize w2.heap.size=g at *
  have hho:=Lib.hid (hho.out w3 A c ax hE)
  clear ax
  obtain⟨X,hX⟩:∃X,X=prdV x A c:=⟨_,rfl⟩
  rw[←hX] at hho x1 hzX
  clear hX
  go_wp2_with (first
   | ((with_reducible refine wpList_step fun K hK=>?_);refine step_load_mid (some 16) rfl (by rfl) 31 (.tmp 7) rfl g 0 rfl X _ (row_range x1) Tryz.underlying31 rfl hzX.out ?_;refine hK _ _ ?_;clear hK)
   | ((with_reducible refine wpList_step fun K hK=>?_);refine step_load_mid (some 17) rfl (by rfl) 33 (.tmp 4) rfl w.heap.size 0 rfl R _ (row_range q1) Tryz.underlying33 rfl hsR.out ?_;refine hK _ _ ?_;clear hK)
   | (go_at_call 12;refine hho.out.mono ?_;rintro e w4 ⟨rfl,hq⟩;have hb1:=hb1.trans (hq.mono hb1.size);clear hq))
  go_ret
  exact⟨by rw[HV.out];rfl,hb1⟩
def EnvG (w:World):Prop:=EnvQ w
theorem EnvG.next {w w':World} (h:EnvG w) (hb:Below w.heap.size w w'):EnvG w':=EnvQ.next h hb
theorem gtext_any (s:List UInt8) (hs:s.length≤1000) (r:Req) (t:Nat) (w:World) (hr:r.Ok) (ht:t < 2^64) (hE:EnvG w) :
  Calls Tryz.prog 10 #[.string (bstr s),.agg (reqV r).toArray,.int .u64 (t:Int)] w fun e w'=>e=.returned (.bool (holdsT s r t))∧Below w.heap.size w w':=ptext18_any s (by omega) r t w hr ht hE
theorem gholds_any (p:Prd) (A:Option Addr) (c:Nat) (r:Req) (t:Nat) (w:World) (hp:PrdAt w p A c) (hr:r.Ok) (ht:t < 2^64) (hE:EnvG w) :
  Calls Tryz.prog 12 #[.agg (prdV p A c).toArray,.agg (reqV r).toArray,.int .u64 (t:Int)] w fun e w'=>e=.returned (.bool (holdsL p r t))∧Below w.heap.size w w':=pholds18_any p A c r t w hp hr ht hE
abbrev PrdX:=Prd×Option Addr×Nat
def prdX (x:PrdX):List Value:=prdV x.1 x.2.1 x.2.2
structure PrdsOwn (w:World) (base:Nat) (v:Value) (xs:List PrdX):Prop where
 own:w.ownsRow base 31 23 v xs.length (xs.flatMap prdX)
 each:∀x∈xs,PrdAt w x.1 x.2.1 x.2.2
theorem Row.keptT {w w':World} {g t u base k n:Nat} {xs ys:List Value} {v:Value} (h:Row w g t xs) (hown:w.ownsRow base u k v n ys) (hg:w.grownBy w' v.ownBlock) (hne:u≠t):Row w' g t xs:=by
 have hl:=h.lt
 unfold Row at h ⊢
 rw[hg.block g hl ?_]
 ·exact h
 ·intro e
  rcases hown.2 with ⟨rfl,_⟩ | ⟨g',cap,cur,rfl,_,hgc,_⟩
  ·cases e
  ·have e2:g'=g:=by
    have:(Value.slice (some ⟨g',0,none⟩) n cap).ownBlock=some g':=rfl
    rw[this] at e
    exact Option.some.inj e.symm
   subst e2
   rw[h] at hgc
   injection hgc with hgc
   injection hgc with _ hgc _
   exact hne hgc.symm
theorem slice_onep (X:List Value) (h:X.length=23) (w:World):(Instr.buildSlice 44 1 #[(0,.agg X.toArray)]).run Tryz.prog w=.ok (.slice (some ⟨w.heap.size,0,none⟩) 1 1) (w.alloc (.cells X.toArray 31)):=by
 obtain⟨ie,hie,hsz⟩:∃ie,Tryz.prog.info? 31=some ie∧ie.size=23:=by
  have:=size_prd
  cases hi:Tryz.prog.info? 31 with
  | none=>rw[hi] at this;cases this
  | some ie=>rw[hi] at this;exact⟨ie,rfl,Option.some.inj this⟩
 obtain⟨z,hz⟩:∃z,ie.zero=some z:=by
  have:(Tryz.prog.info? 31).map (·.zero.isSome)=some true:=by kernel_rfl
  rw[hie] at this
  exact Option.isSome_iff_exists.1 (Option.some.inj this)
 obtain⟨r,h1,h2,h3⟩:=Great.fill_dense (s:=23) (by omega) [.agg X.toArray] 0 ((Array.range (1*ie.size)).map (z.cells[· % z.cells.size]!))
  (by intro v hv;rw[List.mem_singleton.1 hv];show X.toArray.size=23;rw[List.size_toArray,h])
  (by rw[Array.size_map,Array.size_range,hsz];exact Nat.le_refl _)
 rw[Array.size_map,Array.size_range,hsz] at h2
 have hr:r=X.toArray:=by
  apply Array.ext_getElem?
  intro k
  rw[h3 k]
  by_cases hk:k < 23
  ·rw[if_pos (by simp only[List.length_cons,List.length_nil];omega),show k/23 - 0=0 by omega,show k%23=k by omega]
   rfl
  ·have e2:X.toArray[k]?=none:=Array.getElem?_eq_none (by rw[List.size_toArray,h];omega)
   rw[if_neg (by simp only[List.length_cons,List.length_nil];omega),e2]
   exact Array.getElem?_eq_none (by rw[Array.size_map,Array.size_range,hsz];omega)
 subst hr
 rw[run_buildSlice w _ 31 1 _ X.toArray ie z Tryz.underlying44 hie hz (by rw[hsz];decide) (by rw[hsz];decide) (by rw[hsz];exact hsz ▸ h1)]
end Go.Proofs.YtjieebmcbpdeiaaGreatDoor
