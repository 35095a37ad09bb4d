import Derived.Test.YtcbilopdeiapjaaGreatDoorRgbf
set_option maxHeartbeats 16000000
set_option maxRecDepth 100000
open Go.Proofs.Tryz
namespace Go.Proofs.YtcbilopdeiapjaaGreatDoor
open Go Go.RowKit
theorem u0w:(prog.info? 41).map (·.size)=some 130:=by kernel_rfl
theorem t0U (t:List UInt8) (d:Deal) (ht:t.length=32) (hd:d.Ok) (hc:d.cond.length≤10000) (w:World) (hT:Tabs w) :
  Calls prog 20 #[.agg (byts t).toArray,.agg (g0v d).toArray] w fun e w'=>e=.returned (.agg (cavV (cavD t d)).toArray)∧Below w.heap.size w w':=by
 have htz:=f1D (tagz ht)
 have hkz:=f1D (tagz hd.key)
 have hrz:=f1D (tagz hd.root)
 have haz:=f1D (tagz hd.ask)
 have hvz:=f1D (tagz hd.vault)
 have hlo:=f1D (fun w' h=>x0v d.key d.ask d.root d.cond hd.key hd.ask hd.root hc w' h)
 have hhi:=f1D (fun w' h=>x0u t d.vault d.root ht hd.vault hd.root w' h)
 have HC:cavD t d=⟨true,[],d.party,h0S d.key d.ask d.root d.cond,h0Q t d.vault d.root⟩:=rfl
 generalize h0S d.key d.ask d.root d.cond=L at *
 generalize h0Q t d.vault d.root=HI at *
 have HC:=f1D HC
 generalize cavD t d=CC at *
 have HD:=f1D hd
 clear ht hd hc
 go_enter func20,ntmps20
 go_upto_region 1 with fail
 generalize hw1:World.alloc (World.alloc (World.alloc _ _) _) _=w1
 obtain⟨r1,r2,r3,hb1,-⟩:=i0i (C:=[Value.bool false,.string { data:=#[] },.int .u64 0,.string { data:=#[] },.string { data:=#[] }]) hw1
 clear hw1
 have hlt3:=f1D r3.lt
 refine wp_region_noPanic ?_
 refine wp_region_held_drew (S:=fun w'=>Row w' w.heap.size 23 (byts t)∧Row w' (w.heap.size+1) 41 (g0v d)) (by kernel_rfl) (⟨r1.later ((Below.refl _ _).drew) r1.lt,r2.later ((Below.refl _ _).drew) r2.lt⟩) (fun hHeld=>?_)
 have hB:Below w1.heap.size w1 w1.drew:=(Below.refl _ _).drew
 refine rt 0 5 hHeld ?_
 refine rt 1 6 hHeld ?_ (hy:=by intro w hS;have h1:=s0S hS.2;go_simp;try with_reducible rfl)
 refine rt 2 7 hHeld ?_
 refine rt 3 8 hHeld ?_ (hy:=by intro w hS;exact a0s 23 (.tmp 7) rfl _ 1 rfl (byts d.key) _ (z0s hS.2) underlying23 rfl hkz.out)
 refine rt 4 9 hHeld ?_
 refine rt 5 10 hHeld ?_ (hy:=by intro w hS;exact a0s 23 (.tmp 9) rfl _ 66 rfl (byts d.ask) _ (z0r hS.2 HD.out) underlying23 rfl haz.out)
 refine rt 6 11 hHeld ?_
 refine rt 7 12 hHeld ?_ (hy:=by intro w hS;exact a0s 23 (.tmp 11) rfl _ 33 rfl (byts d.root) _ (n0R hS.2 HD.out) underlying23 rfl hrz.out)
 refine rt 8 13 hHeld ?_
 refine rt 9 14 hHeld ?_ (hy:=by intro w hS;have h1:=n0Q hS.2 HD.out;go_simp;try with_reducible rfl)
 refine rt 11 16 hHeld ?_ (hy:=by intro w hS;exact a0s 23 (.tmp 2) rfl _ 0 rfl (byts t) _ (a0i hS.1) underlying23 rfl htz.out)
 refine rt 12 17 hHeld ?_
 refine rt 13 18 hHeld ?_ (hy:=by intro w hS;exact a0s 23 (.tmp 17) rfl _ 98 rfl (byts d.vault) _ (s0T hS.2 HD.out) underlying23 rfl hvz.out)
 refine rt 14 19 hHeld ?_
 refine rt 15 20 hHeld ?_ (hy:=by intro w hS;exact a0s 23 (.tmp 19) rfl _ 33 rfl (byts d.root) _ (n0R hS.2 HD.out) underlying23 rfl hrz.out)
 refine rc1 10 fun K hK=>?_
 go_simp
 refine (hlo.out _ (hT.later (hb1.trans (hB.mono hb1.size)) (f1F _))).mono ?_;rintro e ww110 ⟨rfl,hqw110⟩
 try go_wp2_with fail
 refine hK.out _ _ ⟨hHeld.1.later hqw110 hHeld.1.lt,hHeld.2.later hqw110 hHeld.2.lt⟩ (fun hHeld=>?_)
 clear hK K
 have hB:=a0a hB hqw110
 have hB10:Below ww110.heap.size ww110 ww110:=Below.refl _ _
 refine rc1 16 fun K hK=>?_
 go_simp
 refine (hhi.out _ (hT.later (hb1.trans (hB.mono hb1.size)) (f1F _))).mono ?_;rintro e ww116 ⟨rfl,hqw116⟩
 try go_wp2_with fail
 refine hK.out _ _ ⟨hHeld.1.later hqw116 hHeld.1.lt,hHeld.2.later hqw116 hHeld.2.lt⟩ (fun hHeld=>?_)
 clear hK K
 have hB:=a0a hB hqw116
 have hB10:=a0a hB10 hqw116
 have hB16:Below ww116.heap.size ww116 ww116:=Below.refl _ _
 refine rt 17 22 hHeld ?_
 refine rc1 18 fun K hK=>?_
 refine a0R none rfl (by rfl) 43 (.tmp 4) (.tmp 22) rfl _ 0 43 _ (cavV ⟨true,[],d.party,L,HI⟩) rfl rfl (r3.later hB r3.lt) (by show 0+5≤5;decide) c0C (g0t _) ?_;intro wf rf hgf;have hBz:=hB
 refine hK.out _ _ ⟨hHeld.1.grown hgf (by omega),hHeld.2.grown hgf (by omega)⟩ (fun hHeld=>?_)
 clear hK K
 rw[a0u]
 refine wpAnyH_done (by kernel_rfl) ?_ _
 refine NoPanic.normal ?_
 have r9:Row wf (w.heap.size+1+1) 43 (cavV CC):=by rw[HC.out];exact rf
 have hb9:=(hb1.trans (hBz.mono hb1.size)).grown hgf (Nat.le_trans hb1.size hBz.size) (fun k h=>by cases h;omega)
 have R9:=f1D (show wf.heap[w.heap.size+1+1]?=some (.cells (cavV CC).toArray 43 (0,0)) from r9)
 have hzC:=f1D (show (prog.info? 43).map (·.size)=some (cavV CC).toArray.size from c0C)
 clear r9 hgf rf hBz hHeld hb1
 go_wp2_with (with_reducible refine bodyPost_ret (results_cell_row rfl _ _ (w.heap.size+1+1) 43 (cavV CC).toArray (0,0) _ rfl R9.out underlying43 rfl hzC.out) rfl ?_)
 try exact⟨rfl,hb9⟩
theorem a1h (t:Tok) (ht:t.Ok) (d:Deal) (hd:d.Ok) (hc:d.cond.length≤10000) (hm:t.cavs.length≤1000000) (hft:({ t with cavs:=t.cavs++[cavD t.tag d] } : Tok).Fit) (A:Option Addr) (c:Nat) (w:World) (hT:Tabs w) (hs:Sl w A (c*5) (t.cavs.flatMap cavV)) :
  Calls prog 10 #[.agg (tokV t A c).toArray,.agg (g0v d).toArray] w (b0L (m0k t d) (d0R t d) w):=by
 obtain⟨Z,hZ⟩:∃Z,Z=tokV b0l none 0:=⟨_,rfl⟩
 have hZl:Z.length=36:=by rw[hZ];exact a0n b0Z none 0
 have hZe:=f1D (hZ.trans ztok)
 have hzZ:=f1D (show (prog.info? 29).map (·.size)=some Z.toArray.size by rw[List.size_toArray,hZl];exact a0I)
 have hZ1:=f1D (show Z.toArray.all (·.oneCell')=true by rw[hZ,List.all_toArray,List.all_eq_true];exact a0X _ _ _)
 obtain⟨X,hX⟩:∃X,X=tokV t A c:=⟨_,rfl⟩
 have hXl:X.length=36:=by rw[hX];exact a0n ht A c
 have hzX:=f1D (show (prog.info? 29).map (·.size)=some X.length by rw[hXl];exact a0I)
 obtain⟨D,hD⟩:∃D,D=g0v d:=⟨_,rfl⟩
 have hzD:=f1D (show (prog.info? 41).map (·.size)=some D.length by rw[hD,o0A hd];exact u0w)
 obtain⟨w1,hw1⟩:∃w1,w1=((w.alloc (.cells X.toArray 29)).alloc (.cells D.toArray 41)).alloc (.cells Z.toArray 29):=⟨_,rfl⟩
 obtain⟨r1,r2,r3,hb1,-⟩:=i0i hw1.symm
 have HW:=f1D (hw1.trans (by rw[hZe.out]))
 have ts:=hs.later (f1F _) hb1
 have hc3:w1.cell? ⟨w.heap.size,3,none⟩=some (.bool t.bound):=by rw[r1.cell,hX];rfl
 have hcd:=f1D (show ∀w',Tabs w'→Calls prog 20 #[.agg (byts t.tag).toArray,.agg D.toArray] w' fun e w''=>e=.returned (.agg (cavV (cavD t.tag d)).toArray)∧Below w'.heap.size w' w'' by rw[hD];exact fun w' h=>t0U t.tag d ht.tag hd hc w' h)
 have had:=f1D (show ∀w',Tabs w'→Sl w' A (c*5) (t.cavs.flatMap cavV)→Calls prog 19 #[.agg X.toArray,.agg (cavV (cavD t.tag d)).toArray] w' (b0L (addT t (cavD t.tag d)) (b0B t (cavD t.tag d)) w') by
  rw[hX];exact fun w' hT h=>b1h t ht (cavD t.tag d) hd.party (by rw[n0K t.tag d hd];omega) hm hft A c w' hT h)
 have hUo:(addT t (cavD t.tag d)).Ok:=by
  unfold addT;split
  ·exact f0U ht hd.party
  ·exact b0Z
 have htz:=f1D (tagz ht.tag)
 have HZ:=f1D hZ
 have HX:=f1D hX
 have HD:=f1D hD
 have HOk:=f1D hd
 have HT:=f1D hT
 have HE:d0R t d=if t.bound=true then 6 else if 512 < d.cond.length then 1 else b0B t (cavD t.tag d):=rfl
 have HG:=f1D (show m0k t d=if d0R t d=0 then c0G t (cavD t.tag d) else b0l from rfl)
 have HA:=f1D (show addT t (cavD t.tag d)=if b0B t (cavD t.tag d)=0 then c0G t (cavD t.tag d) else b0l from rfl)
 have hzc:=a0c d.cond
 have k65:w1.cell? ⟨w.heap.size+1,65,none⟩=some (.string (bstr d.cond)):=n0Q (hD ▸ r2) hd
 rw[←hX,←hD]
 clear hw1 hZ hX hD hs hd ht hc hm hft hT
 have Q3:=f1D (show w1.heap[w.heap.size+1+1]?=some (.cells Z.toArray 29 (0,0)) from r3)
 have tok1:True:=trivial
 generalize addT t (cavD t.tag d)=UU at *
 generalize b0B t (cavD t.tag d)=ee at *
 generalize c0G t (cavD t.tag d)=MM at *
 generalize m0k t d=U at *
 generalize d0R t d=er at *
 cases hbd:t.bound with
 | true =>
  rw[hbd] at hc3 HE
  have e1:er=6:=HE.trans (if_pos rfl)
  have e2:U=b0l:=by rw[HG.out,e1];rfl
  have E1:=f1D e1
  have E2:=f1D e2
  clear r1 r2 r3 ts hXl hZl HE HG HA e1 e2 had hcd hzc k65
  go_enter func10,ntmps10
  go_wp2_with (first
   | (have _t:=tok1;rw[←HW.out];clear tok1)
   | (have _t:=Q3;refine wpList_store_row rfl 29 (.tmp 4) (.tmp 8) rfl (w.heap.size+1+1) Z.toArray rfl (by rw[hZe.out];rfl) 29 Z.toArray Q3.out hzZ.out rfl hZ1.out ?_;refine Hid.out ?_))
  refine f1D ?_
  generalize hw8:World.setRow _ _ _=w8
  obtain⟨r8,hg8⟩:=a0y (show Row w1 (w.heap.size+1+1) 29 Z from Q3.out) hw8
  have hb8:=hb1.grown hg8 hb1.size (fun k h=>by cases h;omega)
  have R8:=f1D (show w8.heap[w.heap.size+1+1]?=some (.cells Z.toArray 29 (0,0)) from r8)
  clear hw8 r8 Q3
  go_wp2_with fail
  exact⟨rfl,_,a0d rfl _ _ (w.heap.size+1+1) 29 Z.toArray (0,0) _ rfl R8.out underlying29 rfl hzZ.out _ rfl,none,0,by rw[E2.out,E1.out,HZ.out];rfl,by rw[E2.out];exact c0x _,(fun a h=>by cases h),hb8⟩
 | false =>
  rw[hbd] at hc3 HE
  replace HE:=HE.trans (if_neg (by decide))
  clear hbd
  by_cases h512:512 < d.cond.length
  ·have h5:(512:Int) < ((bstr d.cond).size:Int):=by rw[hzc];omega
   have e1:er=1:=HE.trans (if_pos h512)
   have e2:U=b0l:=by rw[HG.out,e1];rfl
   have E1:=f1D e1
   have E2:=f1D e2
   clear r1 r2 r3 ts hXl hZl HE HG HA e1 e2 had hcd hzc
   go_enter func10,ntmps10
   go_wp2_with (first
    | (have _t:=tok1;rw[←HW.out];clear tok1)
    | (have _t:=Q3;refine wpList_store_row rfl 29 (.tmp 4) (.tmp 13) rfl (w.heap.size+1+1) Z.toArray rfl (by rw[hZe.out];rfl) 29 Z.toArray Q3.out hzZ.out rfl hZ1.out ?_;refine Hid.out ?_))
   refine f1D ?_
   generalize hw8:World.setRow _ _ _=w8
   obtain⟨r8,hg8⟩:=a0y (show Row w1 (w.heap.size+1+1) 29 Z from Q3.out) hw8
   have hb8:=hb1.grown hg8 hb1.size (fun k h=>by cases h;omega)
   have R8:=f1D (show w8.heap[w.heap.size+1+1]?=some (.cells Z.toArray 29 (0,0)) from r8)
   clear hw8 r8 Q3
   go_wp2_with fail
   exact⟨rfl,_,a0d rfl _ _ (w.heap.size+1+1) 29 Z.toArray (0,0) _ rfl R8.out underlying29 rfl hzZ.out _ rfl,none,0,by rw[E2.out,E1.out,HZ.out];rfl,by rw[E2.out];exact c0x _,(fun a h=>by cases h),hb8⟩
  replace HE:=HE.trans (if_neg h512)
  have h5:¬(512:Int) < ((bstr d.cond).size:Int):=by rw[hzc];omega
  have e2:U=UU:=by rw[HG.out,HA.out,HE]
  rw[←HE,←e2] at had
  rw[←e2] at hUo
  unfold b0L at had
  have hlt3:=f1D r3.lt
  have HZl:=f1D hZl
  clear hXl hZl HE HG HA e2 hzc Q3
  go_enter func10,ntmps10
  go_upto_region 5 with (have _t:=tok1;rw[←HW.out];clear tok1)
  clear k65 h5 h512 hc3 HW
  refine wp_region_noPanic ?_
  refine wp_region_held_drew (S:=fun w'=>Row w' w.heap.size 29 X∧Row w' (w.heap.size+1) 41 D) (by kernel_rfl) (⟨r1.later ((Below.refl _ _).drew) r1.lt,r2.later ((Below.refl _ _).drew) r2.lt⟩) (fun hHeld=>?_)
  have hB:Below w1.heap.size w1 w1.drew:=(Below.refl _ _).drew
  refine rt 0 14 hHeld ?_ (hy:=by intro w hS;exact a0s 29 (.tmp 2) rfl _ 0 rfl X _ (a0i hS.1) underlying29 rfl hzX.out)
  refine rt 1 15 hHeld ?_
  refine rt 2 16 hHeld ?_ (hy:=by intro w hS;exact a0s 23 (.tmp 15) rfl _ 4 rfl (byts t.tag) _ (g0d (A:=A) (c:=c) (HX.out ▸ hS.1)) underlying23 rfl htz.out)
  refine rt 3 17 hHeld ?_ (hy:=by intro w hS;exact a0s 41 (.tmp 3) rfl _ 0 rfl D _ (a0i hS.2) underlying41 rfl hzD.out)
  refine rc1 4 fun K hK=>?_
  go_simp
  refine (hcd.out _ (HT.out.later (hb1.trans (hB.mono hb1.size)) (f1F _))).mono ?_;rintro e ww14 ⟨rfl,hqw14⟩
  try go_wp2_with fail
  refine hK.out _ _ ⟨hHeld.1.later hqw14 hHeld.1.lt,hHeld.2.later hqw14 hHeld.2.lt⟩ (fun hHeld=>?_)
  clear hK K
  have hB:=a0a hB hqw14
  have hB4:Below ww14.heap.size ww14 ww14:=Below.refl _ _
  refine rc1 5 fun K hK=>?_
  go_simp
  refine (had.out _ (HT.out.later (hb1.trans (hB.mono hb1.size)) (f1F _)) (ts.later (f1F _) hB)).mono ?_;rintro e ww15 ⟨B,dd,rfl,s4,hap,hqw15⟩;have hap:=f1D hap;have hgt:=f1D hB.size
  try go_wp2_with fail
  refine hK.out _ _ ⟨hHeld.1.later hqw15 hHeld.1.lt,hHeld.2.later hqw15 hHeld.2.lt⟩ (fun hHeld=>?_)
  clear hK K
  have hB:=a0a hB hqw15
  have hB4:=a0a hB4 hqw15
  have hB5:Below ww15.heap.size ww15 ww15:=Below.refl _ _
  refine rt 6 20 hHeld ?_
  refine rt 7 21 hHeld ?_
  refine rc1 8 fun K hK=>?_
  have hVl:=a0n hUo B dd;refine a0R none rfl (by rfl) 29 (.tmp 4) (.tmp 20) rfl _ 0 29 _ (tokV U B dd) rfl rfl (r3.later hB r3.lt) (by rw[hVl,HZl.out];exact f1F _) (by rw[hVl];exact a0I) (a0X _ _ _) ?_;intro wf rf hgf;have hBz:=hB
  refine hK.out _ _ ⟨hHeld.1.grown hgf (by omega),hHeld.2.grown hgf (by omega)⟩ (fun hHeld=>?_)
  clear hK K
  rw[a0u]
  refine rt 9 5 hHeld ?_
  refine wpAnyH_done (by kernel_rfl) ?_ _
  refine NoPanic.normal ?_
  have hspl:splice Z 0 (tokV U B dd)=tokV U B dd:=by
   unfold splice
   rw[List.take_zero,List.nil_append,Nat.zero_add,List.drop_eq_nil_of_le (by rw[hVl,HZl.out];exact f1F _),List.append_nil]
  rw[hspl] at rf
  have hb9:=(hb1.trans (hBz.mono hb1.size)).grown hgf (Nat.le_trans hb1.size hBz.size) (fun k h=>by cases h;omega)
  have hl3:=hlt3.out
  have hl2:=hb1.size
  have s9:=s4.apart hgf (fun _ a ha=>by have:=hap.out a ha;have:=hgt.out;omega)
  have R9:=f1D (show wf.heap[w.heap.size+1+1]?=some (.cells (tokV U B dd).toArray 29 (0,0)) from rf)
  have hzV:=f1D (show (prog.info? 29).map (·.size)=some (tokV U B dd).toArray.size by rw[List.size_toArray,hVl];exact a0I)
  clear rf hgf hBz hHeld hspl hVl
  go_wp2_with fail
  exact⟨rfl,_,a0d rfl _ _ (w.heap.size+1+1) 29 (tokV U B dd).toArray (0,0) _ rfl R9.out underlying29 rfl hzV.out _ rfl,B,dd,rfl,s9,(fun a ha=>by have:=hap.out a ha;have:=hgt.out;omega),hb9⟩
theorem z0Q (l:List Cav):∀c∈l,capC c≤(l.map capC).sum:=by
 induction l with
 | nil=>intro c h;cases h
 | cons a l ih =>
  intro c h
  rw[List.map_cons,List.sum_cons]
  rcases List.mem_cons.1 h with rfl | h
  ·omega
  ·have:=ih c h;omega
theorem v0S {t:Tok} (h:capT t≤10000) {d:Deal} (hd:d.Ok) (hc:d.cond.length≤600):({ t with cavs:=t.cavs++[cavD t.tag d] } : Tok).Fit:=by
 have h1:=m0x t.cavs
 unfold capT at h
 refine⟨by show t.id.length≤_;omega,by show (t.cavs++[cavD t.tag d]).length≤_;rw[List.length_append];show t.cavs.length+1≤_;omega,fun e he=>?_⟩
 have h3:capC e≤100000:=by
  rcases List.mem_append.1 he with he | he
  ·have:=z0Q t.cavs e he;omega
  ·rw[List.mem_singleton.1 he,n0K t.tag d hd];omega
 unfold capC at h3
 exact⟨by omega,by omega,by omega⟩
theorem u0F (t:Tok) (ht:t.Ok) (hcap:capT t≤10000) (d:Deal) (hd:d.Ok) (hc:d.cond.length≤600) (A:Option Addr) (c:Nat) (w:World) (hT:Tabs w) (hs:Sl w A (c*5) (t.cavs.flatMap cavV)) :
  Calls prog 10 #[.agg (tokV t A c).toArray,.agg (g0v d).toArray] w (b0L (m0k t d) (d0R t d) w) :=
 a1h t ht d hd (by omega) (by have h1:=m0x t.cavs;unfold capT at hcap;omega) (v0S hcap hd hc) A c w hT hs
theorem l0s {P:Program} {w:World} {ops:Array Oper} {rest:List Oper} {o:Oper} {a:Act} {Q:Exit→Act→World→Prop} (hgd:o.guard=none) (ty:TypeId) (ho:o.op=.build ty #[]) (v:Value)
  (hv:(Instr.build ty #[]).run P w=.ok v w) (h:wpList P ops Q rest (a.put o.dst v) w):wpList P ops Q (o :: rest) a w:=by
 refine wpList_plain hgd fun _ hK=>?_
 unfold Oper.wp execOp
 simp only[ho,Sem.run_bind,Sem.run_pure,Result.andThen_ok,List.map_toArray,List.map_nil,hv]
 exact hK _ _ h
theorem l0t {P:Program} {w:World} {ops:Array Oper} {rest:List Oper} {o:Oper} {a:Act} {Q:Exit→Act→World→Prop} (hgd:o.guard=none) (ty:TypeId) (k0:Nat) (x0:Operand) (ho:o.op=.build ty #[(k0,x0)]) (v0 v:Value) (hx0:a.eval x0=v0)
  (hv:(Instr.build ty #[(k0,v0)]).run P w=.ok v w) (h:wpList P ops Q rest (a.put o.dst v) w):wpList P ops Q (o :: rest) a w:=by
 refine wpList_plain hgd fun _ hK=>?_
 unfold Oper.wp execOp
 simp only[ho,Sem.run_bind,Sem.run_pure,Result.andThen_ok,List.map_toArray,List.map_cons,List.map_nil,hx0,hv]
 exact hK _ _ h
def m0y:Deal:=⟨0,b0G,b0G,[97,98,99,100],b0G,b0G⟩
theorem z0q:m0y.Ok:=⟨by decide,rfl,rfl,rfl,rfl⟩
theorem p0X (w:World):(Instr.build 41 #[(3,.string { data:=#[97,98,99,100] })]).run prog w=.ok (.agg (g0v m0y).toArray) w:=by go_simp;rfl
theorem s0J (w:World):(Instr.build 29 #[]).run prog w=.ok (.agg (tokV b0l none 0).toArray) w:=by go_simp;rfl
def cavA:Cav:=cavD b0G m0y
theorem v0y:(h0S b0G b0G b0G [97,98,99,100]).length=100:=i0V _ _ _ _ rfl rfl
theorem l0x:(h0Q b0G b0G b0G).length=96:=i0U _ _ _ rfl rfl
theorem l0g:d0R b0l m0y=0∧m0k b0l m0y=c0G b0l cavA:=by
 have hc:canC cavA=true:=by
  show (decide (([]:List UInt8)=[])&&decide ((h0S b0G b0G b0G [97,98,99,100]).length≤1024)&&decide ((h0Q b0G b0G b0G).length≤1024))=true
  rw[v0y,l0x];rfl
 have h:d0O (c0G b0l cavA)=true:=by
  show (decide ((0:Nat)≤1024)&&decide ((1:Nat)≤64)&&[cavA].all canC)=true
  rw[List.all_cons,hc];rfl
 have e:d0R b0l m0y=0:=by
  unfold d0R b0B
  rw[if_neg (by show ¬false=true;decide),if_neg (by show ¬512 < 4;decide),if_neg (by show ¬false=true;decide)]
  exact if_pos h
 exact⟨e,by unfold m0k;rw[e];rfl⟩
theorem g0K (w:World) (hT:Tabs w):Calls prog 5 #[] w fun e w'=>e=.returned (.bool true)∧Below w.heap.size w w':=by
 have hu:(c0G b0l cavA).Ok:=f0U b0Z (by show (0:Nat) < _;decide)
 have had:=f1D (show Calls prog 10 #[.agg (tokV b0l none 0).toArray,.agg (g0v m0y).toArray] w (b0L (c0G b0l cavA) 0 w) by
  have h:=u0F b0l b0Z (by show (0:Nat)≤_;decide) m0y z0q (by show (4:Nat)≤_;decide) none 0 w hT (c0x w)
  rw[l0g.1,l0g.2] at h
  exact h)
 have hbd:=f1D (p0X w)
 have hbt:=f1D (s0J w)
 unfold b0L at had
 generalize (g0v m0y).toArray=DA at *
 generalize (tokV b0l none 0).toArray=ZA at *
 clear hT
 go_enter func5,ntmps5
 go_wp2_with (first
  | (refine l0s rfl 29 rfl (.agg ZA) hbt.out ?_)
  | (refine l0t rfl 41 3 _ rfl (.string { data:=#[97,98,99,100] }) (.agg DA) rfl hbd.out ?_)
  | (go_at_call 10;refine had.out.mono ?_;rintro e w2 ⟨A,c,rfl,s2,-,hb2⟩;have hVl:=a0n hu A c;have hzV:=f1D (show (prog.info? 29).map (·.size)=some (tokV (c0G b0l cavA) A c).toArray.size by rw[List.size_toArray,hVl];exact a0I);have h36:=f1D (show 36=(tokV (c0G b0l cavA) A c).toArray.size by rw[List.size_toArray,hVl]);have hV1:=f1D (show (tokV (c0G b0l cavA) A c).toArray.all (·.oneCell')=true by rw[List.all_toArray,List.all_eq_true];exact a0X _ _ _);clear hVl)
  | (have _t:=h36;with_reducible refine wpList_store_row rfl 29 (.tmp 1) (.tmp 7) rfl w2.heap.size (tokV (c0G b0l cavA) A c).toArray rfl rfl 29 _ (heap_alloc_new w2 _) hzV.out (Eq.trans (by kernel_rfl) h36.out) hV1.out ?_;refine Hid.out ?_))
 refine f1D ?_
 generalize hw3:World.setRow _ _ _=w3
 obtain⟨r1,hq⟩:=a0v (xs:=tokV (c0G b0l cavA) A c) hw3
 have s3:Sl w3 A (c*5) (cavV cavA++[]):=s2.later (f1F _) hq
 have hb3:=hb2.trans (hq.mono hb2.size)
 obtain⟨b,o,rfl,hb0,hr0⟩:=s3.rd.get (i:=0) (by show (0:Nat) < 5;decide)
 have hc2:w3.cell? ⟨w2.heap.size,2,none⟩=some (.slice (some ⟨b,o,none⟩) 1 c):=by rw[r1.cell];rfl
 have hix:=f0C (some ⟨b,o,none⟩) b o 1 c 0 rfl (by decide)
 have hrg:=s3.range
 have k0:w3.cell? ⟨b,o,none⟩=some (.bool true):=hrg 0 _ rfl
 have k3:w3.cell? ⟨b,o+3,none⟩=some (.string (bstr (h0S b0G b0G b0G [97,98,99,100]))):=hrg 3 _ rfl
 have k4:w3.cell? ⟨b,o+4,none⟩=some (.string (bstr (h0Q b0G b0G b0G))):=hrg 4 _ rfl
 have z3:=a0c (h0S b0G b0G b0G [97,98,99,100])
 have z4:=a0c (h0Q b0G b0G b0G)
 rw[v0y] at z3
 rw[l0x] at z4
 generalize h0S b0G b0G b0G [97,98,99,100]=L at *
 generalize h0Q b0G b0G b0G=HI at *
 generalize bstr L=LB at *
 generalize bstr HI=HB at *
 have z3:(((LB.size:Nat):Int)==100)=true:=by rw[z3];rfl
 have z4:(((HB.size:Nat):Int)==96)=true:=by rw[z4];rfl
 clear hw3 hq s2 s3 r1 hb0 hr0 hrg hb2 hzV h36 hV1 had hbd hbt hu
 go_wp2
 go_ret
 exact⟨rfl,hb3⟩
theorem u0H (root:List UInt8) (hk:root.length=32) (id:List UInt8) (hi:id.length≤2000) (ts:List (List UInt8)) (hn:ts.length≤70) (hts:∀k,k < ts.length→(ts.getD k []).length≤600) (A:Option Addr) (c:Nat) (w:World) (hE:EnvJ w) (hs:Sl w A c (a0F ts)) :
  Calls prog 6 #[.agg (byts root).toArray,.string (bstr id),.slice A ts.length c] w (b0L (disL root id ts).1 (disL root id ts).2 w):=a1m root hk id hi ts hn hts A c w hE hs
theorem c1Y (xs ys:List UInt8) (hx:xs.length=32) (hy:ys.length=32) (w:World):(Op.equalIn 10000 23 (.agg (byts xs).toArray) (.agg (byts ys).toArray)).run prog w=.ok (decide (xs=ys)) w:=by
 obtain⟨i0,hi,_⟩:=info_parts infoByte
 exact j0c 23 32 i0 underlying23 hi xs ys hx hy w
theorem u0r (a b:Cav) (w:World):(Op.equalIn 10000 43 (.agg (cavV a).toArray) (.agg (cavV b).toArray)).run prog w=.ok (decide (a=b)) w:=by
 obtain⟨a1,a2,a3,a4,a5⟩:=a
 obtain⟨b1,b2,b3,b4,b5⟩:=b
 show (Op.equalIn 10000 43 (.agg #[.bool a1,.string (bstr a2),.int .u64 a3,.string (bstr a4),.string (bstr a5)]) (.agg #[.bool b1,.string (bstr b2),.int .u64 b3,.string (bstr b4),.string (bstr b5)])).run prog w=_
 go_simp
 simp only[a0p]
 by_cases h1:a1=b1<;>by_cases h2:a2=b2<;>by_cases h3:a3=b3<;>by_cases h4:a4=b4<;>by_cases h5:a5=b5<;>simp[h1,h2,h3,h4,h5]
 all_goals omega
theorem y0s {cs ds:List Cav} {k:Nat} {a:Cav} (h:cs.take k=ds.take k) (ha:cs[k]?=some a) (hb:ds[k]?=some a):cs.take (k+1)=ds.take (k+1):=by
 rw[List.take_add_one,List.take_add_one,h,ha,hb]
theorem x0K (t u:Tok) (ht:t.Ok) (hu:u.Ok) (A:Option Addr) (c:Nat) (B:Option Addr) (d:Nat) (w:World) (hs:Sl w A (c*5) (t.cavs.flatMap cavV)) (hp:Sl w B (d*5) (u.cavs.flatMap cavV)) (hcl:t.cavs.length≤9223372036854775807) :
  Calls prog 8 #[.agg (tokV t A c).toArray,.agg (tokV u B d).toArray] w fun e w'=>e=.returned (.bool (decide (t=u)))∧Below w.heap.size w w':=by
 have hgt:=i0p t A c
 have hgu:=i0p u B d
 obtain⟨V,hV⟩:∃V,V=tokV t A c:=⟨_,rfl⟩
 obtain⟨U,hU⟩:∃U,U=tokV u B d:=⟨_,rfl⟩
 obtain⟨r0,r1,hb1,hz⟩:=d0Y (w:=w) (A:=V) (B:=U) (tA:=29) (tB:=29) rfl
 rw[←hV,←hU]
 have tt:=(y0B ht (by rw[←hV];exact r0)).range
 have tu:=(y0B hu (by rw[←hU];exact r1)).range
 rw[←hV] at hgt
 rw[←hU] at hgu
 clear hV hU hz
 have hzt:=f1D (show (prog.info? 23).map (·.size)=some (byts t.tag).length by rw[a0t,a0b,ht.tag])
 have hzu:=f1D (show (prog.info? 23).map (·.size)=some (byts u.tag).length by rw[a0t,a0b,hu.tag])
 have hE:=c1Y t.tag u.tag ht.tag hu.tag
 have hne:∀p:Prop,(t=u→p)→¬p→decide (t=u)=false:=fun p h1 h2=>decide_eq_false fun e=>h2 (h1 e)
 have c0:((w.alloc (.cells V.toArray 29)).alloc (.cells U.toArray 29)).cell? ⟨w.heap.size,0,none⟩=some (.int .u64 t.key):=by rw[r0.cell];exact hgt.1
 have c1:((w.alloc (.cells V.toArray 29)).alloc (.cells U.toArray 29)).cell? ⟨w.heap.size,1,none⟩=some (.string (bstr t.id)):=by rw[r0.cell];exact hgt.2.1
 have c2:((w.alloc (.cells V.toArray 29)).alloc (.cells U.toArray 29)).cell? ⟨w.heap.size,2,none⟩=some (.slice A t.cavs.length c):=by rw[r0.cell];exact hgt.2.2.1
 have c3:((w.alloc (.cells V.toArray 29)).alloc (.cells U.toArray 29)).cell? ⟨w.heap.size,3,none⟩=some (.bool t.bound):=by rw[r0.cell];exact hgt.2.2.2
 have d0:((w.alloc (.cells V.toArray 29)).alloc (.cells U.toArray 29)).cell? ⟨w.heap.size+1,0,none⟩=some (.int .u64 u.key):=by rw[r1.cell];exact hgu.1
 have d1:((w.alloc (.cells V.toArray 29)).alloc (.cells U.toArray 29)).cell? ⟨w.heap.size+1,1,none⟩=some (.string (bstr u.id)):=by rw[r1.cell];exact hgu.2.1
 have d2:((w.alloc (.cells V.toArray 29)).alloc (.cells U.toArray 29)).cell? ⟨w.heap.size+1,2,none⟩=some (.slice B u.cavs.length d):=by rw[r1.cell];exact hgu.2.2.1
 have d3:((w.alloc (.cells V.toArray 29)).alloc (.cells U.toArray 29)).cell? ⟨w.heap.size+1,3,none⟩=some (.bool u.bound):=by rw[r1.cell];exact hgu.2.2.2
 have hs1:=hs.later (f1F _) hb1
 have hp1:=hp.later (f1F _) hb1
 have hlt1:=r0.lt
 have hlt2:=r1.lt
 clear hgt hgu hs hp r0 r1
 go_enter func8,ntmps8
 by_cases hK:t.key=u.key
 ·have HK:=f1D hK
  rw[←hK] at d0
  clear hK
  by_cases hI:t.id=u.id
  ·have HI:=f1D hI
   rw[←hI] at d1
   clear hI
   by_cases hB:t.bound=u.bound
   ·have HB:=f1D hB
    rw[←hB] at d3
    clear hB
    by_cases hT:t.tag=u.tag
    ·rw[decide_eq_true hT] at hE
     have HT:=f1D hT
     clear hT
     by_cases hL:t.cavs.length=u.cavs.length
     ·have HL:=f1D hL
      rw[←hL] at d2
      clear hL
      go_wp2_with (first
       | (refine wpList_step fun K hK=>?_;refine b0c (some 27) rfl (by rfl) 23 (.tmp 26) rfl w.heap.size 4 rfl (byts t.tag) _ tt underlying23 rfl hzt.out ?_;refine hK _ _ ?_)
       | (refine wpList_step fun K hK=>?_;refine b0c (some 29) rfl (by rfl) 23 (.tmp 28) rfl (w.heap.size+1) 4 rfl (byts u.tag) _ tu underlying23 rfl hzu.out ?_;refine hK _ _ ?_))
      have HEq:=f1D (fun (h:t.cavs=u.cavs)=>(show t=u from (Tok.ext_iff' t u).2 ⟨HK.out,HI.out,h,HB.out,HT.out⟩))
      have HNe:=f1D (fun (h:t.cavs≠u.cavs)=>hne (t.cavs=u.cavs) (fun e=>by rw[e]) h)
      generalize (w.alloc (.cells V.toArray 29)).alloc (.cells U.toArray 29)=w1 at *
      have hc2:∀w',Below w1.heap.size w1 w'→w'.cell? ⟨w.heap.size,2,none⟩=some (.slice A t.cavs.length c):=fun w' h=>by rw[h.cell (p:=⟨w.heap.size,2,none⟩) hlt1];exact c2
      have hd2:∀w',Below w1.heap.size w1 w'→w'.cell? ⟨w.heap.size+1,2,none⟩=some (.slice B t.cavs.length d):=fun w' h=>by rw[h.cell (p:=⟨w.heap.size+1,2,none⟩) hlt2];exact d2
      have hL:=HL.out
      clear c0 c1 c2 c3 d0 d1 d2 d3 hE hne HK HI HB HT tt tu hzt hzu HL
      generalize t.cavs=cs at *
      generalize u.cavs=ds at *
      go_loopw [44] (fun i wr=>∃k:Nat,k≤cs.length∧i=.int .i64 k∧cs.take k=ds.take k∧Below w1.heap.size w1 wr) (fun i _=>cs.length - (intOf i).toNat)
      case atStart=>exact⟨0,by omega,rfl,rfl,Below.refl _ _⟩
      case round =>
       obtain⟨k,hk,rfl,hsame,hb⟩:=hrel
       by_cases hlt:k < cs.length
       ·obtain⟨a,ha⟩:∃a,cs[k]?=some a:=⟨_,List.getElem?_eq_getElem hlt⟩
        obtain⟨e,he⟩:∃e,ds[k]?=some e:=⟨_,List.getElem?_eq_getElem (by omega)⟩
        obtain⟨b,o,rfl,hb0,hr0⟩:=hs1.rd.get (i:=0) (by rw[b0P];omega)
        clear hb0 hr0
        obtain⟨b',o',rfl,hb0,hr0⟩:=hp1.rd.get (i:=0) (by rw[b0P];omega)
        clear hb0 hr0
        have hix:=f0C (some ⟨b,o,none⟩) b o cs.length c k rfl hlt
        have hiy:=f0C (some ⟨b',o',none⟩) b' o' cs.length d k rfl hlt
        have hrx:=f1D (show ∀w',Below w1.heap.size w1 w'→w'.rangeAt b (o+k*5) (cavV a) from fun w' h=>(hs1.later (f1F _) h).thing (k:=5) (fun _ _=>rfl) k a ha)
        have hry:=f1D (show ∀w',Below w1.heap.size w1 w'→w'.rangeAt b' (o' + k*5) (cavV e) from fun w' h=>(hp1.later (f1F _) h).thing (k:=5) (fun _ _=>rfl) k e he)
        have hzx:=f1D (show (prog.info? 43).map (·.size)=some (cavV a).length from c0C)
        have hzy:=f1D (show (prog.info? 43).map (·.size)=some (cavV e).length from c0C)
        have hE:=u0r a e
        obtain⟨VX,hVX⟩:∃V,V=cavV a:=⟨_,rfl⟩
        obtain⟨VY,hVY⟩:∃V,V=cavV e:=⟨_,rfl⟩
        rw[←hVX] at hrx hzx hE
        rw[←hVY] at hry hzy hE
        clear hVX hVY
        by_cases hae:a=e
        ·have HS:=f1D (y0s hsame ha (by rw[hae];exact he))
         rw[decide_eq_true hae] at hE
         clear hae ha he hsame hs1 hp1
         go_wp2_with fail
         refine wp_region_noPanic ?_
         refine wp_region_held_drew (S:=fun w'=>Below w1.heap.size w1 w') (by kernel_rfl) (hb.drew) (fun hHeld=>?_)
         refine rt 0 47 hHeld ?_
         refine rt 1 48 hHeld ?_
         refine rt 2 49 hHeld ?_
         refine rt 3 50 hHeld ?_
         refine rt 4 51 hHeld ?_ (hy:=by intro w hS;exact a0s 43 (.tmp 50) rfl b (o+k*5) rfl VX _ (hrx.out _ hS) underlying43 rfl hzx.out)
         refine rt 5 52 hHeld ?_
         refine rt 6 53 hHeld ?_
         refine rt 7 54 hHeld ?_
         refine rt 8 55 hHeld ?_
         refine rt 9 56 hHeld ?_ (hy:=by intro w hS;exact a0s 43 (.tmp 55) rfl b' (o' + k*5) rfl VY _ (hry.out _ hS) underlying43 rfl hzy.out)
         refine rt 10 57 hHeld ?_
         refine wpAnyH_done (by kernel_rfl) ?_ _
         refine NoPanic.normal ?_
         go_wp2_with fail
         go_roundw
         case rel=>exact⟨k+1,by omega,by go_num,HS.out,hHeld⟩
         case measure=>simp[intOf];omega
        ·have HF:=f1D (HNe.out (fun h=>hae (by rw[h] at ha;rw[ha] at he;exact Option.some.inj he)))
         rw[decide_eq_false hae] at hE
         clear hae ha he hsame hs1 hp1
         go_wp2_with fail
         refine wp_region_noPanic ?_
         refine wp_region_held_drew (S:=fun w'=>Below w1.heap.size w1 w') (by kernel_rfl) (hb.drew) (fun hHeld=>?_)
         refine rt 0 47 hHeld ?_
         refine rt 1 48 hHeld ?_
         refine rt 2 49 hHeld ?_
         refine rt 3 50 hHeld ?_
         refine rt 4 51 hHeld ?_ (hy:=by intro w hS;exact a0s 43 (.tmp 50) rfl b (o+k*5) rfl VX _ (hrx.out _ hS) underlying43 rfl hzx.out)
         refine rt 5 52 hHeld ?_
         refine rt 6 53 hHeld ?_
         refine rt 7 54 hHeld ?_
         refine rt 8 55 hHeld ?_
         refine rt 9 56 hHeld ?_ (hy:=by intro w hS;exact a0s 43 (.tmp 55) rfl b' (o' + k*5) rfl VY _ (hry.out _ hS) underlying43 rfl hzy.out)
         refine rt 10 57 hHeld ?_
         refine wpAnyH_done (by kernel_rfl) ?_ _
         refine NoPanic.normal ?_
         go_wp2
         go_ret
         exact⟨by rw[HF.out];rfl,hb1.trans (hHeld.mono hb1.size)⟩
       ·obtain rfl:k=cs.length:=by omega
        rw[List.take_length,hL,List.take_length] at hsame
        have HF:=f1D (decide_eq_true (HEq.out hsame))
        clear hlt hk hs1 hp1 hsame HEq HNe
        generalize cs.length=n at *
        go_wp2
        go_ret
        exact⟨by rw[HF.out];rfl,hb1.trans (hb.mono hb1.size)⟩
     ·have HE:=f1D (hne (t.cavs.length=u.cavs.length) (fun e=>by rw[e]) hL)
      have hL':((t.cavs.length:Int)==(u.cavs.length:Int))=false:=by rw[beq_eq_false_iff_ne];omega
      clear hL hs1 hp1 hne
      go_wp2_with (first
       | (refine wpList_step fun K hK=>?_;refine b0c (some 27) rfl (by rfl) 23 (.tmp 26) rfl w.heap.size 4 rfl (byts t.tag) _ tt underlying23 rfl hzt.out ?_;refine hK _ _ ?_)
       | (refine wpList_step fun K hK=>?_;refine b0c (some 29) rfl (by rfl) 23 (.tmp 28) rfl (w.heap.size+1) 4 rfl (byts u.tag) _ tu underlying23 rfl hzu.out ?_;refine hK _ _ ?_))
      go_ret
      exact⟨by rw[HE.out];rfl,hb1⟩
    ·have HE:=f1D (hne _ (fun e=>by rw[e]) hT)
     rw[decide_eq_false hT] at hE
     clear hT hne hs1 hp1
     go_wp2_with (first
      | (refine wpList_step fun K hK=>?_;refine b0c (some 27) rfl (by rfl) 23 (.tmp 26) rfl w.heap.size 4 rfl (byts t.tag) _ tt underlying23 rfl hzt.out ?_;refine hK _ _ ?_)
      | (refine wpList_step fun K hK=>?_;refine b0c (some 29) rfl (by rfl) 23 (.tmp 28) rfl (w.heap.size+1) 4 rfl (byts u.tag) _ tu underlying23 rfl hzu.out ?_;refine hK _ _ ?_))
     go_ret
     exact⟨by rw[HE.out];rfl,hb1⟩
   ·have HE:=f1D (hne _ (fun e=>by rw[e]) hB)
    have hL':(t.bound==u.bound)=false:=by rw[beq_eq_false_iff_ne];exact hB
    clear hB hne hs1 hp1
    go_wp2
    go_ret
    exact⟨by rw[HE.out];rfl,hb1⟩
  ·have HE:=f1D (hne _ (fun e=>by rw[e]) hI)
   have hL':¬(bstr t.id).toList=(bstr u.id).toList:=by rw[a0p,a0p];exact hI
   clear hI hne hs1 hp1
   go_wp2
   go_ret
   exact⟨by rw[HE.out];rfl,hb1⟩
 ·have HE:=f1D (hne _ (fun e=>by rw[e]) hK)
  have hL':¬(t.key:Int)=(u.key:Int):=by omega
  clear hK hne hs1 hp1
  go_wp2
  go_ret
  exact⟨by rw[HE.out];rfl,hb1⟩
structure DisI (w:World) (K:List Value) (ts:List (List UInt8)) (A:Option Addr) (c:Nat) (wx:World):Prop where
 key:Row wx w.heap.size 23 K
 sl:Sl wx A c (a0F ts)
 env:EnvJ wx
 bel:Below w.heap.size w wx
theorem DisI.later {w wx wy:World} {K:List Value} {ts:List (List UInt8)} {A:Option Addr} {c:Nat} (h:DisI w K ts A c wx) (hq:Below wx.heap.size wx wy):DisI w K ts A c wy :=
 ⟨h.key.later hq h.key.lt,h.sl.later (f1F _) hq,h.env.next hq,h.bel.trans (hq.mono h.bel.size)⟩
theorem c1Z (root:List UInt8) (hk:root.length=32) (id:List UInt8) (ts:List (List UInt8)) (A:Option Addr) (c:Nat) (w:World) (hs:Sl w A c (a0F ts)) (hE:EnvJ w) (g1:2000 < id.length) :
  Calls prog 3 #[.agg (byts root).toArray,.string (bstr id),.slice A ts.length c] w fun e w'=>e=.returned (.bool true)∧Below w.heap.size w w':=by
 obtain⟨w1,hw1⟩:∃w1,w1=w.alloc (.cells (byts root).toArray 23):=⟨_,rfl⟩
 have r1:Row w1 w.heap.size 23 (byts root):=by rw[hw1];exact Row.new w _ _
 have hb1:Below w.heap.size w w1:=by rw[hw1];exact (Below.refl _ w).alloc (f1F _) _
 have HW:=f1D hw1
 have I:DisI w (byts root) ts A c w1:=⟨r1,hs.later (f1F _) hb1,hE.next hb1,hb1⟩
 have hsz:((bstr id).size:Int)=(id.length:Int):=by rw[a0c]
 have hkz:=f1D (tagz hk)
 clear hw1 r1 hb1
 have tok1:True:=trivial
 have g1':(2000:Int) < (id.length:Int):=by omega
 go_enter func3,ntmps3
 go_wp2_with (first
  | (have _t:=tok1;rw[←HW.out];clear tok1)
  | (go_at_call 5;refine (g0K _ I.env.tabs).mono ?_;rintro e w2 ⟨rfl,hq⟩;have I:=I.later hq;clear hq))
 go_ret
 exact⟨rfl,I.bel⟩
theorem d1a (root:List UInt8) (hk:root.length=32) (id:List UInt8) (ts:List (List UInt8)) (A:Option Addr) (c:Nat) (w:World) (hs:Sl w A c (a0F ts)) (hE:EnvJ w) (g1:¬2000 < id.length) (g2:70 < ts.length) :
  Calls prog 3 #[.agg (byts root).toArray,.string (bstr id),.slice A ts.length c] w fun e w'=>e=.returned (.bool true)∧Below w.heap.size w w':=by
 obtain⟨w1,hw1⟩:∃w1,w1=w.alloc (.cells (byts root).toArray 23):=⟨_,rfl⟩
 have r1:Row w1 w.heap.size 23 (byts root):=by rw[hw1];exact Row.new w _ _
 have hb1:Below w.heap.size w w1:=by rw[hw1];exact (Below.refl _ w).alloc (f1F _) _
 have HW:=f1D hw1
 have I:DisI w (byts root) ts A c w1:=⟨r1,hs.later (f1F _) hb1,hE.next hb1,hb1⟩
 have hsz:((bstr id).size:Int)=(id.length:Int):=by rw[a0c]
 have hkz:=f1D (tagz hk)
 clear hw1 r1 hb1
 have tok1:True:=trivial
 have g1':¬(2000:Int) < (id.length:Int):=by omega
 have g2':(70:Int) < (ts.length:Int):=by omega
 generalize ts.length=n at *
 go_enter func3,ntmps3
 go_wp2_with (first
  | (have _t:=tok1;rw[←HW.out];clear tok1)
  | (go_at_call 5;refine (g0K _ I.env.tabs).mono ?_;rintro e w2 ⟨rfl,hq⟩;have I:=I.later hq;clear hq))
 go_ret
 exact⟨rfl,I.bel⟩
theorem y0u (root:List UInt8) (hk:root.length=32) (id:List UInt8) (ts:List (List UInt8)) (A:Option Addr) (c:Nat) (w:World) (hs:Sl w A c (a0F ts)) (hE:EnvJ w) (g1:¬2000 < id.length) (g2:¬70 < ts.length) :
  Calls prog 3 #[.agg (byts root).toArray,.string (bstr id),.slice A ts.length c] w fun e w'=>e=.returned (.bool true)∧Below w.heap.size w w':=by
 obtain⟨w1,hw1⟩:∃w1,w1=w.alloc (.cells (byts root).toArray 23):=⟨_,rfl⟩
 have r1:Row w1 w.heap.size 23 (byts root):=by rw[hw1];exact Row.new w _ _
 have hb1:Below w.heap.size w w1:=by rw[hw1];exact (Below.refl _ w).alloc (f1F _) _
 have HW:=f1D hw1
 have I:DisI w (byts root) ts A c w1:=⟨r1,hs.later (f1F _) hb1,hE.next hb1,hb1⟩
 have hsz:((bstr id).size:Int)=(id.length:Int):=by rw[a0c]
 have hkz:=f1D (tagz hk)
 clear hw1 r1 hb1
 have tok1:True:=trivial
 have g1':¬(2000:Int) < (id.length:Int):=by omega
 have g2':¬(70:Int) < (ts.length:Int):=by omega
 have hda:=f1D (fun (hl:∀k,k < ts.length→(ts.getD k []).length≤600) w' h hs=>u0H root hk id (by omega) ts (by omega) hl A c w' h hs)
 have hra:=f1D (fun (hl:∀k,k < ts.length→(ts.getD k []).length≤600) w' hs=>a1D root hk id (by omega) ts (by omega) (fun k h=>by have:=hl k h;omega) A c w' hs)
 have hok:=f1D (m0A root id ts)
 have HTake:=f1D (List.take_length (l:=ts))
 unfold b0L at hda hra
 generalize hn0:ts.length=n at *
 have HN:=f1D hn0
 have hn:n≤70:=by omega
 clear hs hE hk hn0
 go_enter func3,ntmps3
 go_wp2_with (first
  | (have _t:=tok1;rw[←HW.out];clear tok1)
  | (go_at_call 5;refine (g0K _ I.env.tabs).mono ?_;rintro e w2 ⟨rfl,hq⟩;have I:=I.later hq;clear hq))
 go_loopw [25] (fun i wr=>∃k:Nat,k≤n∧i=.int .i64 k∧(∀j,j < k→(ts.getD j []).length≤600)∧DisI w (byts root) ts A c wr) (fun i _=>n - (intOf i).toNat)
 case atStart=>exact⟨0,by omega,rfl,fun j h=>by omega,I⟩
 case round =>
  clear I
  obtain⟨k,hkn,rfl,hall,I⟩:=hrel
  by_cases hlt:k < n
  ·obtain⟨bb,oo,rfl,-,-⟩:=I.sl.rd.get (i:=0) (by rw[a0w,HN.out];omega)
   have hix:=b0w (some ⟨bb,oo,none⟩) bb oo n c k rfl hlt
   have hsc:=c0g I.sl k (by rw[HN.out];exact hlt)
   have hz:=a0c (ts.getD k [])
   generalize hS:ts.getD k []=s at *
   have HS:=f1D hS
   clear hS
   by_cases hl:600 < s.length
   ·have hl':(600:Int) < (s.length:Int):=by omega
    go_wp2
    go_ret
    exact⟨rfl,I.bel⟩
   ·have hl':¬(600:Int) < (s.length:Int):=by omega
    have hall2:∀j,j < k+1→(ts.getD j []).length≤600:=fun j hj=>by
     by_cases h:j < k
     ·exact hall j h
     ·obtain rfl:j=k:=by omega
      rw[HS.out];omega
    clear hall
    go_wp2_with fail
    go_roundw
    case rel=>exact⟨k+1,by omega,by go_num,hall2,I⟩
    case measure=>simp[intOf];omega
  ·obtain rfl:k=n:=by omega
   have hda:=f1D (hda.out (fun j hj=>hall j hj))
   have hra:=f1D (hra.out (fun j hj=>hall j hj))
   have hUU:=hok.out k hkn
   rw[HTake.out] at hUU
   obtain⟨hUo,hUl⟩:=hUU
   generalize disL root id ts=X at *
   obtain⟨U,er⟩:=X
   have hUo:U.Ok:=hUo
   have hUl:U.cavs.length≤k:=hUl
   have hss:=f1D (fun (B:Option Addr) (d:Nat) (B':Option Addr) (d':Nat) (w':World) h h'=>x0K U U hUo hUo B d B' d' w' h h' (by omega))
   simp only[decide_true] at hss
   have K3:=f1D (a0i I.key)
   clear hlt hall hok hUl HTake
   go_wp2_with (first
    | (with_reducible refine wpList_load_mid rfl 23 (.tmp 3) rfl w.heap.size 0 rfl (byts root) _ K3.out underlying23 rfl hkz.out ?_)
    | (go_at_call 6;refine (hda.out _ I.env I.sl).mono ?_;rintro e w4 ⟨B1,d1,rfl,t1,-,hq⟩;have I:=I.later hq;clear hq;have hVl:=a0n hUo B1 d1;have hzV:=f1D (show (prog.info? 29).map (·.size)=some (tokV U B1 d1).toArray.size by rw[List.size_toArray,hVl];exact a0I);have h36:=f1D (show 36=(tokV U B1 d1).toArray.size by rw[List.size_toArray,hVl]);have hV1:=f1D (show (tokV U B1 d1).toArray.all (·.oneCell')=true by rw[List.all_toArray,List.all_eq_true];exact a0X _ _ _);clear hVl)
    | (have _t:=h36;refine wpList_store_row rfl 29 (.tmp 9) (.tmp 38) rfl w4.heap.size (tokV U B1 d1).toArray rfl rfl 29 _ (heap_alloc_new w4 _) hzV.out (Eq.trans (by kernel_rfl) h36.out) hV1.out ?_;refine Hid.out ?_))
   refine f1D ?_
   generalize hww:World.setRow _ _ _=w5
   obtain⟨q1,hq⟩:=a0v (xs:=tokV U B1 d1) hww
   have I:=I.later hq
   have t1:=t1.later (f1F _) hq
   generalize w4.heap.size=b1 at *
   clear hww hq hzV h36 hV1 hda K3
   have K3:=f1D (a0i I.key)
   go_wp2_with (first
    | (with_reducible refine wpList_load_mid rfl 23 (.tmp 3) rfl w.heap.size 0 rfl (byts root) _ K3.out underlying23 rfl hkz.out ?_)
    | (go_at_call 7;refine (hra.out _ I.sl).mono ?_;rintro e w6 ⟨B2,d2,rfl,t2,-,hq⟩;have I:=I.later hq;have t1:=t1.later (f1F _) hq;have q1:=q1.later hq q1.lt;clear hq;have hVl:=a0n hUo B2 d2;have hzV:=f1D (show (prog.info? 29).map (·.size)=some (tokV U B2 d2).toArray.size by rw[List.size_toArray,hVl];exact a0I);have h36:=f1D (show 36=(tokV U B2 d2).toArray.size by rw[List.size_toArray,hVl]);have hV1:=f1D (show (tokV U B2 d2).toArray.all (·.oneCell')=true by rw[List.all_toArray,List.all_eq_true];exact a0X _ _ _);clear hVl)
    | (have _t:=h36;refine wpList_store_row rfl 29 (.tmp 11) (.tmp 45) rfl w6.heap.size (tokV U B2 d2).toArray rfl rfl 29 _ (heap_alloc_new w6 _) hzV.out (Eq.trans (by kernel_rfl) h36.out) hV1.out ?_;refine Hid.out ?_))
   refine f1D ?_
   generalize hww:World.setRow _ _ _=w7
   obtain⟨q2,hq⟩:=a0v (xs:=tokV U B2 d2) hww
   have I:=I.later hq
   have t1:=t1.later (f1F _) hq
   have q1:=q1.later hq q1.lt
   have t2:=t2.later (f1F _) hq
   generalize w6.heap.size=b2 at *
   have hz1:=f1D (show (prog.info? 29).map (·.size)=some (tokV U B1 d1).length by rw[a0n hUo];exact a0I)
   have hz2:=f1D (show (prog.info? 29).map (·.size)=some (tokV U B2 d2).length by rw[a0n hUo];exact a0I)
   have hsm:=f1D (hss.out B1 d1 B2 d2)
   clear hww hq hzV h36 hV1 hra K3 hss hUo
   go_wp2_with (first
    | ((with_reducible refine wpList_step fun K hK=>?_);refine b0c (some 51) rfl (by rfl) 29 (.tmp 9) rfl b1 0 rfl (tokV U B1 d1) _ (a0i q1) underlying29 rfl hz1.out ?_;refine hK _ _ ?_;clear hK)
    | ((with_reducible refine wpList_step fun K hK=>?_);refine b0c (some 52) rfl (by rfl) 29 (.tmp 11) rfl b2 0 rfl (tokV U B2 d2) _ (a0i q2) underlying29 rfl hz2.out ?_;refine hK _ _ ?_;clear hK)
    | (go_at_call 8;refine (hsm.out _ t1 t2).mono ?_;rintro e w8 ⟨rfl,hq⟩;have I:=I.later hq;clear hq))
   go_ret
   exact⟨by first | rfl | simp,I.bel⟩
theorem y0v (root:List UInt8) (hk:root.length=32) (id:List UInt8) (ts:List (List UInt8)) (A:Option Addr) (c:Nat) (w:World) (hs:Sl w A c (a0F ts)) (hE:EnvJ w) :
  Calls prog 3 #[.agg (byts root).toArray,.string (bstr id),.slice A ts.length c] w fun e w'=>e=.returned (.bool true)∧Below w.heap.size w w':=by
 by_cases g1:2000 < id.length
 ·exact c1Z root hk id ts A c w hs hE g1
 by_cases g2:70 < ts.length
 ·exact d1a root hk id ts A c w hs hE g1 g2
 exact y0u root hk id ts A c w hs hE g1 g2
end Go.Proofs.YtcbilopdeiapjaaGreatDoor
