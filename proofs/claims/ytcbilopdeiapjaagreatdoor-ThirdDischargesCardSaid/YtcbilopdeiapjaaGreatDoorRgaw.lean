import Derived.Test.YtcbilopdeiapjaaGreatDoorRgav
set_option maxHeartbeats 16000000
set_option maxRecDepth 100000
open Go.Proofs.Tryz
namespace Go.Proofs.YtcbilopdeiapjaaGreatDoor
open Go Go.RowKit
theorem q0v (a:Adr):∀n∈c0m a,n < 65536:=fun n hn=>Nat.lt_succ_of_le (m0V a n hn)
theorem n0D (a:Adr) (h:a.Ok) (w:World) (hE:Env w) :
  Calls prog 147 #[.agg (adrV a).toArray] w fun e w'=>e=.returned (.string (bstr (a0Y a)))∧Below w.heap.size w w':=by
 obtain⟨w1,hw1⟩:∃w1,w1=w.alloc (.cells (adrV a).toArray 67):=⟨_,rfl⟩
 have hr:Row w1 w.heap.size 67 (adrV a):=by rw[hw1];exact Row.new w _ _
 have hb:Below w.heap.size w w1:=by rw[hw1];exact (Below.refl _ w).alloc (f1F _) _
 have hE1:=hE.next hb
 have hchk:=f1D (i0s a h)
 have hT:=a0i hr
 have hrl:=f1D (fun w' (h:Below w1.heap.size w1 w')=>hr.later h hr.lt)
 have hsz:=f1D (show (prog.info? 67).map (·.size)=some (adrV a).toArray.size by rw[b0b,List.size_toArray,a0m h])
 have hR:=f1D (fun w' (h:Below w1.heap.size w1 w')=>show w'.heap[w.heap.size]?=some (.cells (adrV a).toArray 67 (0,0)) from hr.later h hr.lt)
 have hnu:=f1D (fun w'=>v0i a h w')
 cases hc:b0h a with
 | false =>
  have HT:=f1D (show a0Y a=[] by unfold a0Y;rw[hc];rfl)
  obtain⟨V,hV⟩:∃V,V=adrV a:=⟨_,rfl⟩
  rw[←hV] at hw1 hchk hsz hR ⊢
  rw[hc] at hchk
  clear hV hr hrl hT hnu
  go_enter func147,ntmps147
  subst hw1
  go_wp2_with (first
   | (with_reducible refine wpList_load_row rfl 67 (.tmp 1) rfl w.heap.size rfl 67 V.toArray (0,0) _ (hR.out _ (Below.refl _ _)) underlying67 rfl hsz.out ?_)
   | (go_at_call 200;refine (hchk.out _).mono ?_;rintro e w2 ⟨rfl,hb2⟩;have hb3:=hb.trans (hb2.mono hb.size)))
  go_ret
  exact⟨by rw[HT.out];rfl,hb3⟩
 | true =>
  cases h6:a.v6 with
  | true =>
   have HT:=f1D (show a0Y a=d0M (c0m a) by unfold a0Y;rw[hc,h6];rfl)
   have hC6:=f1D (fun w' (h:Below w1.heap.size w1 w')=>j0R (hrl.out w' h))
   rw[h6] at hC6
   have hst:=f1D (fun w' hE=>n0C (c0m a) (h0W a) (q0v a) w' hE)
   generalize d0M (c0m a)=T at *
   generalize hwV (c0m a)=H at *
   obtain⟨V,hV⟩:∃V,V=adrV a:=⟨_,rfl⟩
   rw[←hV] at hw1 hchk hsz hR hnu ⊢
   rw[hc] at hchk
   clear hV hr hrl hT
   go_enter func147,ntmps147
   subst hw1
   have tok1:True:=trivial
   go_wp2_with (first
    | (have _t:=tok1;with_reducible refine wpList_load_row rfl 67 (.tmp 1) rfl w.heap.size rfl 67 V.toArray (0,0) _ (hR.out _ (Below.refl _ _)) underlying67 rfl hsz.out ?_;clear tok1)
    | (go_at_call 200;refine (hchk.out _).mono ?_;rintro e w2 ⟨rfl,hb2⟩;have hE2:=hE1.next hb2;have hb3:=hb.trans (hb2.mono hb.size);have hc6:=hC6.out w2 hb2;have hR2:=f1D (hR.out w2 hb2))
    | (with_reducible refine wpList_load_row rfl 67 (.tmp 1) rfl w.heap.size rfl 67 V.toArray (0,0) _ hR2.out underlying67 rfl hsz.out ?_)
    | (go_at_call 202;refine (hnu.out _).mono ?_;rintro e w4 ⟨rfl,hb4⟩;have hE4:=hE2.next hb4;have hb4:=hb3.trans (hb4.mono hb3.size))
    | (go_at_call 201;refine (hst.out _ hE4).mono ?_;rintro e w5 ⟨rfl,hb5⟩;have hb5:=hb4.trans (hb5.mono hb4.size)))
   go_ret
   exact⟨by rw[HT.out];rfl,hb5⟩
  | false =>
   have hC6:=f1D (fun w' (h:Below w1.heap.size w1 w')=>j0R (hrl.out w' h))
   rw[h6] at hC6
   have HT:=f1D (show a0Y a=b0i 46 ([(a.b.getD 0 0).toNat,(a.b.getD 1 0).toNat,(a.b.getD 2 0).toNat,(a.b.getD 3 0).toNat].map (numL 10)) by unfold a0Y;rw[hc,h6];simp[b0i])
   have hE0:=f1D (fun w' (hq:Below w1.heap.size w1 w')=>c0P h (hrl.out w' hq) 0 (by omega))
   have hE1':=f1D (fun w' (hq:Below w1.heap.size w1 w')=>c0P h (hrl.out w' hq) 1 (by omega))
   have hE2':=f1D (fun w' (hq:Below w1.heap.size w1 w')=>c0P h (hrl.out w' hq) 2 (by omega))
   have hE3':=f1D (fun w' (hq:Below w1.heap.size w1 w')=>c0P h (hrl.out w' hq) 3 (by omega))
   generalize a.b.getD 0 0=x0 at *
   generalize a.b.getD 1 0=x1 at *
   generalize a.b.getD 2 0=x2 at *
   generalize a.b.getD 3 0=x3 at *
   have hv0:IntKind.u16.wrap (x0.toNat:Int)=(x0.toNat:Int):=by rw[IntKind.wrap_u16];have:=x0.toNat_lt;omega
   have hv1:IntKind.u16.wrap (x1.toNat:Int)=(x1.toNat:Int):=by rw[IntKind.wrap_u16];have:=x1.toNat_lt;omega
   have hv2:IntKind.u16.wrap (x2.toNat:Int)=(x2.toNat:Int):=by rw[IntKind.wrap_u16];have:=x2.toNat_lt;omega
   have hv3:IntKind.u16.wrap (x3.toNat:Int)=(x3.toNat:Int):=by rw[IntKind.wrap_u16];have:=x3.toNat_lt;omega
   have hj:=f1D (fun w' (hE:Env w')=>v0b [x0.toNat,x1.toNat,x2.toNat,x3.toNat] (by simp) (by
    intro n hn
    have h0:=x0.toNat_lt;have h1:=x1.toNat_lt;have h2:=x2.toNat_lt;have h3:=x3.toNat_lt
    simp at hn
    omega) 46 (some ⟨w'.heap.size,0,none⟩) 4 4 rfl (w'.alloc (.cells #[.int .u16 (x0.toNat:Int),.int .u16 (x1.toNat:Int),.int .u16 (x2.toNat:Int),.int .u16 (x3.toNat:Int)] 238)) (hE.next ((Below.refl _ w').alloc (f1F _) _)) (d0c (hwV [x0.toNat,x1.toNat,x2.toNat,x3.toNat]) rfl 4 rfl))
   generalize b0i 46 ([x0.toNat,x1.toNat,x2.toNat,x3.toNat].map (numL 10))=T at *
   obtain⟨V,hV⟩:∃V,V=adrV a:=⟨_,rfl⟩
   rw[←hV] at hw1 hchk hsz hR hnu ⊢
   rw[hc] at hchk
   clear hV hr hrl hT hnu
   go_enter func147,ntmps147
   subst hw1
   go_wp2_with (first
    | (with_reducible refine wpList_load_row rfl 67 (.tmp 1) rfl w.heap.size rfl 67 V.toArray (0,0) _ (hR.out _ (Below.refl _ _)) underlying67 rfl hsz.out ?_)
    | (go_at_call 200;refine (hchk.out _).mono ?_;rintro e w2 ⟨rfl,hb2⟩;have hEn:=hE1.next hb2;have hb3:=hb.trans (hb2.mono hb.size);have hc6:=hC6.out w2 hb2;have hk0:=hE0.out w2 hb2;have hk1:=hE1'.out w2 hb2;have hk2:=hE2'.out w2 hb2;have hk3:=hE3'.out w2 hb2)
    | (go_at_call 203;refine (hj.out _ hEn).mono ?_;rintro e w5 ⟨rfl,hb5⟩;have hb4:=hb3.alloc hb3.size (.cells #[.int .u16 (x0.toNat:Int),.int .u16 (x1.toNat:Int),.int .u16 (x2.toNat:Int),.int .u16 (x3.toNat:Int)] 238);have hb5:=hb4.trans (hb5.mono hb4.size)))
   go_ret
   exact⟨by rw[HT.out];rfl,hb5⟩
attribute [local go_sem] Oper.semAt_some
def d0G (b:Nat) (x:UInt8) (s:List UInt8):List Nat:=if s=[] then [] else ((a0g x s).take 8).map fun p=>(puA b p).1
theorem g0B (b:Nat) (x:UInt8) (s:List UInt8):(d0G b x s).length≤8:=by
 unfold d0G;split
 ·simp
 ·rw[List.length_map,List.length_take];omega
theorem r0K (b:Nat) (x:UInt8) (s:List UInt8):∀n∈d0G b x s,n≤65535:=by
 intro n hn
 unfold d0G at hn
 split at hn
 ·cases hn
 ·obtain⟨p,-,rfl⟩:=List.mem_map.1 hn
  exact (n0d b p).1
def j0o (l:List Nat) (w:World) (e:Ending) (w':World):Prop:=∃v,e=.returned v∧w'.ownsRow w.heap.size 238 1 v l.length (hwV l)∧Below w.heap.size w w'
theorem c1f:(prog.info? 238).map (fun i=>(i.zero,i.size,i.bytes))=some (some (.int .u16 0),1,2):=by kernel_rfl
def u0W (w:World) (lo:Nat) (b:Nat) (ps:List (List UInt8)) (m:Nat) (W:World):Prop :=
 (∃v,Boxed W (w.heap.size+1) 240 v∧W.ownsRow lo 238 1 v m (hwV ((ps.take m).map fun p=>(puA b p).1)))∧Boxed W w.heap.size 3 (.int .i64 b)∧Below w.heap.size w W∧lo≤W.heap.size
theorem u0W.calm {w:World} {lo b m own:Nat} {ps:List (List UInt8)} (hown:own < lo) (h1:w.heap.size+1 < own) {X Y:World} {r:Nat} (h:u0W w lo b ps m X) (hg:X.grownBy Y (some r)) (hr:r=own∨(lo≤r∧∃o:Obj,X.heap[r]?=some o∧o.isCells=false)):u0W w lo b ps m Y:=by
 obtain⟨⟨v,hv,ho⟩,hbx,hB,hlo⟩:=h
 refine⟨⟨v,f0m hv hg hr (by omega),r0R ho hg hr hown⟩,f0m hbx hg hr (by omega),hB.grown hg hB.size fun k e=>?_,Nat.le_trans hlo hg.size⟩
 cases e
 rcases hr with rfl | ⟨h,-⟩<;>omega
theorem g0p (b:Nat) (hb:b=10∨b=16) (x:UInt8) (s:List UInt8) (hs:s.length≤100000) (w:World) (hE:Env w) :
  Calls prog 198 #[.string (bstr s),.string (bstr [x]),.int .i64 b] w (j0o (d0G b x s) w):=by
 refine (callsIn_wide (n:=9)).1 ?_
 refine callsIn_of_wp_marks func198 rfl trivial ?_ rfl
 simp only[ntmps198,List.size_toArray,List.length_cons,List.length_nil,Nat.reduceAdd,Nat.reduceSub,Array.replicate_succ,Array.replicate_zero,List.push_toArray,List.append_toArray,List.nil_append,List.cons_append]
 by_cases h0:s=[]
 ·subst h0
  have hne:(bstr []).toList.isEmpty=true:=by rw[a0p];rfl
  generalize bstr []=S at *
  gi_wp2
  refine⟨_,results_tmp rfl _ _ _,_,rfl,?_,(Below.refl _ w).alloc (f1F _) _⟩
  exact World.ownsRow_nil _ _ _ _
 ·have hne:(bstr s).toList.isEmpty=false:=by
   rw[a0p]
   cases s with
   | nil=>exact absurd rfl h0
   | cons _ _=>rfl
  have hsq:=f1D (fun w'=>j0f s x w')
  gi_wp2_with (refine⟨trivial,?_⟩;gi_at_call 143;refine (callsIn_wide.2 (hsq.out _)).mono ?_;rintro e w2 ⟨rfl,hbox,hb2,hz2⟩)
  rw[World.size_alloc,World.size_alloc] at hbox hz2
  have bx0:Boxed w2 w.heap.size 3 (.int .i64 b):=(hb2.block _ (by rw[World.size_alloc,World.size_alloc];omega)).trans ((Boxed.new w 3 (.int .i64 b)).alloc _)
  have bx1:Boxed w2 (w.heap.size+1) 240 (.slice none 0 0):=(hb2.block _ (by rw[World.size_alloc,World.size_alloc];omega)).trans (by
   have:=Boxed.new (w.alloc (.cells #[.int .i64 (b:Int)] 3)) 240 (.slice none 0 0)
   rwa [World.size_alloc] at this)
  have hB2:Below w.heap.size w w2:=(((Below.refl _ w).alloc (f1F _) _).alloc (by rw[World.size_alloc];omega) _).trans (hb2.mono (by rw[World.size_alloc,World.size_alloc];omega))
  clear hb2
  have hsize:(d0w s x).length=(a0g x s).length:=by unfold d0w;rw[List.length_map]
  obtain⟨ps,hps⟩:∃ps,ps=a0g x s:=⟨_,rfl⟩
  have HN:=f1D (show d0G b x s=(ps.take 8).map fun p=>(puA b p).1 by unfold d0G;rw[if_neg h0,hps])
  have hpl:∀p∈ps,p.length≤100000:=fun p hp=>Nat.le_trans (d0H x s p (by rw[←hps];exact hp)) hs
  have hgives:=h0p 8 (by omega) (w.heap.size+1+1) s x hs w2 hbox (by omega)
  refine h0q rfl (by omega) (gf:=234) rfl trivial (enters_of func234 (by kernel_rfl) rfl) hgives (by omega) g0o.trans
   (fun W l o' hl k h1 h2=>World.putObj_heap_other (by omega)) (Below.refl _ _) (fun v hv=>by
    unfold d0w at hv
    obtain⟨p,-,rfl⟩:=List.mem_map.1 hv
    rfl)
   (fun k W=>k≤8∧u0W w w2.heap.size b ps k W) (fun c k W=>(c=.exit 0∧k=9)∧u0W w w2.heap.size b ps 8 W)
   (fun k X Y r h hg hr=>⟨h.1,h.2.calm (by omega) (by omega) hg hr⟩) (fun c k X Y r h hg hr=>⟨h.1,h.2.calm (by omega) (by omega) hg hr⟩)
   ⟨by omega,⟨_,bx1,World.ownsRow_nil _ _ _ _⟩,bx0,hB2,f1F _⟩
   (fun k=>{ tmps:=#[.string (bstr s),.string (bstr [x]),.int .i64 b,undef,undef,.pointer (some ⟨w.heap.size,0,none⟩),.slice none 0 0,.pointer (some ⟨w.heap.size+1,0,none⟩),.string (bstr (ps.getD k [])),undef,undef,.string (bstr s),.bool false,.string (bstr s),.string (bstr [x]),
     .func (.func 234) #[] #[.pointer (some ⟨w.heap.size+1+1+1,0,none⟩),.pointer (some ⟨w.heap.size+1+1,0,none⟩),.pointer (some ⟨w.heap.size+1+1+2,0,none⟩)],.string (bstr (ps.getD k [])),undef,undef,undef,undef,undef,undef,undef,undef,undef,undef,undef,undef,undef,undef,undef],defers:=[] }) ?assign ?body ?done ?stop
  case assign =>
   intro l k v W K hv hK
   have hv:v=#[.string (bstr (ps.getD k []))]:=by
    unfold d0w at hv
    rw[←hps,List.getElem?_map] at hv
    rw[List.getD_eq_getElem?_getD]
    cases hq:ps[k]? with
    | none=>rw[hq] at hv;cases hv
    | some q=>rw[hq] at hv;cases hv;rfl
   subst hv
   clear hps
   gi_wp2
   exact hK
  case body =>
   rintro l k W hk ⟨hk8,⟨v,hv,ho⟩,hbx,hB,hlo⟩
   have hkp:k < ps.length:=by rw[hps,←hsize];exact hk
   clear hps hsize hk hgives hbox hne hsq bx0 bx1 hB2
   obtain⟨A,c,rfl,-,-⟩:=Sl.of_own ho
   have hc:=hv.cell
   have hcb:=hbx.cell
   by_cases h8:k=8
   ·subst h8
    generalize ps.getD 8 []=p
    gi_wp2
    exact⟨KeepsOthers.refl _,⟨rfl,rfl⟩,⟨_,hv,ho⟩,hbx,hB,hlo⟩
   ·have h8':((k:Int)==8)=false:=by simp;omega
    have hp1:(ps.getD k []).length≤100000:=hpl _ (by rw[List.getD_eq_getElem?_getD,List.getElem?_eq_getElem hkp];exact List.getElem_mem hkp)
    have hpu:=f1D (d1U b hb (ps.getD k []) hp1 W (hE.next hB))
    have HS:=f1D (show (ps.take (k+1)).map (fun p=>(puA b p).1)=(ps.take k).map (fun p=>(puA b p).1)++[(puA b (ps.getD k [])).1] by
     rw[List.take_add_one,List.map_append,List.getElem?_eq_getElem hkp,List.getD_eq_getElem?_getD,List.getElem?_eq_getElem hkp];rfl)
    have hq:=(n0d b (ps.getD k [])).1
    generalize (puA b (ps.getD k [])).1=q at *
    have hw16:IntKind.u16.wrap (q:Int)=(q:Int):=by rw[IntKind.wrap_u16];omega
    clear hpl
    generalize ps.getD k []=p at *
    obtain⟨i0,hi,hz0,hz1,hz2'⟩:=info_parts c1f
    have hlow:w.heap.size≤w.heap.size+1∧w.heap.size+1 < w2.heap.size:=by omega
    have n1:k+1≤maxLen:=by unfold maxLen;omega
    have n2:(k+1)*2≤140737488355328:=by omega
    gi_wp2_with (first
     | (refine⟨trivial,?_⟩;gi_at_call 100;refine (CallsIn.inRound l (callsIn_wide.2 hpu.out)).mono ?_;rintro e W2 ⟨ev,rfl,hb2⟩;clear hpu;have hv2:Boxed W2 (w.heap.size+1) 240 (.slice A k c):=(hb2.block _ hv.lt).trans hv;have hc2:=hv2.cell;have ho2:=a0D ho hb2 (f1F _);have hbx2:Boxed W2 w.heap.size 3 (.int .i64 (b:Int)):=(hb2.block _ hbx.lt).trans hbx;have hB2:=hB.trans (hb2.mono hB.size);have hlo2:=Nat.le_trans hlo hb2.size)
     | (gi_at_builtin;have _t:=hb2;refine wpListIn_append_own _ rfl _ _ 240 rfl w2.heap.size 238 i0 (.int .u16 0) 1 2 underlying240 hi hz0 hz1 hz2' rfl (by decide) _ _ _ rfl (ho2.alloc _) ⟨W2.heap.size,0,none⟩ 1 1 [.int .u16 (q:Int)] rfl rfl (cell_one_new _ _ _) (by simp[Value.oneCell']) n1 n2 (by rw[World.size_alloc];omega) ?_;intro v' w3 hown' hgrow _;obtain⟨g',cap',rfl⟩:=ownsRow_succ hown';obtain⟨hv3,hv4,hk4,hb4,ho4,hs4⟩:=a1x (by decide) hv2 ho2 hlo2 hlow hown' hgrow;clear hown' hgrow;have hc3:=hv3.cell;have hf3:=hv3.frozen))
    have e2:hwV ((ps.take k).map fun p=>(puA b p).1)++[.int .u16 (q:Int)]=hwV ((ps.take (k+1)).map fun p=>(puA b p).1):=by rw[HS.out];unfold hwV;rw[List.map_append];rfl
    rw[e2] at ho4
    exact⟨(KeepsOthers.of_grownBy (a0r hb2 none) (fun j o e=>by cases e)).trans hk4,fun j h1 h2=>(hs4 j (by omega) (by omega)).trans (hb2.block j (by omega)),by omega,⟨_,hv4,ho4⟩,
     (hs4 _ (by omega) (by omega)).trans hbx2,hB2.trans hb4,Nat.le_trans hlo2 hb4.size⟩
  case done =>
   rintro D W hD ⟨hk8,⟨v,hv,ho⟩,hbx,hB,hlo⟩ hK
   rw[hsize,←hps] at ho hk8
   have hc:=hv.cell
   have e3:(ps.take ps.length).map (fun p=>(puA b p).1)=d0G b x s:=by rw[HN.out,List.take_length,List.take_of_length_le hk8]
   rw[e3] at ho
   have hnl:(d0G b x s).length=ps.length:=by rw[←e3,List.length_map,List.take_length]
   clear hps hsize hgives hbox hne hsq bx0 bx1 hB2 hpl
   obtain⟨A,c,rfl,-,-⟩:=Sl.of_own ho
   gi_wp2
   refine⟨by simp,.inl ⟨_,_,rfl,run_takeDeferred hK,?_⟩⟩
   refine⟨_,results_tmp rfl _ _ _,_,rfl,?_,hB.trans (belowK_b (w:=w) (f1F _) W D _ _ (by omega) hK rfl rfl)⟩
   rw[hnl]
   exact ownsRow_putObj (j0D ho (by omega)) _ hK rfl
  case stop =>
   rintro D k c W hD hk ⟨⟨rfl,hk9⟩,⟨v,hv,ho⟩,hbx,hB,hlo⟩ hK
   have hc:=hv.cell
   have hkp:k < ps.length:=by rw[hps,←hsize];exact hk
   have hnl:(d0G b x s).length=8:=by rw[HN.out,List.length_map,List.length_take];omega
   rw[←HN.out] at ho
   clear hps hsize hk hgives hbox hne hsq bx0 bx1 hB2 hpl
   obtain⟨A,c,rfl,-,-⟩:=Sl.of_own ho
   gi_wp2
   refine⟨by simp,.inl ⟨_,_,rfl,run_takeDeferred hK,?_⟩⟩
   refine⟨_,results_tmp rfl _ _ _,_,rfl,?_,hB.trans (belowK_b (w:=w) (f1F _) W D _ _ (by omega) hK rfl rfl)⟩
   rw[hnl]
   exact ownsRow_putObj (j0D ho (by omega)) _ hK rfl
def padF (f b:List Nat):List Nat:=(f++List.replicate (8 - f.length) 0).take (8 - b.length)++b
theorem a1f (f b:List Nat) (hf:f.length≤8) (hb:b.length≤8):(padF f b).length=8:=by unfold padF;simp;omega
theorem c1C (f b:List Nat) (hf:∀n∈f,n≤65535) (hb:∀n∈b,n≤65535):∀n∈padF f b,n≤65535:=by
 intro n hn
 unfold padF at hn
 rcases List.mem_append.1 hn with h | h
 ·rcases List.mem_append.1 (List.mem_of_mem_take h) with h | h
  ·exact hf n h
  ·rw[List.eq_of_mem_replicate h];omega
 ·exact hb n h
def cutF (s:List UInt8):List UInt8×List UInt8:=((Lib.cut s [58,58]).1,(Lib.cut s [58,58]).2.1)
def g0a (s:List UInt8):Adr:=sixA (padF (d0G 16 58 (cutF s).1) (d0G 16 58 (cutF s).2))
theorem d1s (s:List UInt8):(cutF s).1.length≤s.length∧(cutF s).2.length≤s.length:=by
 unfold cutF Lib.cut
 split
 ·simp;omega
 ·simp
theorem b1G (g n:Nat) (hn:n≤8):∃A2,(∀W,(Instr.sliceAt 244 (.pointer (some ⟨g,0,none⟩)) (some (.int .i64 (8 - (n:Int)))) none none).run prog W=.ok (.slice A2 n n) W)∧(0 < n→A2=some ⟨g,8 - n,none⟩):=by
 have hal:prog.arrayLen 244=8:=by kernel_rfl
 have hzn:(8 - (n:Int)).toNat=8 - n:=by omega
 by_cases h:n=0
 ·subst h
  refine⟨some ⟨g,0,none⟩,fun W=>?_,fun h=>absurd h (by omega)⟩
  rw[run_sliceAt_array_l W 244 ⟨g,0,none⟩ (by kernel_rfl) .i64 _ (by omega) (by rw[hal];omega),hal]
  rfl
 ·refine⟨some ⟨g,8 - n,none⟩,fun W=>?_,fun _=>rfl⟩
  rw[run_sliceAt_array_l W 244 ⟨g,0,none⟩ (by kernel_rfl) .i64 _ (by omega) (by rw[hal];omega),hal,hzn]
  have e:8 - (8 - n)=n:=by omega
  have h1:¬8=8 - n:=by omega
  go_simp
theorem q0W:(prog.info? 238).map (·.size)=some 1:=by kernel_rfl
theorem u0z (f:List Nat):splice (List.replicate 8 (.int .u16 0)) 0 (hwV f)=hwV (f++List.replicate (8 - f.length) 0):=by
 unfold splice
 rw[List.drop_replicate,a0M]
 unfold hwV
 rw[List.map_append,List.map_replicate,Nat.zero_add]
 rfl
theorem q0Y (l b:List Nat) (h8:l.length=8) (hb:b.length≤8):splice (hwV l) (8 - b.length) (hwV b)=hwV (l.take (8 - b.length)++b):=by
 unfold splice hwV
 rw[List.drop_of_length_le (by simp;omega)]
 simp
theorem j0V (w:World) (n:Nat):Below w.heap.size w (w.drewN n):=by
 induction n with
 | zero=>exact Below.refl _ _
 | succ n ih=>exact ih.drew
theorem y0S (s:List UInt8) (hs:s.length≤100000) (w:World) (hE:Env w) :
  Calls prog 105 #[.string (bstr s),.string ⟨#[58,58]⟩] w fun e w'=>e=.returned (.tuple #[.string (bstr (cutF s).1),.string (bstr (cutF s).2),.bool (Lib.cut s [58,58]).2.2])∧Below w.heap.size w w':=by
 obtain⟨m,hm⟩:=hE.most
 refine (Tryz.strings_Cut (bstr s) (bstr [58,58]) m w (by rw[a0c];omega) hm).mono ?_
 rintro e w' ⟨rfl,n,rfl⟩
 exact⟨rfl,j0V w n⟩
theorem n0B (s:List UInt8) (hs:s.length≤100000) (w:World) (hE:Env w) :
  Calls prog 197 #[.string (bstr s)] w fun e w'=>e=.returned (.agg (adrV (g0a s)).toArray)∧Below w.heap.size w w':=by
 obtain⟨hc1,hc2⟩:=d1s s
 have hcut:=f1D (fun w' hE=>y0S s hs w' hE)
 have hn1:=f1D (fun w' hE=>show Calls prog 198 #[.string (bstr (cutF s).1),.string ⟨#[58]⟩,.int .i64 16] w' (j0o (d0G 16 58 (cutF s).1) w') from g0p 16 (.inr rfl) 58 (cutF s).1 (by omega) w' hE)
 have hn2:=f1D (fun w' hE=>show Calls prog 198 #[.string (bstr (cutF s).2),.string ⟨#[58]⟩,.int .i64 16] w' (j0o (d0G 16 58 (cutF s).2) w') from g0p 16 (.inr rfl) 58 (cutF s).2 (by omega) w' hE)
 have hl1:=g0B 16 58 (cutF s).1
 have hl2:=g0B 16 58 (cutF s).2
 have HA:=f1D (show g0a s=sixA (padF (d0G 16 58 (cutF s).1) (d0G 16 58 (cutF s).2)) from rfl)
 have HL:=f1D (c1C _ _ (r0K 16 58 (cutF s).1) (r0K 16 58 (cutF s).2))
 generalize d0G 16 58 (cutF s).1=f at *
 generalize d0G 16 58 (cutF s).2=b at *
 generalize (Lib.cut s [58,58]).2.2=fd at *
 generalize (cutF s).1=s1 at *
 generalize (cutF s).2=s2 at *
 generalize bstr s=S at *
 obtain⟨w1,hw1⟩:∃w1,w1=w.alloc (.cells (adrV a0K).toArray 67):=⟨_,rfl⟩
 have r1:Row w1 w.heap.size 67 (adrV a0K):=by rw[hw1];exact Row.new w _ _
 have hb1:Below w.heap.size w w1:=by rw[hw1];exact (Below.refl _ w).alloc (f1F _) _
 have hE1:=hE.next hb1
 go_enter func197,ntmps197
 have hm1:=f1D (show (hwV f).length=Nat.min f.length 8 by rw[a0M];exact (Nat.min_eq_left hl1).symm)
 have hm2:=f1D (show (hwV b).length=Nat.min b.length b.length by rw[a0M];exact (Nat.min_self _).symm)
 have hfit1:=f1D (show 0+(hwV f).length≤(List.replicate 8 (Value.int .u16 0)).length by rw[a0M,List.length_replicate];omega)
 obtain⟨pd,hpd⟩:∃pd,pd=f++List.replicate (8 - f.length) 0:=⟨_,rfl⟩
 have hpl:pd.length=8:=by rw[hpd];simp;omega
 have HPl:=f1D hpl
 have HPd:=f1D hpd
 have hfit2:=f1D (show 8 - b.length+(hwV b).length≤(hwV pd).length by rw[a0M,a0M,hpl];omega)
 obtain⟨pq,hpq⟩:∃pq,pq=pd.take (8 - b.length)++b:=⟨_,rfl⟩
 have HPq:=f1D hpq
 have hpf:padF f b=pq:=by rw[hpq,hpd];rfl
 have hql:pq.length=8:=by rw[hpq,List.length_append,List.length_take,hpl];omega
 rw[hpf] at HA HL
 have HQl:=f1D hql
 have hq6:(sixA pq).Ok:=g0c pq hql
 have hsix:=f1D (fun w'=>y0Y pq hql HL.out w')
 have hsl:=f1D (show (prog.info? 244).map (·.size)=some (hwV pq).toArray.size by rw[show (prog.info? 244).map (·.size)=some 8 by kernel_rfl,List.size_toArray,a0M,hql])
 obtain⟨L8,hL8⟩:∃L,L=hwV pq:=⟨_,rfl⟩
 rw[←hL8] at hsix hsl
 have HL8:=f1D hL8
 obtain⟨V,hV⟩:∃V,V=adrV (sixA pq):=⟨_,rfl⟩
 obtain⟨Z,hZ⟩:∃Z,Z=adrV a0K:=⟨_,rfl⟩
 have hsz:=f1D (show (prog.info? 67).map (·.size)=some V.toArray.size by rw[hV,b0b,List.size_toArray,a0m hq6])
 have hV1:=f1D (show V.toArray.all (·.oneCell')=true from b0d (by rw[hV];exact c0O _))
 have hVs:=f1D (show Z.toArray.size=V.toArray.size by rw[hV,hZ,List.size_toArray,List.size_toArray,a0m b0O,a0m hq6])
 rw[←hV] at hsix
 rw[HA.out,←hV]
 have HZ:=f1D hZ
 clear hpl hpd hpq hpf hql hL8 hV hZ hq6 HA HL
 have hbl:(b.length:Int)≤8:=by omega
 have tok1:True:=trivial
 have tok2:True:=trivial
 clear hE hc1 hc2 hs
 go_wp2_with (first
  | (go_at_call 105;change Calls _ _ _ (w.alloc (.cells (adrV a0K).toArray 67)) _;rw[←hw1];refine (hcut.out _ hE1).mono ?_;rintro e w2 ⟨rfl,hb2⟩;have hE2:=hE1.next hb2;have r2:=r1.later hb2 r1.lt;have hb2:=hb1.trans (hb2.mono hb1.size);clear hcut hw1 r1 hE1)
  | (go_at_call 198;have _t:=tok1;refine (hn1.out _ hE2).mono ?_;rintro e w3 ⟨v1,rfl,ho1,hb3⟩;obtain⟨A1,k1,rfl,-,hs1⟩:=Sl.of_own ho1;have hE3:=hE2.next hb3;have r3:=r2.later hb3 r2.lt;have hb3:=hb2.trans (hb3.mono hb2.size);clear hn1 ho1 tok1 r2)
  | (go_at_call 198;have _t:=tok2;refine (hn2.out _ hE3).mono ?_;rintro e w4 ⟨v2,rfl,ho2,hb4⟩;obtain⟨A2,k2,rfl,-,hs2⟩:=Sl.of_own ho2;have r4:=r3.later hb4 r3.lt;have hs1:=hs1.later (f1F _) hb4;have hb4:=hb3.trans (hb4.mono hb3.size);clear hn2 ho2 tok2 r3;obtain⟨A3,hcut8,hA3⟩:=b1G w4.heap.size b.length hl2;have HA3:=f1D hA3;clear hA3;have hp1:=f1D (fun o (h:0 < (hwV f).length)=>(hs1.later (f1F _) ((Below.refl w4.heap.size w4).alloc (f1F _) o)).hpos h))
  | (with_reducible refine wpList_copy_splice rfl (.tmp 19) (.tmp 20) 240 240 rfl 238 underlying240 q0W _ _ _ _ _ _ rfl rfl w4.heap.size 0 (List.replicate 8 (.int .u16 0)) _ (heap_alloc_new w4 _) (hwV f) hm1.out (fun h=>⟨rfl,hp1.out _ h⟩) hfit1.out (m0J _) w4.heap.size w4 ((Below.refl _ _).alloc (f1F _) _) (f1F _) ?_;intro w5 HG5 hb5;rw[u0z,←HPd.out] at HG5;have hp2:=f1D (fun h=>(hs2.later (f1F _) hb5).hpos h))
  | (with_reducible refine wpList_copy_splice rfl (.tmp 25) (.tmp 26) 240 240 rfl 238 underlying240 q0W _ _ _ _ _ _ rfl rfl w4.heap.size (8 - b.length) (hwV pd) _ HG5.out (hwV b) hm2.out (fun h=>⟨HA3.out (by rw[a0M] at h;exact h),hp2.out h⟩) hfit2.out (m0J _) w4.heap.size w4 hb5 (f1F _) ?_;intro w6 HG6 hb6;rw[q0Y _ _ HPl.out hl2,←HPq.out,←HL8.out] at HG6;clear HG5 hp2 hb5)
  | (with_reducible refine wpList_load_row rfl 244 (.tmp 8) rfl w4.heap.size rfl 244 L8.toArray (0,0) _ HG6.out underlying244 rfl hsl.out ?_)
  | (go_at_call 238;refine (hsix.out _).mono ?_;rintro e w7 ⟨rfl,hb7⟩;have r6:=r4.later hb6 r4.lt;have r7:=r6.later hb7 r6.lt;have hb7:=(hb4.trans (hb6.mono hb4.size)).trans (hb7.mono (hb4.trans (hb6.mono hb4.size)).size);have H0:=f1D (show w7.heap[w.heap.size]?=some (.cells Z.toArray 67 (0,0)) by rw[HZ.out];exact r7);clear r4 r6 r7)
  | (with_reducible refine wpList_store_row rfl 67 (.tmp 2) (.tmp 29) rfl w.heap.size V.toArray rfl rfl 67 Z.toArray H0.out hsz.out hVs.out hV1.out ?_;refine Hid.out ?_))
 refine f1D ?_
 generalize hw8:World.setRow _ _ _=w8
 obtain⟨r8,hg8⟩:=a0y (show Row w7 w.heap.size 67 Z from H0.out) hw8
 have hb8:=hb7.grown hg8 hb7.size (fun k h=>by cases h;exact f1F _)
 have R8:=f1D (show w8.heap[w.heap.size]?=some (.cells V.toArray 67 (0,0)) from r8)
 clear hw8 r8 hg8 H0
 go_wp2_with (with_reducible refine bodyPost_ret (results_cell_row rfl _ _ w.heap.size 67 V.toArray (0,0) _ rfl R8.out underlying67 rfl hsz.out) rfl ?_)
theorem n0m {P:Program} {w:World} {ops:Array Oper} {o:Oper} {a:Act} {K:Act→World→Prop} {Q:Exit→Act→World→Prop} {E:Prop} (dst:Option Tmp) (hdst:o.dst=dst) (hgd:Region.wanted o (yielded ops a.tmps)=true) (d s:Operand) (dT sT:TypeId)
  (ho:o.op=.call { callee:=.builtin .copy,args:=#[d,s],argTypes:=#[dT,sT] }) (elem:TypeId) (hu:P.underlying dT=some (.slice elem)) (hsz:(P.info? elem).map (·.size)=some 1)
  (g off dLen dCap:Nat) (sp:Option Addr) (sLen sCap:Nat) (hd:a.eval d=.slice (some ⟨g,off,none⟩) dLen dCap) (hs:a.eval s=.slice sp sLen sCap)
  (t:TypeId) (cur:List Value) (hg:Row w g t cur) (cs:List Value) (n:Nat) (hl:cs.length=n) (hn:n=Nat.min sLen dLen)
  (hpos:0 < cs.length→∃ad,sp=some ad∧∀j v,cs[j]?=some v→w.cell? (ad.add j)=some v) (hfit:off+cs.length≤cur.length) (h1:∀v∈cs,v.oneCell'=true)
  (h:∀w',Row w' g t (splice cur off cs)→w.grownBy w' (some g)→K (a.put dst (goInt n)) w'):if Region.wanted o (yielded ops a.tmps)=true then Oper.wp P o a w K Q else E:=by
 by_cases h0:cs.length=0
 ·obtain rfl:cs=[]:=List.eq_nil_of_length_eq_zero h0
  obtain rfl:n=0:=by simpa using hl.symm
  subst hdst
  rw[if_pos hgd]
  have hrun:=run_copy_none (P:=P) w dT sT o.type elem (some ⟨g,off,none⟩) sp dLen dCap sLen sCap hu hsz hn.symm
  unfold Oper.wp
  simp[execOp,ho,resolve,invoke,builtin,hd,hs,hrun,Result.andThen]
  exact h w (by simpa [splice] using hg) (c0Q _ _)
 ·obtain⟨ad,rfl,hsrc⟩:=hpos (by omega)
  exact d0X dst hdst hgd d s dT sT ho elem hu hsz g off dLen dCap ad sLen sCap hd hs t cur hg cs n hl hn hsrc hfit h1 h
def pad4 (f:List Nat):List Nat:=f.take 4++List.replicate (4 - (f.take 4).length) 0
theorem a1d (f:List Nat):(pad4 f).length=4:=by unfold pad4;rw[List.length_append,List.length_replicate,List.length_take];omega
theorem q0Z (f:List Nat):splice (List.replicate 4 (.int .u16 0)) 0 (hwV (f.take 4))=hwV (pad4 f):=by
 unfold splice pad4
 rw[List.drop_replicate,a0M]
 unfold hwV
 rw[List.map_append,List.map_replicate,Nat.zero_add]
 rfl
def d1x (l:List Nat):Adr:=o0d (UInt8.ofNat (l.getD 0 0)) (UInt8.ofNat (l.getD 1 0)) (UInt8.ofNat (l.getD 2 0)) (UInt8.ofNat (l.getD 3 0))
def d0u (s:List UInt8):Adr:=if 0≤Lib.indexByte s 58 then g0a s else d1x (pad4 (d0G 10 46 s))
theorem q0J (s:List UInt8):(g0a s).Ok:=g0c _ (a1f _ _ (g0B _ _ _) (g0B _ _ _))
theorem n0g (s:List UInt8):(d0u s).Ok:=by
 unfold d0u
 split
 ·exact q0J s
 ·rfl
theorem q0I (s:List UInt8):b0h (d0u s)=true:=by
 unfold d0u
 split
 ·rfl
 ·rfl
theorem v0j (s:List UInt8) (hs:s.length≤100000) (w:World) (hE:Env w) :
  Calls prog 146 #[.string (bstr s)] w fun e w'=>e=.returned (.agg (adrV (d0u s)).toArray)∧Below w.heap.size w w':=by
 have hok:=n0g s
 obtain⟨V,hV⟩:∃V,V=adrV (d0u s):=⟨_,rfl⟩
 obtain⟨Z,hZ⟩:∃Z,Z=adrV a0K:=⟨_,rfl⟩
 have hsz:=f1D (show (prog.info? 67).map (·.size)=some V.toArray.size by rw[hV,b0b,List.size_toArray,a0m hok])
 have hV1:=f1D (show V.toArray.all (·.oneCell')=true from b0d (by rw[hV];exact c0O _))
 have hVs:=f1D (show Z.toArray.size=V.toArray.size by rw[hV,hZ,List.size_toArray,List.size_toArray,a0m b0O,a0m hok])
 have hct:=f1D (fun w'=>Tryz.strings_Contains_one (bstr s) 58 w')
 obtain⟨w1,hw1⟩:∃w1,w1=w.alloc (.cells (adrV a0K).toArray 67):=⟨_,rfl⟩
 have r1:Row w1 w.heap.size 67 Z:=by rw[hw1,hZ];exact Row.new w _ _
 have hb1:Below w.heap.size w w1:=by rw[hw1];exact (Below.refl _ w).alloc (f1F _) _
 have hE1:=hE.next hb1
 rw[←hV]
 by_cases h6:0≤Lib.indexByte s 58
 ·have h6':decide (0≤Lib.indexByte (bstr s).data.toList 58)=true:=decide_eq_true h6
  rw[h6'] at hct
  have hrd:=f1D (fun w' hE=>n0B s hs w' hE)
  rw[show g0a s=d0u s by unfold d0u;rw[if_pos h6],←hV] at hrd
  clear hV hok hZ h6 h6' hE
  generalize bstr s=S at *
  go_enter func146,ntmps146
  go_wp2_with (first
   | (go_at_call 196;change Calls _ _ _ (w.alloc (.cells (adrV a0K).toArray 67)) _;rw[←hw1];clear hw1;refine (hct.out _).mono ?_;rintro e w2 ⟨rfl,rfl⟩)
   | (go_at_call 197;refine (hrd.out _ hE1).mono ?_;rintro e w7 ⟨rfl,hb7⟩;have r7:=r1.later hb7 r1.lt;have hb7:=hb1.trans (hb7.mono hb1.size);have H0:=f1D (show w7.heap[w.heap.size]?=some (.cells Z.toArray 67 (0,0)) from r7);clear r7)
   | (with_reducible refine wpList_store_row rfl 67 (.tmp 2) (.tmp 7) rfl w.heap.size V.toArray rfl rfl 67 Z.toArray H0.out hsz.out hVs.out hV1.out ?_;refine Hid.out ?_))
  refine f1D ?_
  generalize hw8:World.setRow _ _ _=w8
  obtain⟨r8,hg8⟩:=a0y (show Row w7 w.heap.size 67 Z from H0.out) hw8
  have hb8:=hb7.grown hg8 hb7.size (fun k h=>by cases h;exact f1F _)
  have R8:=f1D (show w8.heap[w.heap.size]?=some (.cells V.toArray 67 (0,0)) from r8)
  clear hw8 r8 hg8 H0
  go_wp2_with (with_reducible refine bodyPost_ret (results_cell_row rfl _ _ w.heap.size 67 V.toArray (0,0) _ rfl R8.out underlying67 rfl hsz.out) rfl ?_)
 ·have h6':decide (0≤Lib.indexByte (bstr s).data.toList 58)=false:=decide_eq_false h6
  rw[h6'] at hct
  have hn:=f1D (fun w' hE=>show Calls prog 198 #[.string (bstr s),.string ⟨#[46]⟩,.int .i64 10] w' (j0o (d0G 10 46 s) w') from g0p 10 (.inl rfl) 46 s hs w' hE)
  have hnl:=g0B 10 46 s
  have HF:=f1D (show d0u s=d1x (pad4 (d0G 10 46 s)) by unfold d0u;rw[if_neg h6])
  generalize d0G 10 46 s=f at *
  have hm1:=f1D (show (hwV (f.take 4)).length=Nat.min f.length 4 by rw[a0M,List.length_take];exact Nat.min_comm _ _)
  have hfit1:=f1D (show 0+(hwV (f.take 4)).length≤(List.replicate 4 (Value.int .u16 0)).length by rw[a0M,List.length_replicate,List.length_take];omega)
  have hsp:=f1D (q0Z f)
  have hp4:=a1d f
  obtain⟨x0,hx0⟩:∃x,x=UInt8.ofNat ((pad4 f).getD 0 0):=⟨_,rfl⟩
  obtain⟨x1,hx1⟩:∃x,x=UInt8.ofNat ((pad4 f).getD 1 0):=⟨_,rfl⟩
  obtain⟨x2,hx2⟩:∃x,x=UInt8.ofNat ((pad4 f).getD 2 0):=⟨_,rfl⟩
  obtain⟨x3,hx3⟩:∃x,x=UInt8.ofNat ((pad4 f).getD 3 0):=⟨_,rfl⟩
  have h4:=f1D (fun w'=>u0Z x0 x1 x2 x3 w')
  rw[show o0d x0 x1 x2 x3=d0u s by rw[HF.out,hx0,hx1,hx2,hx3];rfl,←hV] at h4
  have u8w:∀(n:Nat) (x:UInt8),x=UInt8.ofNat n→IntKind.u8.wrap (n:Int)=(x.toNat:Int):=fun n x h=>by rw[h,UInt8.toNat_ofNat',IntKind.wrap_u8];omega
  have hw0:=u8w _ _ hx0
  have hw1':=u8w _ _ hx1
  have hw2:=u8w _ _ hx2
  have hw3:=u8w _ _ hx3
  have hg0:=k0j (pad4 f) 0 (by omega)
  have hg1:=k0j (pad4 f) 1 (by omega)
  have hg2:=k0j (pad4 f) 2 (by omega)
  have hg3:=k0j (pad4 f) 3 (by omega)
  clear hx0 hx1 hx2 hx3 u8w
  generalize (pad4 f).getD 0 0=n0 at *
  generalize (pad4 f).getD 1 0=n1 at *
  generalize (pad4 f).getD 2 0=n2 at *
  generalize (pad4 f).getD 3 0=n3 at *
  have G0:=f1D hg0
  have G1:=f1D hg1
  have G2:=f1D hg2
  have G3:=f1D hg3
  clear hV hok hZ h6 h6' hE hg0 hg1 hg2 hg3 hp4
  generalize bstr s=S at *
  go_enter func146,ntmps146
  go_wp2_with (first
   | (go_at_call 196;change Calls _ _ _ (w.alloc (.cells (adrV a0K).toArray 67)) _;rw[←hw1];clear hw1;refine (hct.out _).mono ?_;rintro e w2 ⟨rfl,rfl⟩))
  obtain⟨w3,hw3e⟩:∃w3,w3=w2.alloc (.cells (List.replicate 4 (.int .u16 0)).toArray 239):=⟨_,rfl⟩
  have rl:Row w3 w2.heap.size 239 (List.replicate 4 (.int .u16 0)):=by rw[hw3e];exact Row.new w2 _ _
  have hb3':Below w2.heap.size w2 w3:=by rw[hw3e];exact (Below.refl _ w2).alloc (f1F _) _
  have hE3:=hE1.next hb3'
  have r3:=r1.later hb3' r1.lt
  have hb3:=hb1.trans (hb3'.mono hb1.size)
  have hlt3:=r1.lt
  change Code.wp _ _ _ _ (w2.alloc (.cells (List.replicate 4 (.int .u16 0)).toArray 239))
  rw[←hw3e]
  clear hw3e hct hb3'
  have HR:=f1D rl
  clear rl
  refine wp_region_noPanic ?_
  refine wp_region_held_drew (S:=fun _=>True) (by kernel_rfl) (trivial) (fun hHeld=>?_)
  refine rt 0 8 hHeld ?_
  refine rt 1 9 hHeld ?_
  refine rc1 2 fun K hK=>?_
  go_simp
  refine (hn.out _ (hE3.next (Below.refl _ _).drew)).mono ?_;rintro e w5 ⟨v5,rfl,ho5,hb5⟩;obtain⟨A5,k5,rfl,-,hs5⟩:=Sl.of_own ho5
  try go_wp2_with fail
  refine hK.out _ _ (trivial) (fun hHeld=>?_)
  clear hK K
  refine rc1 3 fun K hK=>?_
  have hs5':Sl w5 A5 k5 (hwV (f.take 4)):=by unfold hwV;rw[List.map_take];exact hs5.take
  refine n0m (some 11) rfl (by rfl) (.tmp 8) (.tmp 10) 240 240 rfl 238 underlying240 q0W w2.heap.size 0 4 4 _ _ _ rfl rfl 239 _ (HR.out.drew.later hb5 HR.out.lt) (hwV (f.take 4)) _ rfl hm1.out hs5'.hpos hfit1.out (m0J _) ?_;intro w6 hr6 hg6
  refine rk hK (trivial) fun _=>?_
  clear hK K
  refine wpAnyH_done (by kernel_rfl) ?_ _
  refine NoPanic.normal ?_
  rw[hsp.out] at hr6
  have c0:=(hr6.cell 0).trans G0.out
  have c1:=(hr6.cell 1).trans G1.out
  have c2:=(hr6.cell 2).trans G2.out
  have c3:=(hr6.cell 3).trans G3.out
  have r5:Row w5 w.heap.size 67 Z:=r3.drew.later hb5 r3.lt
  have r6:=r5.grown hg6 (by omega)
  have hb6:=(hb3.drew.trans (hb5.mono hb3.size)).grown hg6 (Nat.le_trans hb3.size hb5.size) (fun k h=>by cases h;omega)
  clear hb5 ho5 hg6 r5 hs5 hs5' hHeld HR hr6 hm1 hfit1 hsp
  go_wp2_with (first
   | (go_at_call 199;refine (h4.out _).mono ?_;rintro e w7 ⟨rfl,hb7⟩;have r7:=r6.later hb7 r6.lt;have hb7:=hb6.trans (hb7.mono hb6.size);have H0:=f1D (show w7.heap[w.heap.size]?=some (.cells Z.toArray 67 (0,0)) from r7);clear r7)
   | (with_reducible refine wpList_store_row rfl 67 (.tmp 2) (.tmp 24) rfl w.heap.size V.toArray rfl rfl 67 Z.toArray H0.out hsz.out hVs.out hV1.out ?_;refine Hid.out ?_))
  refine f1D ?_
  generalize hw8:World.setRow _ _ _=w8
  obtain⟨r8,hg8⟩:=a0y (show Row w7 w.heap.size 67 Z from H0.out) hw8
  have hb8:=hb7.grown hg8 hb7.size (fun k h=>by cases h;exact f1F _)
  have R8:=f1D (show w8.heap[w.heap.size]?=some (.cells V.toArray 67 (0,0)) from r8)
  clear hw8 r8 hg8 H0
  go_wp2_with (with_reducible refine bodyPost_ret (results_cell_row rfl _ _ w.heap.size 67 V.toArray (0,0) _ rfl R8.out underlying67 rfl hsz.out) rfl ?_)
theorem b1a:∀d:Nat,d < 16→dvL (hexD d).toNat=d:=by
 intro d hd
 have:d=0∨d=1∨d=2∨d=3∨d=4∨d=5∨d=6∨d=7∨d=8∨d=9∨d=10∨d=11∨d=12∨d=13∨d=14∨d=15:=by omega
 rcases this with rfl | rfl | rfl | rfl | rfl | rfl | rfl | rfl | rfl | rfl | rfl | rfl | rfl | rfl | rfl | rfl<;>decide
theorem l0X (b:Nat) (t:List UInt8):∀(s:List UInt8) (m k:Nat),puL b m s=(k,0)→puL b m (s++t)=puL b k t
 | [],m,k,h=>by cases h;rfl
 | c :: s,m,k,h=>by
  rw[puL] at h
  rw[List.cons_append,puL]
  split at h
  ·cases h
  ·rename_i h1
   rw[if_neg h1]
   split at h
   ·cases h
   ·rename_i h2
    rw[if_neg h2]
    exact l0X b t s _ k h
theorem c1M (b:Nat) (h2:2≤b) (hb:b≤16) (n:Nat):n≤65535→puL b 0 (numL b n)=(n,0):=by
 induction n using Nat.strongRecOn with
 | _ n ih =>
  intro hn
  by_cases hlt:n < b
  ·rw[a0S b n hlt]
   show (if b≤dvL (hexD n).toNat then (0,2) else if 65535 < 0*b+dvL (hexD n).toNat then (65535,1) else puL b (0*b+dvL (hexD n).toNat) [])=_
   rw[b1a n (by omega),if_neg (by omega),if_neg (by omega),Nat.zero_mul,Nat.zero_add];rfl
  ·have hdm:n/b*b+n%b=n:=by rw[Nat.mul_comm];exact Nat.div_add_mod n b
   have hml:n%b < b:=Nat.mod_lt _ (by omega)
   rw[b0p b n (by omega) (by omega),l0X b _ _ 0 (n/b) (ih (n/b) (Nat.div_lt_self (by omega) (by omega)) (Nat.le_trans (Nat.div_le_self _ _) hn))]
   show (if b≤dvL (hexD (n%b)).toNat then (0,2) else if 65535 < n/b*b+dvL (hexD (n%b)).toNat then (65535,1) else puL b (n/b*b+dvL (hexD (n%b)).toNat) [])=_
   rw[b1a _ (by omega),if_neg (by omega),hdm,if_neg (by omega)];rfl
theorem c1L (b:Nat) (h2:2≤b) (hb:b≤16) (n:Nat) (hn:n≤65535):(puA b (numL b n)).1=n:=by
 unfold puA
 rw[if_neg (f0W b n),c1M b h2 hb n hn]
theorem j0z (b dg most:Nat) (x:UInt8) (h2:2≤b) (hb:b≤16) (s:List UInt8) (l:List Nat) (hl:l.length≤8) (hm:most≤65535) (h:a0B b dg most x s=some l):d0G b x s=l:=by
 unfold a0B at h
 unfold d0G
 by_cases h0:s=[]
 ·rw[if_pos h0] at h ⊢;cases h;rfl
 ·rw[if_neg h0] at h ⊢
  obtain⟨h1,h3⟩:=(q0i b dg most h2 hb _ _).1 h
  rw[←h1,List.take_of_length_le (by rw[List.length_map];exact hl),List.map_map]
  conv=>rhs;rw[←List.map_id l]
  exact List.map_congr_left fun n hn=>c1L b h2 hb n (Nat.le_trans (h3 n hn).1 hm)
theorem h0z (s:List UInt8):Lib.index s [58,58]=match d0i s with | none=>-1 | some k=>(k:Int):=by
 induction s with
 | nil=>rfl
 | cons c s ih =>
  cases s with
  | nil =>
   show (if _ then _ else _)=_
   rw[if_neg (by simp[List.isPrefixOf])];rfl
  | cons d s =>
   show (if _ then _ else _)=_
   by_cases h:c=58∧d=58
   ·obtain⟨rfl,rfl⟩:=h
    rw[if_pos (by simp[List.isPrefixOf])];rfl
   ·rw[if_neg (by simp[List.isPrefixOf];intro h1 h2;exact h ⟨h1.symm,h2.symm⟩),ih,f0A c d s h]
    cases d0i (d :: s) with
    | none=>rfl
    | some k =>
     show (if ((k:Int)==-1)=true then (-1:Int) else (k:Int)+1)=((k+1:Nat):Int)
     rw[if_neg (by simp)];rfl
theorem v0D (s:List UInt8) (h:d0i s=none):cutF s=(s,[]):=by
 have:=h0z s
 rw[h] at this
 unfold cutF Lib.cut
 rw[this];rfl
theorem v0F (s:List UInt8) (k:Nat) (h:d0i s=some k):cutF s=(s.take k,s.drop (k+2)):=by
 have:=h0z s
 rw[h] at this
 unfold cutF Lib.cut
 rw[this,if_pos (by simp)];rfl
theorem f0R (s:List UInt8) (c:UInt8):0≤Lib.indexByte s c↔c∈s:=by
 constructor
 ·intro h
  obtain⟨o,ho⟩:∃o:Nat,Lib.indexByte s c=(o:Int):=⟨(Lib.indexByte s c).toNat,by omega⟩
  exact List.mem_of_getElem? (Lib.indexByte_some ho).1
 ·intro h
  have hge:=Lib.indexByte_ge s c
  by_cases hn:Lib.indexByte s c=-1
  ·obtain⟨k,hk⟩:=List.getElem?_of_mem h
   exact absurd hk (Lib.indexByte_none hn k)
  ·omega
theorem v0Q (s:List UInt8):∀k,d0i s=some k→(58:UInt8)∈s:=by
 intro k h
 have:=h0z s
 rw[h] at this
 rcases Lib.index_spec s [58,58] with ⟨h1,-⟩ | ⟨i,h1,h2,h3,-⟩
 ·rw[this] at h1;simp at h1
 ·unfold Lib.occAt at h3
  cases hd:s.drop i with
  | nil=>rw[hd] at h3;simp[List.isPrefixOf] at h3
  | cons c t =>
   rw[hd] at h3
   simp[List.isPrefixOf] at h3
   have:c∈s.drop i:=by rw[hd];exact List.mem_cons_self ..
   rw[←h3.1] at this
   exact List.mem_of_mem_drop this
theorem x0d (l:List Nat) (h:l.length=8):padF l []=l:=by unfold padF;simp[h];exact List.take_of_length_le (by omega)
theorem x0f (f b:List Nat) (h:f.length+b.length≤7):padF f b=g0C f b:=by
 unfold padF g0C
 rw[List.take_append,List.take_of_length_le (by omega),List.take_replicate,List.append_assoc,show min (8 - b.length - f.length) (8 - f.length)=8 - (f.length+b.length) by omega]
theorem b1X (x:UInt8) (ps:List (List UInt8)) (h:2≤ps.length):x∈b0i x ps:=by
 match ps,h with
 | p :: q :: ps,_=>rw[b0v x p (q :: ps) (by simp)];simp
theorem s0f (s:List UInt8) (a:Adr) (h:c0s s=some a):d0u s=a:=by
 unfold c0s at h
 cases hf:d0i s with
 | none =>
  rw[hf] at h
  cases hn:a0B 16 4 65535 58 s with
  | none=>rw[hn] at h;cases h
  | some l =>
   simp only[hn] at h
   by_cases hc:l.length=8∧a0Y (sixA l)=s
   ·rw[if_pos hc] at h
    cases h
    have hs:=((b0r 16 4 65535 58 (by omega) (by omega) (.inr rfl) s l).1 hn).1
    unfold d0u
    rw[if_pos ((f0R s 58).2 (by rw[hs];exact b1X 58 _ (by rw[List.length_map];omega)))]
    unfold g0a
    rw[v0D s hf,j0z 16 4 65535 58 (by omega) (by omega) s l (by omega) (by omega) hn]
    show sixA (padF l [])=_
    rw[x0d l hc.1]
   ·rw[if_neg hc] at h;cases h
 | some k =>
  rw[hf] at h
  cases hn:a0B 16 4 65535 58 (s.take k) with
  | none=>simp[hn] at h
  | some f =>
   cases hm:a0B 16 4 65535 58 (s.drop (k+2)) with
   | none=>simp[hn,hm] at h
   | some b =>
    simp only[hn,hm] at h
    by_cases hc:f.length+b.length≤7∧a0Y (sixA (g0C f b))=s
    ·rw[if_pos hc] at h
     cases h
     unfold d0u
     rw[if_pos ((f0R s 58).2 (v0Q s k hf))]
     unfold g0a
     rw[v0F s k hf]
     show sixA (padF (d0G 16 58 (s.take k)) (d0G 16 58 (s.drop (k+2))))=_
     rw[j0z 16 4 65535 58 (by omega) (by omega) _ f (by omega) (by omega) hn,j0z 16 4 65535 58 (by omega) (by omega) _ b (by omega) (by omega) hm,x0f f b hc.1]
    ·rw[if_neg hc] at h;cases h
theorem u0d (s:List UInt8) (a:Adr) (h:c0f s=some a):d0u s=a:=by
 unfold c0f at h
 cases hn:a0B 10 3 255 46 s with
 | none=>rw[hn] at h;exact s0f s a h
 | some l =>
  simp only[hn] at h
  by_cases h4:l.length=4
  ·rw[if_pos h4] at h
   cases h
   obtain⟨hs,hall⟩:=(b0r 10 3 255 46 (by omega) (by omega) (.inl rfl) s l).1 hn
   have hno:¬0≤Lib.indexByte s 58:=by
    rw[f0R,hs]
    intro hmem
    rcases j0w 46 _ 58 hmem with h | ⟨p,hp,hc⟩
    ·exact absurd h (by decide)
    ·obtain⟨n,-,rfl⟩:=List.mem_map.1 hp
     exact (h0V 10 n (by omega) (by omega) 58 hc).2 rfl
   unfold d0u
   rw[if_neg hno,j0z 10 3 255 46 (by omega) (by omega) s l (by omega) (by omega) hn]
   match l,h4 with
   | [p,q,r,t],_=>rfl
  ·rw[if_neg h4] at h;exact s0f s a h
theorem t0Q (s:List UInt8):c0f s=if a0Y (d0u s)=s then some (d0u s) else none:=by
 by_cases h:a0Y (d0u s)=s
 ·rw[if_pos h]
  exact (f0a s (d0u s)).2 ⟨n0g s,q0I s,h⟩
 ·rw[if_neg h]
  cases hp:c0f s with
  | none=>rfl
  | some a =>
   have hr:=u0d s a hp
   exact absurd (by rw[hr];exact ((f0a s a).1 hp).2.2) h
def k0D (o:Option Adr):Value:=match o with
 | none=>.tuple #[.agg (adrV a0K).toArray,.bool false]
 | some a=>.tuple #[.agg (adrV a).toArray,.bool true]
theorem q0Q (s:List UInt8) (hs:s.length≤1000) (l:List Nat) (hn:a0B 10 3 255 46 s=some l) (h4:l.length=4) (w:World) :
  Calls prog 78 #[.string (bstr s)] w fun e w'=>e=.returned (k0D (some (h0x l)))∧Below w.heap.size w w':=by
 have hm:=((b0r 10 3 255 46 (by omega) (by omega) (.inl rfl) s l).1 hn).2
 have hnum:=f1D (fun w'=>f0w s hs w')
 rw[hn] at hnum
 match l,h4,hm with
 | [a,b,c,d],_,hm =>
 have ha:=(hm a (by simp)).1
 have hb:=(hm b (by simp)).1
 have hc:=(hm c (by simp)).1
 have hd:=(hm d (by simp)).1
 have HF:=f1D (show (adrV (h0x [a,b,c,d]))=[.bool false,.int .u8 ((UInt8.ofNat a).toNat:Int),.int .u8 ((UInt8.ofNat b).toNat:Int),.int .u8 ((UInt8.ofNat c).toNat:Int),.int .u8 ((UInt8.ofNat d).toNat:Int)]++byts (List.replicate 12 0) from rfl)
 have hwa:IntKind.u8.wrap (a:Int)=((UInt8.ofNat a).toNat:Int):=by rw[IntKind.wrap_u8,UInt8.toNat_ofNat'];omega
 have hwb:IntKind.u8.wrap (b:Int)=((UInt8.ofNat b).toNat:Int):=by rw[IntKind.wrap_u8,UInt8.toNat_ofNat'];omega
 have hwc:IntKind.u8.wrap (c:Int)=((UInt8.ofNat c).toNat:Int):=by rw[IntKind.wrap_u8,UInt8.toNat_ofNat'];omega
 have hwd:IntKind.u8.wrap (d:Int)=((UInt8.ofNat d).toNat:Int):=by rw[IntKind.wrap_u8,UInt8.toNat_ofNat'];omega
 have r0:Row (w.alloc (.cells (adrV a0K).toArray 67)) w.heap.size 67 (adrV a0K):=Row.new w _ _
 have hok:(h0x [a,b,c,d]).Ok:=rfl
 have hsz:=f1D (show (prog.info? 67).map (·.size)=some (adrV (h0x [a,b,c,d])).length by rw[b0b,a0m hok])
 have HV1:=f1D (c0O (h0x [a,b,c,d]))
 have HVl:=f1D (show 0+(adrV (h0x [a,b,c,d])).length≤(adrV a0K).length by rw[a0m hok,a0m b0O];exact f1F _)
 have HSP:=f1D (show splice (adrV a0K) 0 (adrV (h0x [a,b,c,d]))=adrV (h0x [a,b,c,d]) from rfl)
 have hb0:Below w.heap.size w (w.alloc (.cells (adrV a0K).toArray 67)):=(Below.refl _ w).alloc (f1F _) _
 clear hm hn
 go_enter func78,ntmps78
 go_wp2_with (go_at_call 114;refine (hnum.out _).mono ?_;rintro e w3 ⟨v3,rfl,⟨u,rfl,hown⟩,hb3⟩;obtain⟨A,cc,rfl,-,hsl⟩:=Sl.of_own hown;have hr3:=r0.later hb3 r0.lt;have hb3:=hb0.trans (hb3.mono hb0.size))
 obtain⟨bk,o,rfl,-,-⟩:=hsl.rd.get (i:=0) (by rw[b0Q];simp)
 have hne:bk≠w.heap.size:=h0Z hown (by rw[World.size_alloc];omega) ⟨bk,o,none⟩ rfl
 have hcs:=fun w' (hg:World.grownBy w3 w' (some w.heap.size))=>hsl.apart hg (fun _ a ha=>by cases ha;exact hne)
 have hc0:∀w',World.grownBy w3 w' (some w.heap.size)→w'.cell? ⟨bk,o,none⟩=some (.int .i64 (a:Int)):=fun w' hg=>f0g (hcs w' hg) 0 (by simp)
 have hc1:∀w',World.grownBy w3 w' (some w.heap.size)→w'.cell? ⟨bk,o+1,none⟩=some (.int .i64 (b:Int)):=fun w' hg=>f0g (hcs w' hg) 1 (by simp)
 have hc2:∀w',World.grownBy w3 w' (some w.heap.size)→w'.cell? ⟨bk,o+2,none⟩=some (.int .i64 (c:Int)):=fun w' hg=>f0g (hcs w' hg) 2 (by simp)
 have hc3:∀w',World.grownBy w3 w' (some w.heap.size)→w'.cell? ⟨bk,o+3,none⟩=some (.int .i64 (d:Int)):=fun w' hg=>f0g (hcs w' hg) 3 (by simp)
 have hb3g:=hb3.size
 clear hcs hsl hown r0 hb0
 generalize adrV (h0x [a,b,c,d])=V at *
 refine wp_region_noPanic ?_
 refine wp_region_held_drew (S:=fun w'=>World.grownBy w3 w' (some w.heap.size)) (by kernel_rfl) (a0r (Below.refl _ _).drew _) (fun hHeld=>?_)
 refine rt 0 23 hHeld ?_
 refine rt 1 24 hHeld ?_
 refine rt 2 25 hHeld ?_
 refine rt 3 26 hHeld ?_
 refine rt 4 27 hHeld ?_
 refine rt 5 28 hHeld ?_
 refine rt 6 29 hHeld ?_
 refine rt 7 30 hHeld ?_
 refine rt 8 31 hHeld ?_
 refine rt 9 32 hHeld ?_
 refine rt 10 33 hHeld ?_
 refine rt 11 34 hHeld ?_
 refine rt 12 35 hHeld ?_
 refine rt 13 36 hHeld ?_
 refine rt 14 37 hHeld ?_
 refine rt 15 38 hHeld ?_
 refine rt 16 39 hHeld ?_
 refine rt 17 40 hHeld ?_
 refine rc1 18 fun K hK=>?_
 refine a0R none rfl (by rfl) 67 (.tmp 2) (.tmp 40) rfl w.heap.size 0 67 (adrV a0K) V rfl (by rw[HF.out];rfl) (hr3.later (Below.refl _ _).drew hr3.lt) HVl.out hsz.out HV1.out ?_;intro w4 hr4 hg4;have hr4:Row w4 w.heap.size 67 V:=(by rw[HSP.out] at hr4;exact hr4)
 refine hK.out _ _ (a0k hHeld hg4) (fun hHeld=>?_)
 clear hK K
 rw[a0u]
 refine rt 19 3 hHeld ?_
 refine wpAnyH_done (by kernel_rfl) ?_ _
 refine NoPanic.normal ?_
 have hb5:Below w.heap.size w w4:=hb3.drew.grown hg4 hb3g (fun k h=>by cases h;exact f1F _)
 have hszA:=f1D (show (prog.info? 67).map (·.size)=some V.toArray.size by rw[List.size_toArray];exact hsz.out)
 have R4:=f1D (show w4.heap[w.heap.size]?=some (.cells V.toArray 67 (0,0)) from hr4)
 clear hHeld hr4 hg4
 go_wp2_with fail
 exact⟨rfl,_,a0d rfl _ _ w.heap.size 67 V.toArray (0,0) _ rfl R4.out underlying67 rfl hszA.out _ rfl,by rw[HF.out];rfl,hb5⟩
end Go.Proofs.YtcbilopdeiapjaaGreatDoor
