import Derived.Test.YtimdhdimhboboaaGreatDoorRbav
import Derived.Test.YtimdhdimhboboaaGreatDoorRbau
import Derived.Test.YtimdhdimhboboaaGreatDoorRbaj
import Derived.Maps.AppendAt
import Derived.RangeFuncBox
import Derived.Laws.CopyOwn
namespace Go.Proofs.YtimdhdimhboboaaGreatDoor
set_option maxRecDepth 100000
open Go Go.RowKit
theorem p0C (a:Adr):∀n∈c0d a,n < 65536:=fun n hn=>Nat.lt_succ_of_le (m0q a n hn)
set_option maxHeartbeats 2000000 in
theorem m0X (a:Adr) (h:a.Ok) (w:World) (hE:Env w) :
  Calls Tryz.prog 144 #[.agg (adrV a).toArray] w fun e w'=>e=.returned (.string (bstr (a0U a)))∧Below w.heap.size w w':=by
 obtain⟨w1,hw1⟩:∃w1,w1=w.alloc (.cells (adrV a).toArray 65):=⟨_,rfl⟩
 have hr:Row w1 w.heap.size 65 (adrV a):=by rw[hw1];exact Row.new w _ _
 have hb:Below w.heap.size w w1:=by rw[hw1];exact (Below.refl _ w).alloc (Nat.le_refl _) _
 have hE1:=hE.next hb
 have hchk:=Lib.hid (h0Y a h)
 have hT:=a0m hr
 have hrl:=Lib.hid (fun w' (h:Below w1.heap.size w1 w')=>hr.later h hr.lt)
 have hsz:=Lib.hid (show (Tryz.prog.info? 65).map (·.size)=some (adrV a).toArray.size by rw[a0W,List.size_toArray,a0l h])
 have hR:=Lib.hid (fun w' (h:Below w1.heap.size w1 w')=>show w'.heap[w.heap.size]?=some (.cells (adrV a).toArray 65 (0,0)) from hr.later h hr.lt)
 have hnu:=Lib.hid (fun w'=>u0l a h w')
 cases hc:b0b a with
 | false =>
  have HT:=Lib.hid (show a0U a=[] by unfold a0U;rw[hc];rfl)
  obtain⟨V,hV⟩:∃V,V=adrV a:=⟨_,rfl⟩
  rw[←hV] at hw1 hchk hsz hR ⊢
  rw[hc] at hchk
  clear hV hr hrl hT hnu
  go_enter Tryz.func144,Tryz.ntmps144
  subst hw1
  go_wp2_with (first
   | (with_reducible refine wpList_load_row rfl 65 (.tmp 1) rfl w.heap.size rfl 65 V.toArray (0,0) _ (hR.out _ (Below.refl _ _)) Tryz.underlying65 rfl hsz.out ?_)
   | (go_at_call 192;refine (hchk.out _).mono ?_;rintro e w2 ⟨rfl,hb2⟩;have hb3:=hb.trans (hb2.mono hb.size)))
  go_ret
  exact⟨by rw[HT.out];rfl,hb3⟩
 | true =>
  cases h6:a.v6 with
  | true =>
   have HT:=Lib.hid (show a0U a=d0C (c0d a) by unfold a0U;rw[hc,h6];rfl)
   have hC6:=Lib.hid (fun w' (h:Below w1.heap.size w1 w')=>j0v (hrl.out w' h))
   rw[h6] at hC6
   have hst:=Lib.hid (fun w' hE=>m0W (c0d a) (h0H a) (p0C a) w' hE)
   generalize d0C (c0d a)=T at *
   generalize hwV (c0d a)=H at *
   obtain⟨V,hV⟩:∃V,V=adrV a:=⟨_,rfl⟩
   rw[←hV] at hw1 hchk hsz hR hnu ⊢
   rw[hc] at hchk
   clear hV hr hrl hT
   go_enter Tryz.func144,Tryz.ntmps144
   subst hw1
   have tok1:True:=trivial
   go_wp2_with (first
    | (have _t:=tok1;with_reducible refine wpList_load_row rfl 65 (.tmp 1) rfl w.heap.size rfl 65 V.toArray (0,0) _ (hR.out _ (Below.refl _ _)) Tryz.underlying65 rfl hsz.out ?_;clear tok1)
    | (go_at_call 192;refine (hchk.out _).mono ?_;rintro e w2 ⟨rfl,hb2⟩;have hE2:=hE1.next hb2;have hb3:=hb.trans (hb2.mono hb.size);have hc6:=hC6.out w2 hb2;have hR2:=Lib.hid (hR.out w2 hb2))
    | (with_reducible refine wpList_load_row rfl 65 (.tmp 1) rfl w.heap.size rfl 65 V.toArray (0,0) _ hR2.out Tryz.underlying65 rfl hsz.out ?_)
    | (go_at_call 194;refine (hnu.out _).mono ?_;rintro e w4 ⟨rfl,hb4⟩;have hE4:=hE2.next hb4;have hb4:=hb3.trans (hb4.mono hb3.size))
    | (go_at_call 193;refine (hst.out _ hE4).mono ?_;rintro e w5 ⟨rfl,hb5⟩;have hb5:=hb4.trans (hb5.mono hb4.size)))
   go_ret
   exact⟨by rw[HT.out];rfl,hb5⟩
  | false =>
   have hC6:=Lib.hid (fun w' (h:Below w1.heap.size w1 w')=>j0v (hrl.out w' h))
   rw[h6] at hC6
   have HT:=Lib.hid (show a0U a=b0c 46 ([(a.b.getD 0 0).toNat,(a.b.getD 1 0).toNat,(a.b.getD 2 0).toNat,(a.b.getD 3 0).toNat].map (numL 10)) by unfold a0U;rw[hc,h6];simp[b0c])
   have hE0:=Lib.hid (fun w' (hq:Below w1.heap.size w1 w')=>c0B h (hrl.out w' hq) 0 (by omega))
   have hE1':=Lib.hid (fun w' (hq:Below w1.heap.size w1 w')=>c0B h (hrl.out w' hq) 1 (by omega))
   have hE2':=Lib.hid (fun w' (hq:Below w1.heap.size w1 w')=>c0B h (hrl.out w' hq) 2 (by omega))
   have hE3':=Lib.hid (fun w' (hq:Below w1.heap.size w1 w')=>c0B h (hrl.out w' hq) 3 (by omega))
   generalize a.b.getD 0 0=x0 at *
   generalize a.b.getD 1 0=x1 at *
   generalize a.b.getD 2 0=x2 at *
   generalize a.b.getD 3 0=x3 at *
   have hv0:IntKind.u16.wrap (x0.toNat:Int)=(x0.toNat:Int):=by rw[IntKind.wrap_u16];have:=x0.toNat_lt;omega
   have hv1:IntKind.u16.wrap (x1.toNat:Int)=(x1.toNat:Int):=by rw[IntKind.wrap_u16];have:=x1.toNat_lt;omega
   have hv2:IntKind.u16.wrap (x2.toNat:Int)=(x2.toNat:Int):=by rw[IntKind.wrap_u16];have:=x2.toNat_lt;omega
   have hv3:IntKind.u16.wrap (x3.toNat:Int)=(x3.toNat:Int):=by rw[IntKind.wrap_u16];have:=x3.toNat_lt;omega
   have hj:=Lib.hid (fun w' (hE:Env w')=>u0f [x0.toNat,x1.toNat,x2.toNat,x3.toNat] (by simp) (by
    intro n hn
    have h0:=x0.toNat_lt;have h1:=x1.toNat_lt;have h2:=x2.toNat_lt;have h3:=x3.toNat_lt
    simp at hn
    omega) 46 (some ⟨w'.heap.size,0,none⟩) 4 4 rfl (w'.alloc (.cells #[.int .u16 (x0.toNat:Int),.int .u16 (x1.toNat:Int),.int .u16 (x2.toNat:Int),.int .u16 (x3.toNat:Int)] 223)) (hE.next ((Below.refl _ w').alloc (Nat.le_refl _) _)) (c0O (hwV [x0.toNat,x1.toNat,x2.toNat,x3.toNat]) rfl 4 rfl))
   generalize b0c 46 ([x0.toNat,x1.toNat,x2.toNat,x3.toNat].map (numL 10))=T at *
   obtain⟨V,hV⟩:∃V,V=adrV a:=⟨_,rfl⟩
   rw[←hV] at hw1 hchk hsz hR hnu ⊢
   rw[hc] at hchk
   clear hV hr hrl hT hnu
   go_enter Tryz.func144,Tryz.ntmps144
   subst hw1
   go_wp2_with (first
    | (with_reducible refine wpList_load_row rfl 65 (.tmp 1) rfl w.heap.size rfl 65 V.toArray (0,0) _ (hR.out _ (Below.refl _ _)) Tryz.underlying65 rfl hsz.out ?_)
    | (go_at_call 192;refine (hchk.out _).mono ?_;rintro e w2 ⟨rfl,hb2⟩;have hEn:=hE1.next hb2;have hb3:=hb.trans (hb2.mono hb.size);have hc6:=hC6.out w2 hb2;have hk0:=hE0.out w2 hb2;have hk1:=hE1'.out w2 hb2;have hk2:=hE2'.out w2 hb2;have hk3:=hE3'.out w2 hb2)
    | (go_at_call 195;refine (hj.out _ hEn).mono ?_;rintro e w5 ⟨rfl,hb5⟩;have hb4:=hb3.alloc hb3.size (.cells #[.int .u16 (x0.toNat:Int),.int .u16 (x1.toNat:Int),.int .u16 (x2.toNat:Int),.int .u16 (x3.toNat:Int)] 223);have hb5:=hb4.trans (hb5.mono hb4.size)))
   go_ret
   exact⟨by rw[HT.out];rfl,hb5⟩
attribute [local go_sem] Oper.semAt_some
def d0v (b:Nat) (x:UInt8) (s:List UInt8):List Nat:=if s=[] then [] else ((a0h x s).take 8).map fun p=>(puA b p).1
theorem g0o (b:Nat) (x:UInt8) (s:List UInt8):(d0v b x s).length≤8:=by
 unfold d0v;split
 ·simp
 ·rw[List.length_map,List.length_take];omega
theorem q0V (b:Nat) (x:UInt8) (s:List UInt8):∀n∈d0v b x s,n≤65535:=by
 intro n hn
 unfold d0v at hn
 split at hn
 ·cases hn
 ·obtain⟨p,-,rfl⟩:=List.mem_map.1 hn
  exact (m0x b p).1
def i0S (l:List Nat) (w:World) (e:Ending) (w':World):Prop:=∃v,e=.returned v∧w'.ownsRow w.heap.size 223 1 v l.length (hwV l)∧Below w.heap.size w w'
theorem b1f:(Tryz.prog.info? 223).map (fun i=>(i.zero,i.size,i.bytes))=some (some (.int .u16 0),1,2):=by kernel_rfl
def t0Y (w:World) (lo:Nat) (b:Nat) (ps:List (List UInt8)) (m:Nat) (W:World):Prop :=
 (∃v,Boxed W (w.heap.size+1) 225 v∧W.ownsRow lo 223 1 v m (hwV ((ps.take m).map fun p=>(puA b p).1)))∧Boxed W w.heap.size 3 (.int .i64 b)∧Below w.heap.size w W∧lo≤W.heap.size
theorem t0Y.calm {w:World} {lo b m own:Nat} {ps:List (List UInt8)} (hown:own < lo) (h1:w.heap.size+1 < own) {X Y:World} {r:Nat} (h:t0Y w lo b ps m X) (hg:X.grownBy Y (some r)) (hr:r=own∨(lo≤r∧∃o:Obj,X.heap[r]?=some o∧o.isCells=false)):t0Y w lo b ps m Y:=by
 obtain⟨⟨v,hv,ho⟩,hbx,hB,hlo⟩:=h
 refine⟨⟨v,f0f hv hg hr (by omega),r0b ho hg hr hown⟩,f0f hbx hg hr (by omega),hB.grown hg hB.size fun k e=>?_,Nat.le_trans hlo hg.size⟩
 cases e
 rcases hr with rfl | ⟨h,-⟩<;>omega
set_option maxHeartbeats 4000000 in
theorem g0g (b:Nat) (hb:b=10∨b=16) (x:UInt8) (s:List UInt8) (hs:s.length≤100000) (w:World) (hE:Env w) :
  Calls Tryz.prog 190 #[.string (bstr s),.string (bstr [x]),.int .i64 b] w (i0S (d0v b x s) w):=by
 refine (callsIn_wide (n:=9)).1 ?_
 refine callsIn_of_wp_marks Tryz.func190 rfl trivial ?_ rfl
 simp only[Tryz.ntmps190,List.size_toArray,List.length_cons,List.length_nil,Nat.reduceAdd,Nat.reduceSub,Array.replicate_succ,Array.replicate_zero,List.push_toArray,List.append_toArray,List.nil_append,List.cons_append]
 by_cases h0:s=[]
 ·subst h0
  have hne:(bstr []).toList.isEmpty=true:=by rw[a0n];rfl
  generalize bstr []=S at *
  gi_wp2
  refine⟨_,results_tmp rfl _ _ _,_,rfl,?_,(Below.refl _ w).alloc (Nat.le_refl _) _⟩
  exact World.ownsRow_nil _ _ _ _
 ·have hne:(bstr s).toList.isEmpty=false:=by
   rw[a0n]
   cases s with
   | nil=>exact absurd rfl h0
   | cons _ _=>rfl
  have hsq:=Lib.hid (fun w'=>i0I s x w')
  gi_wp2_with (refine⟨trivial,?_⟩;gi_at_call 140;refine (callsIn_wide.2 (hsq.out _)).mono ?_;rintro e w2 ⟨rfl,hbox,hb2,hz2⟩)
  rw[World.size_alloc,World.size_alloc] at hbox hz2
  have bx0:Boxed w2 w.heap.size 3 (.int .i64 b):=(hb2.block _ (by rw[World.size_alloc,World.size_alloc];omega)).trans ((Boxed.new w 3 (.int .i64 b)).alloc _)
  have bx1:Boxed w2 (w.heap.size+1) 225 (.slice none 0 0):=(hb2.block _ (by rw[World.size_alloc,World.size_alloc];omega)).trans (by
   have:=Boxed.new (w.alloc (.cells #[.int .i64 (b:Int)] 3)) 225 (.slice none 0 0)
   rwa [World.size_alloc] at this)
  have hB2:Below w.heap.size w w2:=(((Below.refl _ w).alloc (Nat.le_refl _) _).alloc (by rw[World.size_alloc];omega) _).trans (hb2.mono (by rw[World.size_alloc,World.size_alloc];omega))
  clear hb2
  have hsize:(d0m s x).length=(a0h x s).length:=by unfold d0m;rw[List.length_map]
  obtain⟨ps,hps⟩:∃ps,ps=a0h x s:=⟨_,rfl⟩
  have HN:=Lib.hid (show d0v b x s=(ps.take 8).map fun p=>(puA b p).1 by unfold d0v;rw[if_neg h0,hps])
  have hpl:∀p∈ps,p.length≤100000:=fun p hp=>Nat.le_trans (d0w x s p (by rw[←hps];exact hp)) hs
  have hgives:=g0Y 8 (by omega) (w.heap.size+1+1) s x hs w2 hbox (by omega)
  refine g0Z rfl (by omega) (gf:=222) rfl trivial (enters_of Tryz.func222 (by kernel_rfl) rfl) hgives (by omega) g0f.trans
   (fun W l o' hl k h1 h2=>World.putObj_heap_other (by omega)) (Below.refl _ _) (fun v hv=>by
    unfold d0m at hv
    obtain⟨p,-,rfl⟩:=List.mem_map.1 hv
    rfl)
   (fun k W=>k≤8∧t0Y w w2.heap.size b ps k W) (fun c k W=>(c=.exit 0∧k=9)∧t0Y w w2.heap.size b ps 8 W)
   (fun k X Y r h hg hr=>⟨h.1,h.2.calm (by omega) (by omega) hg hr⟩) (fun c k X Y r h hg hr=>⟨h.1,h.2.calm (by omega) (by omega) hg hr⟩)
   ⟨by omega,⟨_,bx1,World.ownsRow_nil _ _ _ _⟩,bx0,hB2,Nat.le_refl _⟩
   (fun k=>{ tmps:=#[.string (bstr s),.string (bstr [x]),.int .i64 b,undef,undef,.pointer (some ⟨w.heap.size,0,none⟩),.slice none 0 0,.pointer (some ⟨w.heap.size+1,0,none⟩),.string (bstr (ps.getD k [])),undef,undef,.string (bstr s),.bool false,.string (bstr s),.string (bstr [x]),
     .func (.func 222) #[] #[.pointer (some ⟨w.heap.size+1+1+1,0,none⟩),.pointer (some ⟨w.heap.size+1+1,0,none⟩),.pointer (some ⟨w.heap.size+1+1+2,0,none⟩)],.string (bstr (ps.getD k [])),undef,undef,undef,undef,undef,undef,undef,undef,undef,undef,undef,undef,undef,undef,undef],defers:=[] }) ?assign ?body ?done ?stop
  case assign =>
   intro l k v W K hv hK
   have hv:v=#[.string (bstr (ps.getD k []))]:=by
    unfold d0m at hv
    rw[←hps,List.getElem?_map] at hv
    rw[List.getD_eq_getElem?_getD]
    cases hq:ps[k]? with
    | none=>rw[hq] at hv;cases hv
    | some q=>rw[hq] at hv;cases hv;rfl
   subst hv
   clear hps
   gi_wp2
   exact hK
  case body =>
   rintro l k W hk ⟨hk8,⟨v,hv,ho⟩,hbx,hB,hlo⟩
   have hkp:k < ps.length:=by rw[hps,←hsize];exact hk
   clear hps hsize hk hgives hbox hne hsq bx0 bx1 hB2
   obtain⟨A,c,rfl,-,-⟩:=Sl.of_own ho
   have hc:=hv.cell
   have hcb:=hbx.cell
   by_cases h8:k=8
   ·subst h8
    generalize ps.getD 8 []=p
    gi_wp2
    exact⟨KeepsOthers.refl _,⟨rfl,rfl⟩,⟨_,hv,ho⟩,hbx,hB,hlo⟩
   ·have h8':((k:Int)==8)=false:=by simp;omega
    have hp1:(ps.getD k []).length≤100000:=hpl _ (by rw[List.getD_eq_getElem?_getD,List.getElem?_eq_getElem hkp];exact List.getElem_mem hkp)
    have hpu:=Lib.hid (c1Q b hb (ps.getD k []) hp1 W (hE.next hB))
    have HS:=Lib.hid (show (ps.take (k+1)).map (fun p=>(puA b p).1)=(ps.take k).map (fun p=>(puA b p).1)++[(puA b (ps.getD k [])).1] by
     rw[List.take_add_one,List.map_append,List.getElem?_eq_getElem hkp,List.getD_eq_getElem?_getD,List.getElem?_eq_getElem hkp];rfl)
    have hq:=(m0x b (ps.getD k [])).1
    generalize (puA b (ps.getD k [])).1=q at *
    have hw16:IntKind.u16.wrap (q:Int)=(q:Int):=by rw[IntKind.wrap_u16];omega
    clear hpl
    generalize ps.getD k []=p at *
    obtain⟨i0,hi,hz0,hz1,hz2'⟩:=info_parts b1f
    have hlow:w.heap.size≤w.heap.size+1∧w.heap.size+1 < w2.heap.size:=by omega
    have n1:k+1≤maxLen:=by unfold maxLen;omega
    have n2:(k+1)*2≤140737488355328:=by omega
    gi_wp2_with (first
     | (refine⟨trivial,?_⟩;gi_at_call 99;refine (CallsIn.inRound l (callsIn_wide.2 hpu.out)).mono ?_;rintro e W2 ⟨ev,rfl,hb2⟩;clear hpu;have hv2:Boxed W2 (w.heap.size+1) 225 (.slice A k c):=(hb2.block _ hv.lt).trans hv;have hc2:=hv2.cell;have ho2:=a0x ho hb2 (Nat.le_refl _);have hbx2:Boxed W2 w.heap.size 3 (.int .i64 (b:Int)):=(hb2.block _ hbx.lt).trans hbx;have hB2:=hB.trans (hb2.mono hB.size);have hlo2:=Nat.le_trans hlo hb2.size)
     | (gi_at_builtin;have _t:=hb2;refine wpListIn_append_own _ rfl _ _ 225 rfl w2.heap.size 223 i0 (.int .u16 0) 1 2 Tryz.underlying225 hi hz0 hz1 hz2' rfl (by decide) _ _ _ rfl (ho2.alloc _) ⟨W2.heap.size,0,none⟩ 1 1 [.int .u16 (q:Int)] rfl rfl (cell_one_new _ _ _) (by simp[Value.oneCell']) n1 n2 (by rw[World.size_alloc];omega) ?_;intro v' w3 hown' hgrow _;obtain⟨g',cap',rfl⟩:=ownsRow_succ hown';obtain⟨hv3,hv4,hk4,hb4,ho4,hs4⟩:=z0x (by decide) hv2 ho2 hlo2 hlow hown' hgrow;clear hown' hgrow;have hc3:=hv3.cell;have hf3:=hv3.frozen))
    have e2:hwV ((ps.take k).map fun p=>(puA b p).1)++[.int .u16 (q:Int)]=hwV ((ps.take (k+1)).map fun p=>(puA b p).1):=by rw[HS.out];unfold hwV;rw[List.map_append];rfl
    rw[e2] at ho4
    exact⟨(KeepsOthers.of_grownBy (b0Z hb2 none) (fun j o e=>by cases e)).trans hk4,fun j h1 h2=>(hs4 j (by omega) (by omega)).trans (hb2.block j (by omega)),by omega,⟨_,hv4,ho4⟩,
     (hs4 _ (by omega) (by omega)).trans hbx2,hB2.trans hb4,Nat.le_trans hlo2 hb4.size⟩
  case done =>
   rintro D W hD ⟨hk8,⟨v,hv,ho⟩,hbx,hB,hlo⟩ hK
   rw[hsize,←hps] at ho hk8
   have hc:=hv.cell
   have e3:(ps.take ps.length).map (fun p=>(puA b p).1)=d0v b x s:=by rw[HN.out,List.take_length,List.take_of_length_le hk8]
   rw[e3] at ho
   have hnl:(d0v b x s).length=ps.length:=by rw[←e3,List.length_map,List.take_length]
   clear hps hsize hgives hbox hne hsq bx0 bx1 hB2 hpl
   obtain⟨A,c,rfl,-,-⟩:=Sl.of_own ho
   gi_wp2
   refine⟨by simp,.inl ⟨_,_,rfl,run_takeDeferred hK,?_⟩⟩
   refine⟨_,results_tmp rfl _ _ _,_,rfl,?_,hB.trans (belowK_b (w:=w) (Nat.le_refl _) W D _ _ (by omega) hK rfl rfl)⟩
   rw[hnl]
   exact ownsRow_putObj (j0j ho (by omega)) _ hK rfl
  case stop =>
   rintro D k c W hD hk ⟨⟨rfl,hk9⟩,⟨v,hv,ho⟩,hbx,hB,hlo⟩ hK
   have hc:=hv.cell
   have hkp:k < ps.length:=by rw[hps,←hsize];exact hk
   have hnl:(d0v b x s).length=8:=by rw[HN.out,List.length_map,List.length_take];omega
   rw[←HN.out] at ho
   clear hps hsize hk hgives hbox hne hsq bx0 bx1 hB2 hpl
   obtain⟨A,c,rfl,-,-⟩:=Sl.of_own ho
   gi_wp2
   refine⟨by simp,.inl ⟨_,_,rfl,run_takeDeferred hK,?_⟩⟩
   refine⟨_,results_tmp rfl _ _ _,_,rfl,?_,hB.trans (belowK_b (w:=w) (Nat.le_refl _) W D _ _ (by omega) hK rfl rfl)⟩
   rw[hnl]
   exact ownsRow_putObj (j0j ho (by omega)) _ hK rfl
def padF (f b:List Nat):List Nat:=(f++List.replicate (8 - f.length) 0).take (8 - b.length)++b
theorem z0g (f b:List Nat) (hf:f.length≤8) (hb:b.length≤8):(padF f b).length=8:=by unfold padF;simp;omega
theorem b1B (f b:List Nat) (hf:∀n∈f,n≤65535) (hb:∀n∈b,n≤65535):∀n∈padF f b,n≤65535:=by
 intro n hn
 unfold padF at hn
 rcases List.mem_append.1 hn with h | h
 ·rcases List.mem_append.1 (List.mem_of_mem_take h) with h | h
  ·exact hf n h
  ·rw[List.eq_of_mem_replicate h];omega
 ·exact hb n h
def cutF (s:List UInt8):List UInt8×List UInt8:=((Lib.cut s [58,58]).1,(Lib.cut s [58,58]).2.1)
def f0T (s:List UInt8):Adr:=sixA (padF (d0v 16 58 (cutF s).1) (d0v 16 58 (cutF s).2))
theorem c1o (s:List UInt8):(cutF s).1.length≤s.length∧(cutF s).2.length≤s.length:=by
 unfold cutF Lib.cut
 split
 ·simp;omega
 ·simp
theorem a1H (g n:Nat) (hn:n≤8):∃A2,(∀W,(Instr.sliceAt 229 (.pointer (some ⟨g,0,none⟩)) (some (.int .i64 (8 - (n:Int)))) none none).run Tryz.prog W=.ok (.slice A2 n n) W)∧(0 < n→A2=some ⟨g,8 - n,none⟩):=by
 have hal:Tryz.prog.arrayLen 229=8:=by kernel_rfl
 have hzn:(8 - (n:Int)).toNat=8 - n:=by omega
 by_cases h:n=0
 ·subst h
  refine⟨some ⟨g,0,none⟩,fun W=>?_,fun h=>absurd h (by omega)⟩
  rw[run_sliceAt_array_l W 229 ⟨g,0,none⟩ (by kernel_rfl) .i64 _ (by omega) (by rw[hal];omega),hal]
  rfl
 ·refine⟨some ⟨g,8 - n,none⟩,fun W=>?_,fun _=>rfl⟩
  rw[run_sliceAt_array_l W 229 ⟨g,0,none⟩ (by kernel_rfl) .i64 _ (by omega) (by rw[hal];omega),hal,hzn]
  have e:8 - (8 - n)=n:=by omega
  have h1:¬8=8 - n:=by omega
  go_simp
theorem q0g:(Tryz.prog.info? 223).map (·.size)=some 1:=by kernel_rfl
theorem t0C (f:List Nat):splice (List.replicate 8 (.int .u16 0)) 0 (hwV f)=hwV (f++List.replicate (8 - f.length) 0):=by
 unfold splice
 rw[List.drop_replicate,a0J]
 unfold hwV
 rw[List.map_append,List.map_replicate,Nat.zero_add]
 rfl
theorem q0j (l b:List Nat) (h8:l.length=8) (hb:b.length≤8):splice (hwV l) (8 - b.length) (hwV b)=hwV (l.take (8 - b.length)++b):=by
 unfold splice hwV
 rw[List.drop_of_length_le (by simp;omega)]
 simp
theorem j0z (w:World) (n:Nat):Below w.heap.size w (w.drewN n):=by
 induction n with
 | zero=>exact Below.refl _ _
 | succ n ih=>exact ih.drew
theorem x0R (s:List UInt8) (hs:s.length≤100000) (w:World) (hE:Env w) :
  Calls Tryz.prog 104 #[.string (bstr s),.string ⟨#[58,58]⟩] w fun e w'=>e=.returned (.tuple #[.string (bstr (cutF s).1),.string (bstr (cutF s).2),.bool (Lib.cut s [58,58]).2.2])∧Below w.heap.size w w':=by
 obtain⟨m,hm⟩:=hE.most
 refine (Tryz.strings_Cut (bstr s) (bstr [58,58]) m w (by rw[a0f];omega) hm).mono ?_
 rintro e w' ⟨rfl,n,rfl⟩
 exact⟨rfl,j0z w n⟩
set_option maxHeartbeats 4000000 in
theorem m0V (s:List UInt8) (hs:s.length≤100000) (w:World) (hE:Env w) :
  Calls Tryz.prog 189 #[.string (bstr s)] w fun e w'=>e=.returned (.agg (adrV (f0T s)).toArray)∧Below w.heap.size w w':=by
 obtain⟨hc1,hc2⟩:=c1o s
 have hcut:=Lib.hid (fun w' hE=>x0R s hs w' hE)
 have hn1:=Lib.hid (fun w' hE=>show Calls Tryz.prog 190 #[.string (bstr (cutF s).1),.string ⟨#[58]⟩,.int .i64 16] w' (i0S (d0v 16 58 (cutF s).1) w') from g0g 16 (.inr rfl) 58 (cutF s).1 (by omega) w' hE)
 have hn2:=Lib.hid (fun w' hE=>show Calls Tryz.prog 190 #[.string (bstr (cutF s).2),.string ⟨#[58]⟩,.int .i64 16] w' (i0S (d0v 16 58 (cutF s).2) w') from g0g 16 (.inr rfl) 58 (cutF s).2 (by omega) w' hE)
 have hl1:=g0o 16 58 (cutF s).1
 have hl2:=g0o 16 58 (cutF s).2
 have HA:=Lib.hid (show f0T s=sixA (padF (d0v 16 58 (cutF s).1) (d0v 16 58 (cutF s).2)) from rfl)
 have HL:=Lib.hid (b1B _ _ (q0V 16 58 (cutF s).1) (q0V 16 58 (cutF s).2))
 generalize d0v 16 58 (cutF s).1=f at *
 generalize d0v 16 58 (cutF s).2=b at *
 generalize (Lib.cut s [58,58]).2.2=fd at *
 generalize (cutF s).1=s1 at *
 generalize (cutF s).2=s2 at *
 generalize bstr s=S at *
 obtain⟨w1,hw1⟩:∃w1,w1=w.alloc (.cells (adrV a0G).toArray 65):=⟨_,rfl⟩
 have r1:Row w1 w.heap.size 65 (adrV a0G):=by rw[hw1];exact Row.new w _ _
 have hb1:Below w.heap.size w w1:=by rw[hw1];exact (Below.refl _ w).alloc (Nat.le_refl _) _
 have hE1:=hE.next hb1
 go_enter Tryz.func189,Tryz.ntmps189
 have hm1:=Lib.hid (show (hwV f).length=Nat.min f.length 8 by rw[a0J];exact (Nat.min_eq_left hl1).symm)
 have hm2:=Lib.hid (show (hwV b).length=Nat.min b.length b.length by rw[a0J];exact (Nat.min_self _).symm)
 have hfit1:=Lib.hid (show 0+(hwV f).length≤(List.replicate 8 (Value.int .u16 0)).length by rw[a0J,List.length_replicate];omega)
 obtain⟨pd,hpd⟩:∃pd,pd=f++List.replicate (8 - f.length) 0:=⟨_,rfl⟩
 have hpl:pd.length=8:=by rw[hpd];simp;omega
 have HPl:=Lib.hid hpl
 have HPd:=Lib.hid hpd
 have hfit2:=Lib.hid (show 8 - b.length+(hwV b).length≤(hwV pd).length by rw[a0J,a0J,hpl];omega)
 obtain⟨pq,hpq⟩:∃pq,pq=pd.take (8 - b.length)++b:=⟨_,rfl⟩
 have HPq:=Lib.hid hpq
 have hpf:padF f b=pq:=by rw[hpq,hpd];rfl
 have hql:pq.length=8:=by rw[hpq,List.length_append,List.length_take,hpl];omega
 rw[hpf] at HA HL
 have HQl:=Lib.hid hql
 have hq6:(sixA pq).Ok:=f0V pq hql
 have hsix:=Lib.hid (fun w'=>x0X pq hql HL.out w')
 have hsl:=Lib.hid (show (Tryz.prog.info? 229).map (·.size)=some (hwV pq).toArray.size by rw[show (Tryz.prog.info? 229).map (·.size)=some 8 by kernel_rfl,List.size_toArray,a0J,hql])
 obtain⟨L8,hL8⟩:∃L,L=hwV pq:=⟨_,rfl⟩
 rw[←hL8] at hsix hsl
 have HL8:=Lib.hid hL8
 obtain⟨V,hV⟩:∃V,V=adrV (sixA pq):=⟨_,rfl⟩
 obtain⟨Z,hZ⟩:∃Z,Z=adrV a0G:=⟨_,rfl⟩
 have hsz:=Lib.hid (show (Tryz.prog.info? 65).map (·.size)=some V.toArray.size by rw[hV,a0W,List.size_toArray,a0l hq6])
 have hV1:=Lib.hid (show V.toArray.all (·.oneCell')=true from a0Y (by rw[hV];exact c0A _))
 have hVs:=Lib.hid (show Z.toArray.size=V.toArray.size by rw[hV,hZ,List.size_toArray,List.size_toArray,a0l b0D,a0l hq6])
 rw[←hV] at hsix
 rw[HA.out,←hV]
 have HZ:=Lib.hid hZ
 clear hpl hpd hpq hpf hql hL8 hV hZ hq6 HA HL
 have hbl:(b.length:Int)≤8:=by omega
 have tok1:True:=trivial
 have tok2:True:=trivial
 clear hE hc1 hc2 hs
 go_wp2_with (first
  | (go_at_call 104;change Calls _ _ _ (w.alloc (.cells (adrV a0G).toArray 65)) _;rw[←hw1];refine (hcut.out _ hE1).mono ?_;rintro e w2 ⟨rfl,hb2⟩;have hE2:=hE1.next hb2;have r2:=r1.later hb2 r1.lt;have hb2:=hb1.trans (hb2.mono hb1.size);clear hcut hw1 r1 hE1)
  | (go_at_call 190;have _t:=tok1;refine (hn1.out _ hE2).mono ?_;rintro e w3 ⟨v1,rfl,ho1,hb3⟩;obtain⟨A1,k1,rfl,-,hs1⟩:=Sl.of_own ho1;have hE3:=hE2.next hb3;have r3:=r2.later hb3 r2.lt;have hb3:=hb2.trans (hb3.mono hb2.size);clear hn1 ho1 tok1 r2)
  | (go_at_call 190;have _t:=tok2;refine (hn2.out _ hE3).mono ?_;rintro e w4 ⟨v2,rfl,ho2,hb4⟩;obtain⟨A2,k2,rfl,-,hs2⟩:=Sl.of_own ho2;have r4:=r3.later hb4 r3.lt;have hs1:=hs1.later (Nat.le_refl _) hb4;have hb4:=hb3.trans (hb4.mono hb3.size);clear hn2 ho2 tok2 r3;obtain⟨A3,hcut8,hA3⟩:=a1H w4.heap.size b.length hl2;have HA3:=Lib.hid hA3;clear hA3;have hp1:=Lib.hid (fun o (h:0 < (hwV f).length)=>(hs1.later (Nat.le_refl _) ((Below.refl w4.heap.size w4).alloc (Nat.le_refl _) o)).hpos h))
  | (with_reducible refine wpList_copy_splice rfl (.tmp 19) (.tmp 20) 225 225 rfl 223 Tryz.underlying225 q0g _ _ _ _ _ _ rfl rfl w4.heap.size 0 (List.replicate 8 (.int .u16 0)) _ (heap_alloc_new w4 _) (hwV f) hm1.out (fun h=>⟨rfl,hp1.out _ h⟩) hfit1.out (m0f _) w4.heap.size w4 ((Below.refl _ _).alloc (Nat.le_refl _) _) (Nat.le_refl _) ?_;intro w5 HG5 hb5;rw[t0C,←HPd.out] at HG5;have hp2:=Lib.hid (fun h=>(hs2.later (Nat.le_refl _) hb5).hpos h))
  | (with_reducible refine wpList_copy_splice rfl (.tmp 25) (.tmp 26) 225 225 rfl 223 Tryz.underlying225 q0g _ _ _ _ _ _ rfl rfl w4.heap.size (8 - b.length) (hwV pd) _ HG5.out (hwV b) hm2.out (fun h=>⟨HA3.out (by rw[a0J] at h;exact h),hp2.out h⟩) hfit2.out (m0f _) w4.heap.size w4 hb5 (Nat.le_refl _) ?_;intro w6 HG6 hb6;rw[q0j _ _ HPl.out hl2,←HPq.out,←HL8.out] at HG6;clear HG5 hp2 hb5)
  | (with_reducible refine wpList_load_row rfl 229 (.tmp 8) rfl w4.heap.size rfl 229 L8.toArray (0,0) _ HG6.out Tryz.underlying229 rfl hsl.out ?_)
  | (go_at_call 226;refine (hsix.out _).mono ?_;rintro e w7 ⟨rfl,hb7⟩;have r6:=r4.later hb6 r4.lt;have r7:=r6.later hb7 r6.lt;have hb7:=(hb4.trans (hb6.mono hb4.size)).trans (hb7.mono (hb4.trans (hb6.mono hb4.size)).size);have H0:=Lib.hid (show w7.heap[w.heap.size]?=some (.cells Z.toArray 65 (0,0)) by rw[HZ.out];exact r7);clear r4 r6 r7)
  | (with_reducible refine wpList_store_row rfl 65 (.tmp 2) (.tmp 29) rfl w.heap.size V.toArray rfl rfl 65 Z.toArray H0.out hsz.out hVs.out hV1.out ?_;refine Hid.out ?_))
 refine Lib.hid ?_
 generalize hw8:World.setRow _ _ _=w8
 obtain⟨r8,hg8⟩:=a0z (show Row w7 w.heap.size 65 Z from H0.out) hw8
 have hb8:=hb7.grown hg8 hb7.size (fun k h=>by cases h;exact Nat.le_refl _)
 have R8:=Lib.hid (show w8.heap[w.heap.size]?=some (.cells V.toArray 65 (0,0)) from r8)
 clear hw8 r8 hg8 H0
 go_wp2_with (with_reducible refine bodyPost_ret (results_cell_row rfl _ _ w.heap.size 65 V.toArray (0,0) _ rfl R8.out Tryz.underlying65 rfl hsz.out) rfl ?_)
theorem m0G {P:Program} {w:World} {ops:Array Oper} {o:Oper} {a:Act} {K:Act→World→Prop} {Q:Exit→Act→World→Prop} {E:Prop} (dst:Option Tmp) (hdst:o.dst=dst) (hgd:Region.wanted o (yielded ops a.tmps)=true) (d s:Operand) (dT sT:TypeId)
  (ho:o.op=.call { callee:=.builtin .copy,args:=#[d,s],argTypes:=#[dT,sT] }) (elem:TypeId) (hu:P.underlying dT=some (.slice elem)) (hsz:(P.info? elem).map (·.size)=some 1)
  (g off dLen dCap:Nat) (sp:Option Addr) (sLen sCap:Nat) (hd:a.eval d=.slice (some ⟨g,off,none⟩) dLen dCap) (hs:a.eval s=.slice sp sLen sCap)
  (t:TypeId) (cur:List Value) (hg:Row w g t cur) (cs:List Value) (n:Nat) (hl:cs.length=n) (hn:n=Nat.min sLen dLen)
  (hpos:0 < cs.length→∃ad,sp=some ad∧∀j v,cs[j]?=some v→w.cell? (ad.add j)=some v) (hfit:off+cs.length≤cur.length) (h1:∀v∈cs,v.oneCell'=true)
  (h:∀w',Row w' g t (splice cur off cs)→w.grownBy w' (some g)→K (a.put dst (goInt n)) w'):if Region.wanted o (yielded ops a.tmps)=true then Oper.wp P o a w K Q else E:=by
 by_cases h0:cs.length=0
 ·obtain rfl:cs=[]:=List.eq_nil_of_length_eq_zero h0
  obtain rfl:n=0:=by simpa using hl.symm
  subst hdst
  rw[if_pos hgd]
  have hrun:=run_copy_none (P:=P) w dT sT o.type elem (some ⟨g,off,none⟩) sp dLen dCap sLen sCap hu hsz hn.symm
  unfold Oper.wp
  simp[execOp,ho,resolve,invoke,builtin,hd,hs,hrun,Result.andThen]
  exact h w (by simpa [splice] using hg) (l0i _ _)
 ·obtain⟨ad,rfl,hsrc⟩:=hpos (by omega)
  exact d0P dst hdst hgd d s dT sT ho elem hu hsz g off dLen dCap ad sLen sCap hd hs t cur hg cs n hl hn hsrc hfit h1 h
def pad4 (f:List Nat):List Nat:=f.take 4++List.replicate (4 - (f.take 4).length) 0
theorem z0f (f:List Nat):(pad4 f).length=4:=by unfold pad4;rw[List.length_append,List.length_replicate,List.length_take];omega
theorem q0k (f:List Nat):splice (List.replicate 4 (.int .u16 0)) 0 (hwV (f.take 4))=hwV (pad4 f):=by
 unfold splice pad4
 rw[List.drop_replicate,a0J]
 unfold hwV
 rw[List.map_append,List.map_replicate,Nat.zero_add]
 rfl
def c1t (l:List Nat):Adr:=n0x (UInt8.ofNat (l.getD 0 0)) (UInt8.ofNat (l.getD 1 0)) (UInt8.ofNat (l.getD 2 0)) (UInt8.ofNat (l.getD 3 0))
def d0i (s:List UInt8):Adr:=if 0≤Lib.indexByte s 58 then f0T s else c1t (pad4 (d0v 10 46 s))
theorem p0R (s:List UInt8):(f0T s).Ok:=f0V _ (z0g _ _ (g0o _ _ _) (g0o _ _ _))
theorem m0z (s:List UInt8):(d0i s).Ok:=by
 unfold d0i
 split
 ·exact p0R s
 ·rfl
theorem p0Q (s:List UInt8):b0b (d0i s)=true:=by
 unfold d0i
 split
 ·rfl
 ·rfl
set_option maxHeartbeats 4000000 in
theorem u0m (s:List UInt8) (hs:s.length≤100000) (w:World) (hE:Env w) :
  Calls Tryz.prog 143 #[.string (bstr s)] w fun e w'=>e=.returned (.agg (adrV (d0i s)).toArray)∧Below w.heap.size w w':=by
 have hok:=m0z s
 obtain⟨V,hV⟩:∃V,V=adrV (d0i s):=⟨_,rfl⟩
 obtain⟨Z,hZ⟩:∃Z,Z=adrV a0G:=⟨_,rfl⟩
 have hsz:=Lib.hid (show (Tryz.prog.info? 65).map (·.size)=some V.toArray.size by rw[hV,a0W,List.size_toArray,a0l hok])
 have hV1:=Lib.hid (show V.toArray.all (·.oneCell')=true from a0Y (by rw[hV];exact c0A _))
 have hVs:=Lib.hid (show Z.toArray.size=V.toArray.size by rw[hV,hZ,List.size_toArray,List.size_toArray,a0l b0D,a0l hok])
 have hct:=Lib.hid (fun w'=>Tryz.strings_Contains_one (bstr s) 58 w')
 obtain⟨w1,hw1⟩:∃w1,w1=w.alloc (.cells (adrV a0G).toArray 65):=⟨_,rfl⟩
 have r1:Row w1 w.heap.size 65 Z:=by rw[hw1,hZ];exact Row.new w _ _
 have hb1:Below w.heap.size w w1:=by rw[hw1];exact (Below.refl _ w).alloc (Nat.le_refl _) _
 have hE1:=hE.next hb1
 rw[←hV]
 by_cases h6:0≤Lib.indexByte s 58
 ·have h6':decide (0≤Lib.indexByte (bstr s).data.toList 58)=true:=decide_eq_true h6
  rw[h6'] at hct
  have hrd:=Lib.hid (fun w' hE=>m0V s hs w' hE)
  rw[show f0T s=d0i s by unfold d0i;rw[if_pos h6],←hV] at hrd
  clear hV hok hZ h6 h6' hE
  generalize bstr s=S at *
  go_enter Tryz.func143,Tryz.ntmps143
  go_wp2_with (first
   | (go_at_call 188;change Calls _ _ _ (w.alloc (.cells (adrV a0G).toArray 65)) _;rw[←hw1];clear hw1;refine (hct.out _).mono ?_;rintro e w2 ⟨rfl,rfl⟩)
   | (go_at_call 189;refine (hrd.out _ hE1).mono ?_;rintro e w7 ⟨rfl,hb7⟩;have r7:=r1.later hb7 r1.lt;have hb7:=hb1.trans (hb7.mono hb1.size);have H0:=Lib.hid (show w7.heap[w.heap.size]?=some (.cells Z.toArray 65 (0,0)) from r7);clear r7)
   | (with_reducible refine wpList_store_row rfl 65 (.tmp 2) (.tmp 7) rfl w.heap.size V.toArray rfl rfl 65 Z.toArray H0.out hsz.out hVs.out hV1.out ?_;refine Hid.out ?_))
  refine Lib.hid ?_
  generalize hw8:World.setRow _ _ _=w8
  obtain⟨r8,hg8⟩:=a0z (show Row w7 w.heap.size 65 Z from H0.out) hw8
  have hb8:=hb7.grown hg8 hb7.size (fun k h=>by cases h;exact Nat.le_refl _)
  have R8:=Lib.hid (show w8.heap[w.heap.size]?=some (.cells V.toArray 65 (0,0)) from r8)
  clear hw8 r8 hg8 H0
  go_wp2_with (with_reducible refine bodyPost_ret (results_cell_row rfl _ _ w.heap.size 65 V.toArray (0,0) _ rfl R8.out Tryz.underlying65 rfl hsz.out) rfl ?_)
 ·have h6':decide (0≤Lib.indexByte (bstr s).data.toList 58)=false:=decide_eq_false h6
  rw[h6'] at hct
  have hn:=Lib.hid (fun w' hE=>show Calls Tryz.prog 190 #[.string (bstr s),.string ⟨#[46]⟩,.int .i64 10] w' (i0S (d0v 10 46 s) w') from g0g 10 (.inl rfl) 46 s hs w' hE)
  have hnl:=g0o 10 46 s
  have HF:=Lib.hid (show d0i s=c1t (pad4 (d0v 10 46 s)) by unfold d0i;rw[if_neg h6])
  generalize d0v 10 46 s=f at *
  have hm1:=Lib.hid (show (hwV (f.take 4)).length=Nat.min f.length 4 by rw[a0J,List.length_take];exact Nat.min_comm _ _)
  have hfit1:=Lib.hid (show 0+(hwV (f.take 4)).length≤(List.replicate 4 (Value.int .u16 0)).length by rw[a0J,List.length_replicate,List.length_take];omega)
  have hsp:=Lib.hid (q0k f)
  have hp4:=z0f f
  obtain⟨x0,hx0⟩:∃x,x=UInt8.ofNat ((pad4 f).getD 0 0):=⟨_,rfl⟩
  obtain⟨x1,hx1⟩:∃x,x=UInt8.ofNat ((pad4 f).getD 1 0):=⟨_,rfl⟩
  obtain⟨x2,hx2⟩:∃x,x=UInt8.ofNat ((pad4 f).getD 2 0):=⟨_,rfl⟩
  obtain⟨x3,hx3⟩:∃x,x=UInt8.ofNat ((pad4 f).getD 3 0):=⟨_,rfl⟩
  have h4:=Lib.hid (fun w'=>u0c x0 x1 x2 x3 w')
  rw[show n0x x0 x1 x2 x3=d0i s by rw[HF.out,hx0,hx1,hx2,hx3];rfl,←hV] at h4
  have u8w:∀(n:Nat) (x:UInt8),x=UInt8.ofNat n→IntKind.u8.wrap (n:Int)=(x.toNat:Int):=fun n x h=>by rw[h,UInt8.toNat_ofNat',IntKind.wrap_u8];omega
  have hw0:=u8w _ _ hx0
  have hw1':=u8w _ _ hx1
  have hw2:=u8w _ _ hx2
  have hw3:=u8w _ _ hx3
  have hg0:=j0M (pad4 f) 0 (by omega)
  have hg1:=j0M (pad4 f) 1 (by omega)
  have hg2:=j0M (pad4 f) 2 (by omega)
  have hg3:=j0M (pad4 f) 3 (by omega)
  clear hx0 hx1 hx2 hx3 u8w
  generalize (pad4 f).getD 0 0=n0 at *
  generalize (pad4 f).getD 1 0=n1 at *
  generalize (pad4 f).getD 2 0=n2 at *
  generalize (pad4 f).getD 3 0=n3 at *
  have G0:=Lib.hid hg0
  have G1:=Lib.hid hg1
  have G2:=Lib.hid hg2
  have G3:=Lib.hid hg3
  clear hV hok hZ h6 h6' hE hg0 hg1 hg2 hg3 hp4
  generalize bstr s=S at *
  go_enter Tryz.func143,Tryz.ntmps143
  go_wp2_with (first
   | (go_at_call 188;change Calls _ _ _ (w.alloc (.cells (adrV a0G).toArray 65)) _;rw[←hw1];clear hw1;refine (hct.out _).mono ?_;rintro e w2 ⟨rfl,rfl⟩))
  obtain⟨w3,hw3e⟩:∃w3,w3=w2.alloc (.cells (List.replicate 4 (.int .u16 0)).toArray 224):=⟨_,rfl⟩
  have rl:Row w3 w2.heap.size 224 (List.replicate 4 (.int .u16 0)):=by rw[hw3e];exact Row.new w2 _ _
  have hb3':Below w2.heap.size w2 w3:=by rw[hw3e];exact (Below.refl _ w2).alloc (Nat.le_refl _) _
  have hE3:=hE1.next hb3'
  have r3:=r1.later hb3' r1.lt
  have hb3:=hb1.trans (hb3'.mono hb1.size)
  have hlt3:=r1.lt
  change Code.wp _ _ _ _ (w2.alloc (.cells (List.replicate 4 (.int .u16 0)).toArray 224))
  rw[←hw3e]
  clear hw3e hct hb3'
  have HR:=Lib.hid rl
  clear rl
  refine wp_region_noPanic ?_
  refine wp_region_held_drew (S:=fun _=>True) (by kernel_rfl) (trivial) (fun hHeld=>?_)
  refine rt 0 8 hHeld ?_
  refine rt 1 9 hHeld ?_
  refine wpAnyH_ready (rs:=[2]) (by kernel_rfl) (by simp) (AllReadyH.cons (o:=_) rfl (fun K hK=>?_) AllReadyH.nil)
  go_simp
  refine (hn.out _ (hE3.next (Below.refl _ _).drew)).mono ?_;rintro e w5 ⟨v5,rfl,ho5,hb5⟩;obtain⟨A5,k5,rfl,-,hs5⟩:=Sl.of_own ho5
  try go_wp2_with fail
  refine hK.out _ _ (trivial) (fun hHeld=>?_)
  clear hK K
  try (first | (rw[a0c];dsimp only[List.set]) | rw[a0d])
  refine wpAnyH_ready (rs:=[3]) (by kernel_rfl) (by simp) (AllReadyH.cons (o:=_) rfl (fun K hK=>?_) AllReadyH.nil)
  have hs5':Sl w5 A5 k5 (hwV (f.take 4)):=by unfold hwV;rw[List.map_take];exact hs5.take
  refine m0G (some 11) rfl (by rfl) (.tmp 8) (.tmp 10) 225 225 rfl 223 Tryz.underlying225 q0g w2.heap.size 0 4 4 _ _ _ rfl rfl 224 _ (HR.out.drew.later hb5 HR.out.lt) (hwV (f.take 4)) _ rfl hm1.out hs5'.hpos hfit1.out (m0f _) ?_;intro w6 hr6 hg6
  refine hK.out _ _ (trivial) (fun _=>?_)
  clear hK K
  try (first | (rw[a0c];dsimp only[List.set]) | rw[a0d])
  refine wpAnyH_done (by kernel_rfl) ?_ _
  refine NoPanic.normal ?_
  rw[hsp.out] at hr6
  have c0:=(hr6.cell 0).trans G0.out
  have c1:=(hr6.cell 1).trans G1.out
  have c2:=(hr6.cell 2).trans G2.out
  have c3:=(hr6.cell 3).trans G3.out
  have r5:Row w5 w.heap.size 65 Z:=r3.drew.later hb5 r3.lt
  have r6:=r5.grown hg6 (by omega)
  have hb6:=(hb3.drew.trans (hb5.mono hb3.size)).grown hg6 (Nat.le_trans hb3.size hb5.size) (fun k h=>by cases h;omega)
  clear hb5 ho5 hg6 r5 hs5 hs5' hHeld HR hr6 hm1 hfit1 hsp
  go_wp2_with (first
   | (go_at_call 191;refine (h4.out _).mono ?_;rintro e w7 ⟨rfl,hb7⟩;have r7:=r6.later hb7 r6.lt;have hb7:=hb6.trans (hb7.mono hb6.size);have H0:=Lib.hid (show w7.heap[w.heap.size]?=some (.cells Z.toArray 65 (0,0)) from r7);clear r7)
   | (with_reducible refine wpList_store_row rfl 65 (.tmp 2) (.tmp 24) rfl w.heap.size V.toArray rfl rfl 65 Z.toArray H0.out hsz.out hVs.out hV1.out ?_;refine Hid.out ?_))
  refine Lib.hid ?_
  generalize hw8:World.setRow _ _ _=w8
  obtain⟨r8,hg8⟩:=a0z (show Row w7 w.heap.size 65 Z from H0.out) hw8
  have hb8:=hb7.grown hg8 hb7.size (fun k h=>by cases h;exact Nat.le_refl _)
  have R8:=Lib.hid (show w8.heap[w.heap.size]?=some (.cells V.toArray 65 (0,0)) from r8)
  clear hw8 r8 hg8 H0
  go_wp2_with (with_reducible refine bodyPost_ret (results_cell_row rfl _ _ w.heap.size 65 V.toArray (0,0) _ rfl R8.out Tryz.underlying65 rfl hsz.out) rfl ?_)
theorem a1a:∀d:Nat,d < 16→dvL (hexD d).toNat=d:=by
 intro d hd
 have:d=0∨d=1∨d=2∨d=3∨d=4∨d=5∨d=6∨d=7∨d=8∨d=9∨d=10∨d=11∨d=12∨d=13∨d=14∨d=15:=by omega
 rcases this with rfl | rfl | rfl | rfl | rfl | rfl | rfl | rfl | rfl | rfl | rfl | rfl | rfl | rfl | rfl | rfl<;>decide
theorem l0x (b:Nat) (t:List UInt8):∀(s:List UInt8) (m k:Nat),puL b m s=(k,0)→puL b m (s++t)=puL b k t
 | [],m,k,h=>by cases h;rfl
 | c :: s,m,k,h=>by
  rw[puL] at h
  rw[List.cons_append,puL]
  split at h
  ·cases h
  ·rename_i h1
   rw[if_neg h1]
   split at h
   ·cases h
   ·rename_i h2
    rw[if_neg h2]
    exact l0x b t s _ k h
theorem b1L (b:Nat) (h2:2≤b) (hb:b≤16) (n:Nat):n≤65535→puL b 0 (numL b n)=(n,0):=by
 induction n using Nat.strongRecOn with
 | _ n ih =>
  intro hn
  by_cases hlt:n < b
  ·rw[a0O b n hlt]
   show (if b≤dvL (hexD n).toNat then (0,2) else if 65535 < 0*b+dvL (hexD n).toNat then (65535,1) else puL b (0*b+dvL (hexD n).toNat) [])=_
   rw[a1a n (by omega),if_neg (by omega),if_neg (by omega),Nat.zero_mul,Nat.zero_add];rfl
  ·have hdm:n/b*b+n%b=n:=by rw[Nat.mul_comm];exact Nat.div_add_mod n b
   have hml:n%b < b:=Nat.mod_lt _ (by omega)
   rw[b0k b n (by omega) (by omega),l0x b _ _ 0 (n/b) (ih (n/b) (Nat.div_lt_self (by omega) (by omega)) (Nat.le_trans (Nat.div_le_self _ _) hn))]
   show (if b≤dvL (hexD (n%b)).toNat then (0,2) else if 65535 < n/b*b+dvL (hexD (n%b)).toNat then (65535,1) else puL b (n/b*b+dvL (hexD (n%b)).toNat) [])=_
   rw[a1a _ (by omega),if_neg (by omega),hdm,if_neg (by omega)];rfl
theorem b1K (b:Nat) (h2:2≤b) (hb:b≤16) (n:Nat) (hn:n≤65535):(puA b (numL b n)).1=n:=by
 unfold puA
 rw[if_neg (f0P b n),b1L b h2 hb n hn]
theorem j0f (b dg most:Nat) (x:UInt8) (h2:2≤b) (hb:b≤16) (s:List UInt8) (l:List Nat) (hl:l.length≤8) (hm:most≤65535) (h:a0v b dg most x s=some l):d0v b x s=l:=by
 unfold a0v at h
 unfold d0v
 by_cases h0:s=[]
 ·rw[if_pos h0] at h ⊢;cases h;rfl
 ·rw[if_neg h0] at h ⊢
  obtain⟨h1,h3⟩:=(p0o b dg most h2 hb _ _).1 h
  rw[←h1,List.take_of_length_le (by rw[List.length_map];exact hl),List.map_map]
  conv=>rhs;rw[←List.map_id l]
  exact List.map_congr_left fun n hn=>b1K b h2 hb n (Nat.le_trans (h3 n hn).1 hm)
theorem h0h (s:List UInt8):Lib.index s [58,58]=match c0U s with | none=>-1 | some k=>(k:Int):=by
 induction s with
 | nil=>rfl
 | cons c s ih =>
  cases s with
  | nil =>
   show (if _ then _ else _)=_
   rw[if_neg (by simp[List.isPrefixOf])];rfl
  | cons d s =>
   show (if _ then _ else _)=_
   by_cases h:c=58∧d=58
   ·obtain⟨rfl,rfl⟩:=h
    rw[if_pos (by simp[List.isPrefixOf])];rfl
   ·rw[if_neg (by simp[List.isPrefixOf];intro h1 h2;exact h ⟨h1.symm,h2.symm⟩),ih,f0u c d s h]
    cases c0U (d :: s) with
    | none=>rfl
    | some k =>
     show (if ((k:Int)==-1)=true then (-1:Int) else (k:Int)+1)=((k+1:Nat):Int)
     rw[if_neg (by simp)];rfl
theorem u0F (s:List UInt8) (h:c0U s=none):cutF s=(s,[]):=by
 have:=h0h s
 rw[h] at this
 unfold cutF Lib.cut
 rw[this];rfl
theorem u0G (s:List UInt8) (k:Nat) (h:c0U s=some k):cutF s=(s.take k,s.drop (k+2)):=by
 have:=h0h s
 rw[h] at this
 unfold cutF Lib.cut
 rw[this,if_pos (by simp)];rfl
theorem f0L (s:List UInt8) (c:UInt8):0≤Lib.indexByte s c↔c∈s:=by
 constructor
 ·intro h
  obtain⟨o,ho⟩:∃o:Nat,Lib.indexByte s c=(o:Int):=⟨(Lib.indexByte s c).toNat,by omega⟩
  exact List.mem_of_getElem? (Lib.indexByte_some ho).1
 ·intro h
  have hge:=Lib.indexByte_ge s c
  by_cases hn:Lib.indexByte s c=-1
  ·obtain⟨k,hk⟩:=List.getElem?_of_mem h
   exact absurd hk (Lib.indexByte_none hn k)
  ·omega
theorem u0P (s:List UInt8):∀k,c0U s=some k→(58:UInt8)∈s:=by
 intro k h
 have:=h0h s
 rw[h] at this
 rcases Lib.index_spec s [58,58] with ⟨h1,-⟩ | ⟨i,h1,h2,h3,-⟩
 ·rw[this] at h1;simp at h1
 ·unfold Lib.occAt at h3
  cases hd:s.drop i with
  | nil=>rw[hd] at h3;simp[List.isPrefixOf] at h3
  | cons c t =>
   rw[hd] at h3
   simp[List.isPrefixOf] at h3
   have:c∈s.drop i:=by rw[hd];exact List.mem_cons_self ..
   rw[←h3.1] at this
   exact List.mem_of_mem_drop this
theorem w0j (l:List Nat) (h:l.length=8):padF l []=l:=by unfold padF;simp[h];exact List.take_of_length_le (by omega)
theorem w0k (f b:List Nat) (h:f.length+b.length≤7):padF f b=g0p f b:=by
 unfold padF g0p
 rw[List.take_append,List.take_of_length_le (by omega),List.take_replicate,List.append_assoc,show min (8 - b.length - f.length) (8 - f.length)=8 - (f.length+b.length) by omega]
theorem a1X (x:UInt8) (ps:List (List UInt8)) (h:2≤ps.length):x∈b0c x ps:=by
 match ps,h with
 | p :: q :: ps,_=>rw[b0q x p (q :: ps) (by simp)];simp
theorem r0p (s:List UInt8) (a:Adr) (h:c0j s=some a):d0i s=a:=by
 unfold c0j at h
 cases hf:c0U s with
 | none =>
  rw[hf] at h
  cases hn:a0v 16 4 65535 58 s with
  | none=>rw[hn] at h;cases h
  | some l =>
   simp only[hn] at h
   by_cases hc:l.length=8∧a0U (sixA l)=s
   ·rw[if_pos hc] at h
    cases h
    have hs:=((b0l 16 4 65535 58 (by omega) (by omega) (.inr rfl) s l).1 hn).1
    unfold d0i
    rw[if_pos ((f0L s 58).2 (by rw[hs];exact a1X 58 _ (by rw[List.length_map];omega)))]
    unfold f0T
    rw[u0F s hf,j0f 16 4 65535 58 (by omega) (by omega) s l (by omega) (by omega) hn]
    show sixA (padF l [])=_
    rw[w0j l hc.1]
   ·rw[if_neg hc] at h;cases h
 | some k =>
  rw[hf] at h
  cases hn:a0v 16 4 65535 58 (s.take k) with
  | none=>simp[hn] at h
  | some f =>
   cases hm:a0v 16 4 65535 58 (s.drop (k+2)) with
   | none=>simp[hn,hm] at h
   | some b =>
    simp only[hn,hm] at h
    by_cases hc:f.length+b.length≤7∧a0U (sixA (g0p f b))=s
    ·rw[if_pos hc] at h
     cases h
     unfold d0i
     rw[if_pos ((f0L s 58).2 (u0P s k hf))]
     unfold f0T
     rw[u0G s k hf]
     show sixA (padF (d0v 16 58 (s.take k)) (d0v 16 58 (s.drop (k+2))))=_
     rw[j0f 16 4 65535 58 (by omega) (by omega) _ f (by omega) (by omega) hn,j0f 16 4 65535 58 (by omega) (by omega) _ b (by omega) (by omega) hm,w0k f b hc.1]
    ·rw[if_neg hc] at h;cases h
theorem t0i (s:List UInt8) (a:Adr) (h:b0V s=some a):d0i s=a:=by
 unfold b0V at h
 cases hn:a0v 10 3 255 46 s with
 | none=>rw[hn] at h;exact r0p s a h
 | some l =>
  simp only[hn] at h
  by_cases h4:l.length=4
  ·rw[if_pos h4] at h
   cases h
   obtain⟨hs,hall⟩:=(b0l 10 3 255 46 (by omega) (by omega) (.inl rfl) s l).1 hn
   have hno:¬0≤Lib.indexByte s 58:=by
    rw[f0L,hs]
    intro hmem
    rcases j0b 46 _ 58 hmem with h | ⟨p,hp,hc⟩
    ·exact absurd h (by decide)
    ·obtain⟨n,-,rfl⟩:=List.mem_map.1 hp
     exact (h0G 10 n (by omega) (by omega) 58 hc).2 rfl
   unfold d0i
   rw[if_neg hno,j0f 10 3 255 46 (by omega) (by omega) s l (by omega) (by omega) hn]
   match l,h4 with
   | [p,q,r,t],_=>rfl
  ·rw[if_neg h4] at h;exact r0p s a h
theorem s0V (s:List UInt8):b0V s=if a0U (d0i s)=s then some (d0i s) else none:=by
 by_cases h:a0U (d0i s)=s
 ·rw[if_pos h]
  exact (d0S s (d0i s)).2 ⟨m0z s,p0Q s,h⟩
 ·rw[if_neg h]
  cases hp:b0V s with
  | none=>rfl
  | some a =>
   have hr:=t0i s a hp
   exact absurd (by rw[hr];exact ((d0S s a).1 hp).2.2) h
def k0h (o:Option Adr):Value:=match o with
 | none=>.tuple #[.agg (adrV a0G).toArray,.bool false]
 | some a=>.tuple #[.agg (adrV a).toArray,.bool true]
set_option maxHeartbeats 2000000 in
theorem p0Z (s:List UInt8) (hs:s.length≤1000) (l:List Nat) (hn:a0v 10 3 255 46 s=some l) (h4:l.length=4) (w:World) :
  Calls Tryz.prog 77 #[.string (bstr s)] w fun e w'=>e=.returned (k0h (some (h0g l)))∧Below w.heap.size w w':=by
 have hm:=((b0l 10 3 255 46 (by omega) (by omega) (.inl rfl) s l).1 hn).2
 have hnum:=Lib.hid (fun w'=>f0q s hs w')
 rw[hn] at hnum
 match l,h4,hm with
 | [a,b,c,d],_,hm =>
 have ha:=(hm a (by simp)).1
 have hb:=(hm b (by simp)).1
 have hc:=(hm c (by simp)).1
 have hd:=(hm d (by simp)).1
 have HF:=Lib.hid (show (adrV (h0g [a,b,c,d]))=[.bool false,.int .u8 ((UInt8.ofNat a).toNat:Int),.int .u8 ((UInt8.ofNat b).toNat:Int),.int .u8 ((UInt8.ofNat c).toNat:Int),.int .u8 ((UInt8.ofNat d).toNat:Int)]++byts (List.replicate 12 0) from rfl)
 have hwa:IntKind.u8.wrap (a:Int)=((UInt8.ofNat a).toNat:Int):=by rw[IntKind.wrap_u8,UInt8.toNat_ofNat'];omega
 have hwb:IntKind.u8.wrap (b:Int)=((UInt8.ofNat b).toNat:Int):=by rw[IntKind.wrap_u8,UInt8.toNat_ofNat'];omega
 have hwc:IntKind.u8.wrap (c:Int)=((UInt8.ofNat c).toNat:Int):=by rw[IntKind.wrap_u8,UInt8.toNat_ofNat'];omega
 have hwd:IntKind.u8.wrap (d:Int)=((UInt8.ofNat d).toNat:Int):=by rw[IntKind.wrap_u8,UInt8.toNat_ofNat'];omega
 have r0:Row (w.alloc (.cells (adrV a0G).toArray 65)) w.heap.size 65 (adrV a0G):=Row.new w _ _
 have hok:(h0g [a,b,c,d]).Ok:=rfl
 have hsz:=Lib.hid (show (Tryz.prog.info? 65).map (·.size)=some (adrV (h0g [a,b,c,d])).length by rw[a0W,a0l hok])
 have HV1:=Lib.hid (c0A (h0g [a,b,c,d]))
 have HVl:=Lib.hid (show 0+(adrV (h0g [a,b,c,d])).length≤(adrV a0G).length by rw[a0l hok,a0l b0D];exact Nat.le_refl _)
 have HSP:=Lib.hid (show splice (adrV a0G) 0 (adrV (h0g [a,b,c,d]))=adrV (h0g [a,b,c,d]) from rfl)
 have hb0:Below w.heap.size w (w.alloc (.cells (adrV a0G).toArray 65)):=(Below.refl _ w).alloc (Nat.le_refl _) _
 clear hm hn
 go_enter Tryz.func77,Tryz.ntmps77
 go_wp2_with (go_at_call 111;refine (hnum.out _).mono ?_;rintro e w3 ⟨v3,rfl,⟨u,rfl,hown⟩,hb3⟩;obtain⟨A,cc,rfl,-,hsl⟩:=Sl.of_own hown;have hr3:=r0.later hb3 r0.lt;have hb3:=hb0.trans (hb3.mono hb0.size))
 obtain⟨bk,o,rfl,-,-⟩:=hsl.rd.get (i:=0) (by rw[b0F];simp)
 have hne:bk≠w.heap.size:=k0d hown (by rw[World.size_alloc];omega) ⟨bk,o,none⟩ rfl
 have hcs:=fun w' (hg:World.grownBy w3 w' (some w.heap.size))=>hsl.apart hg (fun _ a ha=>by cases ha;exact hne)
 have hc0:∀w',World.grownBy w3 w' (some w.heap.size)→w'.cell? ⟨bk,o,none⟩=some (.int .i64 (a:Int)):=fun w' hg=>d0X (hcs w' hg) 0 (by simp)
 have hc1:∀w',World.grownBy w3 w' (some w.heap.size)→w'.cell? ⟨bk,o+1,none⟩=some (.int .i64 (b:Int)):=fun w' hg=>d0X (hcs w' hg) 1 (by simp)
 have hc2:∀w',World.grownBy w3 w' (some w.heap.size)→w'.cell? ⟨bk,o+2,none⟩=some (.int .i64 (c:Int)):=fun w' hg=>d0X (hcs w' hg) 2 (by simp)
 have hc3:∀w',World.grownBy w3 w' (some w.heap.size)→w'.cell? ⟨bk,o+3,none⟩=some (.int .i64 (d:Int)):=fun w' hg=>d0X (hcs w' hg) 3 (by simp)
 have hb3g:=hb3.size
 clear hcs hsl hown r0 hb0
 generalize adrV (h0g [a,b,c,d])=V at *
 refine wp_region_noPanic ?_
 refine wp_region_held_drew (S:=fun w'=>World.grownBy w3 w' (some w.heap.size)) (by kernel_rfl) (b0Z (Below.refl _ _).drew _) (fun hHeld=>?_)
 refine rt 0 23 hHeld ?_
 refine rt 1 24 hHeld ?_
 refine rt 2 25 hHeld ?_
 refine rt 3 26 hHeld ?_
 refine rt 4 27 hHeld ?_
 refine rt 5 28 hHeld ?_
 refine rt 6 29 hHeld ?_
 refine rt 7 30 hHeld ?_
 refine rt 8 31 hHeld ?_
 refine rt 9 32 hHeld ?_
 refine rt 10 33 hHeld ?_
 refine rt 11 34 hHeld ?_
 refine rt 12 35 hHeld ?_
 refine rt 13 36 hHeld ?_
 refine rt 14 37 hHeld ?_
 refine rt 15 38 hHeld ?_
 refine rt 16 39 hHeld ?_
 refine rt 17 40 hHeld ?_
 refine wpAnyH_ready (rs:=[18]) (by kernel_rfl) (by simp) (AllReadyH.cons (o:=_) rfl (fun K hK=>?_) AllReadyH.nil)
 refine b0h none rfl (by rfl) 65 (.tmp 2) (.tmp 40) rfl w.heap.size 0 65 (adrV a0G) V rfl (by rw[HF.out];rfl) (hr3.later (Below.refl _ _).drew hr3.lt) HVl.out hsz.out HV1.out ?_;intro w4 hr4 hg4;have hr4:Row w4 w.heap.size 65 V:=(by rw[HSP.out] at hr4;exact hr4)
 refine hK.out _ _ (b0r hHeld hg4) (fun hHeld=>?_)
 clear hK K
 try (first | (rw[a0c];dsimp only[List.set]) | rw[a0d])
 refine rt 19 3 hHeld ?_
 refine wpAnyH_done (by kernel_rfl) ?_ _
 refine NoPanic.normal ?_
 have hb5:Below w.heap.size w w4:=hb3.drew.grown hg4 hb3g (fun k h=>by cases h;exact Nat.le_refl _)
 have hszA:=Lib.hid (show (Tryz.prog.info? 65).map (·.size)=some V.toArray.size by rw[List.size_toArray];exact hsz.out)
 have R4:=Lib.hid (show w4.heap[w.heap.size]?=some (.cells V.toArray 65 (0,0)) from hr4)
 clear hHeld hr4 hg4
 go_wp2_with fail
 exact⟨rfl,_,a0g rfl _ _ w.heap.size 65 V.toArray (0,0) _ rfl R4.out Tryz.underlying65 rfl hszA.out _ rfl,by rw[HF.out];rfl,hb5⟩
end Go.Proofs.YtimdhdimhboboaaGreatDoor
