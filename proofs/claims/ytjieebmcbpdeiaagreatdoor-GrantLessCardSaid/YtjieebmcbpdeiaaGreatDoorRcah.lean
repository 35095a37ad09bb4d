import Derived.Test.YtjieebmcbpdeiaaGreatDoorRcag
import Derived.Test.YtjieebmcbpdeiaaGreatDoorRcaf
import Derived.Maps.AppendAt
import Derived.RangeFuncBox
import Derived.Laws.CopyOwn
import Derived.Test.YtjieebmcbpdeiaaGreatDoorRcaa
import Derived.Test.YtjieebmcbpdeiaaGreatDoorRcad
namespace Go.Proofs.YtjieebmcbpdeiaaGreatDoor
set_option maxRecDepth 100000
open Go Go.RowKit
theorem numsA_small (a:Adr):∀n∈numsA a,n < 65536:=fun n hn=>Nat.lt_succ_of_le (numsA_le a n hn)
set_option maxHeartbeats 2000000 in
theorem atext_any (a:Adr) (h:a.Ok) (w:World) (hE:Env w) :
  Calls Tryz.prog 111 #[.agg (adrV a).toArray] w fun e w'=>e=.returned (.string (bstr (textA a)))∧Below w.heap.size w w':=by
 obtain⟨w1,hw1⟩:∃w1,w1=w.alloc (.cells (adrV a).toArray 26):=⟨_,rfl⟩
 have hr:Row w1 w.heap.size 26 (adrV a):=by rw[hw1];exact Row.new w _ _
 have hb:Below w.heap.size w w1:=by rw[hw1];exact (Below.refl _ w).alloc (Nat.le_refl _) _
 have hE1:=hE.next hb
 have hchk:=Lib.hid (acheck_any a h)
 have hT:=row_range hr
 have hrl:=Lib.hid (fun w' (h:Below w1.heap.size w1 w')=>hr.later h hr.lt)
 have hsz:=Lib.hid (show (Tryz.prog.info? 26).map (·.size)=some (adrV a).toArray.size by rw[size_adr,List.size_toArray,length_adrV h])
 have hR:=Lib.hid (fun w' (h:Below w1.heap.size w1 w')=>show w'.heap[w.heap.size]?=some (.cells (adrV a).toArray 26 (0,0)) from hr.later h hr.lt)
 have hnu:=Lib.hid (fun w'=>anums_any a h w')
 cases hc:checkA a with
 | false =>
  have HT:=Lib.hid (show textA a=[] by unfold textA;rw[hc];rfl)
  obtain⟨V,hV⟩:∃V,V=adrV a:=⟨_,rfl⟩
  rw[←hV] at hw1 hchk hsz hR ⊢
  rw[hc] at hchk
  clear hV hr hrl hT hnu
  go_enter Tryz.func111,Tryz.ntmps111
  subst hw1
  go_wp2_with (first
   | (with_reducible refine wpList_load_row rfl 26 (.tmp 1) rfl w.heap.size rfl 26 V.toArray (0,0) _ (hR.out _ (Below.refl _ _)) Tryz.underlying26 rfl hsz.out ?_)
   | (go_at_call 75;refine (hchk.out _).mono ?_;rintro e w2 ⟨rfl,hb2⟩;have hb3:=hb.trans (hb2.mono hb.size)))
  go_ret
  exact⟨by rw[HT.out];rfl,hb3⟩
 | true =>
  cases h6:a.v6 with
  | true =>
   have HT:=Lib.hid (show textA a=textN (numsA a) by unfold textA;rw[hc,h6];rfl)
   have hC6:=Lib.hid (fun w' (h:Below w1.heap.size w1 w')=>adr_v6 (hrl.out w' h))
   rw[h6] at hC6
   have hst:=Lib.hid (fun w' hE=>asixtext_any (numsA a) (numsA_len a) (numsA_small a) w' hE)
   generalize textN (numsA a)=T at *
   generalize hwV (numsA a)=H at *
   obtain⟨V,hV⟩:∃V,V=adrV a:=⟨_,rfl⟩
   rw[←hV] at hw1 hchk hsz hR hnu ⊢
   rw[hc] at hchk
   clear hV hr hrl hT
   go_enter Tryz.func111,Tryz.ntmps111
   subst hw1
   have tok1:True:=trivial
   go_wp2_with (first
    | (have _t:=tok1;with_reducible refine wpList_load_row rfl 26 (.tmp 1) rfl w.heap.size rfl 26 V.toArray (0,0) _ (hR.out _ (Below.refl _ _)) Tryz.underlying26 rfl hsz.out ?_;clear tok1)
    | (go_at_call 75;refine (hchk.out _).mono ?_;rintro e w2 ⟨rfl,hb2⟩;have hE2:=hE1.next hb2;have hb3:=hb.trans (hb2.mono hb.size);have hc6:=hC6.out w2 hb2;have hR2:=Lib.hid (hR.out w2 hb2))
    | (with_reducible refine wpList_load_row rfl 26 (.tmp 1) rfl w.heap.size rfl 26 V.toArray (0,0) _ hR2.out Tryz.underlying26 rfl hsz.out ?_)
    | (go_at_call 144;refine (hnu.out _).mono ?_;rintro e w4 ⟨rfl,hb4⟩;have hE4:=hE2.next hb4;have hb4:=hb3.trans (hb4.mono hb3.size))
    | (go_at_call 143;refine (hst.out _ hE4).mono ?_;rintro e w5 ⟨rfl,hb5⟩;have hb5:=hb4.trans (hb5.mono hb4.size)))
   go_ret
   exact⟨by rw[HT.out];rfl,hb5⟩
  | false =>
   have hC6:=Lib.hid (fun w' (h:Below w1.heap.size w1 w')=>adr_v6 (hrl.out w' h))
   rw[h6] at hC6
   have HT:=Lib.hid (show textA a=glueL 46 ([(a.b.getD 0 0).toNat,(a.b.getD 1 0).toNat,(a.b.getD 2 0).toNat,(a.b.getD 3 0).toNat].map (numL 10)) by unfold textA;rw[hc,h6];simp[glueL])
   have hE0:=Lib.hid (fun w' (hq:Below w1.heap.size w1 w')=>adr_cell h (hrl.out w' hq) 0 (by omega))
   have hE1':=Lib.hid (fun w' (hq:Below w1.heap.size w1 w')=>adr_cell h (hrl.out w' hq) 1 (by omega))
   have hE2':=Lib.hid (fun w' (hq:Below w1.heap.size w1 w')=>adr_cell h (hrl.out w' hq) 2 (by omega))
   have hE3':=Lib.hid (fun w' (hq:Below w1.heap.size w1 w')=>adr_cell h (hrl.out w' hq) 3 (by omega))
   generalize a.b.getD 0 0=x0 at *
   generalize a.b.getD 1 0=x1 at *
   generalize a.b.getD 2 0=x2 at *
   generalize a.b.getD 3 0=x3 at *
   have hv0:IntKind.u16.wrap (x0.toNat:Int)=(x0.toNat:Int):=by rw[IntKind.wrap_u16];have:=x0.toNat_lt;omega
   have hv1:IntKind.u16.wrap (x1.toNat:Int)=(x1.toNat:Int):=by rw[IntKind.wrap_u16];have:=x1.toNat_lt;omega
   have hv2:IntKind.u16.wrap (x2.toNat:Int)=(x2.toNat:Int):=by rw[IntKind.wrap_u16];have:=x2.toNat_lt;omega
   have hv3:IntKind.u16.wrap (x3.toNat:Int)=(x3.toNat:Int):=by rw[IntKind.wrap_u16];have:=x3.toNat_lt;omega
   have hj:=Lib.hid (fun w' (hE:Env w')=>ajoined10 [x0.toNat,x1.toNat,x2.toNat,x3.toNat] (by simp) (by
    intro n hn
    have h0:=x0.toNat_lt;have h1:=x1.toNat_lt;have h2:=x2.toNat_lt;have h3:=x3.toNat_lt
    simp at hn
    omega) 46 (some ⟨w'.heap.size,0,none⟩) 4 4 rfl (w'.alloc (.cells #[.int .u16 (x0.toNat:Int),.int .u16 (x1.toNat:Int),.int .u16 (x2.toNat:Int),.int .u16 (x3.toNat:Int)] 154)) (hE.next ((Below.refl _ w').alloc (Nat.le_refl _) _)) (sl_made (hwV [x0.toNat,x1.toNat,x2.toNat,x3.toNat]) rfl 4 rfl))
   generalize glueL 46 ([x0.toNat,x1.toNat,x2.toNat,x3.toNat].map (numL 10))=T at *
   obtain⟨V,hV⟩:∃V,V=adrV a:=⟨_,rfl⟩
   rw[←hV] at hw1 hchk hsz hR hnu ⊢
   rw[hc] at hchk
   clear hV hr hrl hT hnu
   go_enter Tryz.func111,Tryz.ntmps111
   subst hw1
   go_wp2_with (first
    | (with_reducible refine wpList_load_row rfl 26 (.tmp 1) rfl w.heap.size rfl 26 V.toArray (0,0) _ (hR.out _ (Below.refl _ _)) Tryz.underlying26 rfl hsz.out ?_)
    | (go_at_call 75;refine (hchk.out _).mono ?_;rintro e w2 ⟨rfl,hb2⟩;have hEn:=hE1.next hb2;have hb3:=hb.trans (hb2.mono hb.size);have hc6:=hC6.out w2 hb2;have hk0:=hE0.out w2 hb2;have hk1:=hE1'.out w2 hb2;have hk2:=hE2'.out w2 hb2;have hk3:=hE3'.out w2 hb2)
    | (go_at_call 145;refine (hj.out _ hEn).mono ?_;rintro e w5 ⟨rfl,hb5⟩;have hb4:=hb3.alloc hb3.size (.cells #[.int .u16 (x0.toNat:Int),.int .u16 (x1.toNat:Int),.int .u16 (x2.toNat:Int),.int .u16 (x3.toNat:Int)] 154);have hb5:=hb4.trans (hb5.mono hb4.size)))
   go_ret
   exact⟨by rw[HT.out];rfl,hb5⟩
attribute [local go_sem] Oper.semAt_some
def numsF (b:Nat) (x:UInt8) (s:List UInt8):List Nat:=if s=[] then [] else ((splitL x s).take 8).map fun p=>(puA b p).1
theorem numsF_len (b:Nat) (x:UInt8) (s:List UInt8):(numsF b x s).length≤8:=by
 unfold numsF;split
 ·simp
 ·rw[List.length_map,List.length_take];omega
theorem numsF_le (b:Nat) (x:UInt8) (s:List UInt8):∀n∈numsF b x s,n≤65535:=by
 intro n hn
 unfold numsF at hn
 split at hn
 ·cases hn
 ·obtain⟨p,-,rfl⟩:=List.mem_map.1 hn
  exact (puA_code b p).1
def GaveNums (l:List Nat) (w:World) (e:Ending) (w':World):Prop:=∃v,e=.returned v∧w'.ownsRow w.heap.size 154 1 v l.length (hwV l)∧Below w.heap.size w w'
theorem infoU16:(Tryz.prog.info? 154).map (fun i=>(i.zero,i.size,i.bytes))=some (some (.int .u16 0),1,2):=by kernel_rfl
def NumsI (w:World) (lo:Nat) (b:Nat) (ps:List (List UInt8)) (m:Nat) (W:World):Prop :=
 (∃v,Boxed W (w.heap.size+1) 158 v∧W.ownsRow lo 154 1 v m (hwV ((ps.take m).map fun p=>(puA b p).1)))∧Boxed W w.heap.size 3 (.int .i64 b)∧Below w.heap.size w W∧lo≤W.heap.size
theorem NumsI.calm {w:World} {lo b m own:Nat} {ps:List (List UInt8)} (hown:own < lo) (h1:w.heap.size+1 < own) {X Y:World} {r:Nat} (h:NumsI w lo b ps m X) (hg:X.grownBy Y (some r)) (hr:r=own∨(lo≤r∧∃o:Obj,X.heap[r]?=some o∧o.isCells=false)):NumsI w lo b ps m Y:=by
 obtain⟨⟨v,hv,ho⟩,hbx,hB,hlo⟩:=h
 refine⟨⟨v,box_calm hv hg hr (by omega),own_calm ho hg hr hown⟩,box_calm hbx hg hr (by omega),hB.grown hg hB.size fun k e=>?_,Nat.le_trans hlo hg.size⟩
 cases e
 rcases hr with rfl | ⟨h,-⟩<;>omega
set_option maxHeartbeats 4000000 in
theorem anumbers_any (b:Nat) (hb:b=10∨b=16) (x:UInt8) (s:List UInt8) (hs:s.length≤100000) (w:World) (hE:Env w) :
  Calls Tryz.prog 187 #[.string (bstr s),.string (bstr [x]),.int .i64 b] w (GaveNums (numsF b x s) w):=by
 refine (callsIn_wide (n:=9)).1 ?_
 refine callsIn_of_wp_marks Tryz.func187 rfl trivial ?_ rfl
 simp only[Tryz.ntmps187,List.size_toArray,List.length_cons,List.length_nil,Nat.reduceAdd,Nat.reduceSub,Array.replicate_succ,Array.replicate_zero,List.push_toArray,List.append_toArray,List.nil_append,List.cons_append]
 by_cases h0:s=[]
 ·subst h0
  have hne:(bstr []).toList.isEmpty=true:=by rw[bstr_toList];rfl
  generalize bstr []=S at *
  gi_wp2
  refine⟨_,results_tmp rfl _ _ _,_,rfl,?_,(Below.refl _ w).alloc (Nat.le_refl _) _⟩
  exact World.ownsRow_nil _ _ _ _
 ·have hne:(bstr s).toList.isEmpty=false:=by
   rw[bstr_toList]
   cases s with
   | nil=>exact absurd rfl h0
   | cons _ _=>rfl
  have hsq:=Lib.hid (fun w'=>splitSeq_any s x w')
  gi_wp2_with (refine⟨trivial,?_⟩;gi_at_call 59;refine (callsIn_wide.2 (hsq.out _)).mono ?_;rintro e w2 ⟨rfl,hbox,hb2,hz2⟩)
  rw[World.size_alloc,World.size_alloc] at hbox hz2
  have bx0:Boxed w2 w.heap.size 3 (.int .i64 b):=(hb2.block _ (by rw[World.size_alloc,World.size_alloc];omega)).trans ((Boxed.new w 3 (.int .i64 b)).alloc _)
  have bx1:Boxed w2 (w.heap.size+1) 158 (.slice none 0 0):=(hb2.block _ (by rw[World.size_alloc,World.size_alloc];omega)).trans (by
   have:=Boxed.new (w.alloc (.cells #[.int .i64 (b:Int)] 3)) 158 (.slice none 0 0)
   rwa [World.size_alloc] at this)
  have hB2:Below w.heap.size w w2:=(((Below.refl _ w).alloc (Nat.le_refl _) _).alloc (by rw[World.size_alloc];omega) _).trans (hb2.mono (by rw[World.size_alloc,World.size_alloc];omega))
  clear hb2
  have hsize:(piecesV s x).length=(splitL x s).length:=by unfold piecesV;rw[List.length_map]
  obtain⟨ps,hps⟩:∃ps,ps=splitL x s:=⟨_,rfl⟩
  have HN:=Lib.hid (show numsF b x s=(ps.take 8).map fun p=>(puA b p).1 by unfold numsF;rw[if_neg h0,hps])
  have hpl:∀p∈ps,p.length≤100000:=fun p hp=>Nat.le_trans (splitL_piece x s p (by rw[←hps];exact hp)) hs
  have hgives:=splitSeq_gives 8 (by omega) (w.heap.size+1+1) s x hs w2 hbox (by omega)
  refine wpIn_rangeList rfl (by omega) (gf:=129) rfl trivial (enters_of Tryz.func129 (by kernel_rfl) rfl) hgives (by omega) SeqKeep.trans
   (fun W l o' hl k h1 h2=>World.putObj_heap_other (by omega)) (Below.refl _ _) (fun v hv=>by
    unfold piecesV at hv
    obtain⟨p,-,rfl⟩:=List.mem_map.1 hv
    rfl)
   (fun k W=>k≤8∧NumsI w w2.heap.size b ps k W) (fun c k W=>(c=.exit 0∧k=9)∧NumsI w w2.heap.size b ps 8 W)
   (fun k X Y r h hg hr=>⟨h.1,h.2.calm (by omega) (by omega) hg hr⟩) (fun c k X Y r h hg hr=>⟨h.1,h.2.calm (by omega) (by omega) hg hr⟩)
   ⟨by omega,⟨_,bx1,World.ownsRow_nil _ _ _ _⟩,bx0,hB2,Nat.le_refl _⟩
   (fun k=>{ tmps:=#[.string (bstr s),.string (bstr [x]),.int .i64 b,undef,undef,.pointer (some ⟨w.heap.size,0,none⟩),.slice none 0 0,.pointer (some ⟨w.heap.size+1,0,none⟩),.string (bstr (ps.getD k [])),undef,undef,.string (bstr s),.bool false,.string (bstr s),.string (bstr [x]),
     .func (.func 129) #[] #[.pointer (some ⟨w.heap.size+1+1+1,0,none⟩),.pointer (some ⟨w.heap.size+1+1,0,none⟩),.pointer (some ⟨w.heap.size+1+1+2,0,none⟩)],.string (bstr (ps.getD k [])),undef,undef,undef,undef,undef,undef,undef,undef,undef,undef,undef,undef,undef,undef,undef],defers:=[] }) ?assign ?body ?done ?stop
  case assign =>
   intro l k v W K hv hK
   have hv:v=#[.string (bstr (ps.getD k []))]:=by
    unfold piecesV at hv
    rw[←hps,List.getElem?_map] at hv
    rw[List.getD_eq_getElem?_getD]
    cases hq:ps[k]? with
    | none=>rw[hq] at hv;cases hv
    | some q=>rw[hq] at hv;cases hv;rfl
   subst hv
   clear hps
   gi_wp2
   exact hK
  case body =>
   rintro l k W hk ⟨hk8,⟨v,hv,ho⟩,hbx,hB,hlo⟩
   have hkp:k < ps.length:=by rw[hps,←hsize];exact hk
   clear hps hsize hk hgives hbox hne hsq bx0 bx1 hB2
   obtain⟨A,c,rfl,-,-⟩:=Sl.of_own ho
   have hc:=hv.cell
   have hcb:=hbx.cell
   by_cases h8:k=8
   ·subst h8
    generalize ps.getD 8 []=p
    gi_wp2
    exact⟨KeepsOthers.refl _,⟨rfl,rfl⟩,⟨_,hv,ho⟩,hbx,hB,hlo⟩
   ·have h8':((k:Int)==8)=false:=by simp;omega
    have hp1:(ps.getD k []).length≤100000:=hpl _ (by rw[List.getD_eq_getElem?_getD,List.getElem?_eq_getElem hkp];exact List.getElem_mem hkp)
    have hpu:=Lib.hid (pu_any b hb (ps.getD k []) hp1 W (hE.next hB))
    have HS:=Lib.hid (show (ps.take (k+1)).map (fun p=>(puA b p).1)=(ps.take k).map (fun p=>(puA b p).1)++[(puA b (ps.getD k [])).1] by
     rw[List.take_add_one,List.map_append,List.getElem?_eq_getElem hkp,List.getD_eq_getElem?_getD,List.getElem?_eq_getElem hkp];rfl)
    have hq:=(puA_code b (ps.getD k [])).1
    generalize (puA b (ps.getD k [])).1=q at *
    have hw16:IntKind.u16.wrap (q:Int)=(q:Int):=by rw[IntKind.wrap_u16];omega
    clear hpl
    generalize ps.getD k []=p at *
    obtain⟨i0,hi,hz0,hz1,hz2'⟩:=info_parts infoU16
    have hlow:w.heap.size≤w.heap.size+1∧w.heap.size+1 < w2.heap.size:=by omega
    have n1:k+1≤maxLen:=by unfold maxLen;omega
    have n2:(k+1)*2≤140737488355328:=by omega
    gi_wp2_with (first
     | (refine⟨trivial,?_⟩;gi_at_call 116;refine (CallsIn.inRound l (callsIn_wide.2 hpu.out)).mono ?_;rintro e W2 ⟨ev,rfl,hb2⟩;clear hpu;have hv2:Boxed W2 (w.heap.size+1) 158 (.slice A k c):=(hb2.block _ hv.lt).trans hv;have hc2:=hv2.cell;have ho2:=own_later ho hb2 (Nat.le_refl _);have hbx2:Boxed W2 w.heap.size 3 (.int .i64 (b:Int)):=(hb2.block _ hbx.lt).trans hbx;have hB2:=hB.trans (hb2.mono hB.size);have hlo2:=Nat.le_trans hlo hb2.size)
     | (gi_at_builtin;have _t:=hb2;refine wpListIn_append_own _ rfl _ _ 158 rfl w2.heap.size 154 i0 (.int .u16 0) 1 2 Tryz.underlying158 hi hz0 hz1 hz2' rfl (by decide) _ _ _ rfl (ho2.alloc _) ⟨W2.heap.size,0,none⟩ 1 1 [.int .u16 (q:Int)] rfl rfl (cell_one_new _ _ _) (by simp[Value.oneCell']) n1 n2 (by rw[World.size_alloc];omega) ?_;intro v' w3 hown' hgrow _;obtain⟨g',cap',rfl⟩:=ownsRow_succ hown';obtain⟨hv3,hv4,hk4,hb4,ho4,hs4⟩:=push_box (by decide) hv2 ho2 hlo2 hlow hown' hgrow;clear hown' hgrow;have hc3:=hv3.cell;have hf3:=hv3.frozen))
    have e2:hwV ((ps.take k).map fun p=>(puA b p).1)++[.int .u16 (q:Int)]=hwV ((ps.take (k+1)).map fun p=>(puA b p).1):=by rw[HS.out];unfold hwV;rw[List.map_append];rfl
    rw[e2] at ho4
    exact⟨(KeepsOthers.of_grownBy (grown_of_below hb2 none) (fun j o e=>by cases e)).trans hk4,fun j h1 h2=>(hs4 j (by omega) (by omega)).trans (hb2.block j (by omega)),by omega,⟨_,hv4,ho4⟩,
     (hs4 _ (by omega) (by omega)).trans hbx2,hB2.trans hb4,Nat.le_trans hlo2 hb4.size⟩
  case done =>
   rintro D W hD ⟨hk8,⟨v,hv,ho⟩,hbx,hB,hlo⟩ hK
   rw[hsize,←hps] at ho hk8
   have hc:=hv.cell
   have e3:(ps.take ps.length).map (fun p=>(puA b p).1)=numsF b x s:=by rw[HN.out,List.take_length,List.take_of_length_le hk8]
   rw[e3] at ho
   have hnl:(numsF b x s).length=ps.length:=by rw[←e3,List.length_map,List.take_length]
   clear hps hsize hgives hbox hne hsq bx0 bx1 hB2 hpl
   obtain⟨A,c,rfl,-,-⟩:=Sl.of_own ho
   gi_wp2
   refine⟨by simp,.inl ⟨_,_,rfl,run_takeDeferred hK,?_⟩⟩
   refine⟨_,results_tmp rfl _ _ _,_,rfl,?_,hB.trans (belowK_b (w:=w) (Nat.le_refl _) W D _ _ (by omega) hK rfl rfl)⟩
   rw[hnl]
   exact ownsRow_putObj (own_base ho (by omega)) _ hK rfl
  case stop =>
   rintro D k c W hD hk ⟨⟨rfl,hk9⟩,⟨v,hv,ho⟩,hbx,hB,hlo⟩ hK
   have hc:=hv.cell
   have hkp:k < ps.length:=by rw[hps,←hsize];exact hk
   have hnl:(numsF b x s).length=8:=by rw[HN.out,List.length_map,List.length_take];omega
   rw[←HN.out] at ho
   clear hps hsize hk hgives hbox hne hsq bx0 bx1 hB2 hpl
   obtain⟨A,c,rfl,-,-⟩:=Sl.of_own ho
   gi_wp2
   refine⟨by simp,.inl ⟨_,_,rfl,run_takeDeferred hK,?_⟩⟩
   refine⟨_,results_tmp rfl _ _ _,_,rfl,?_,hB.trans (belowK_b (w:=w) (Nat.le_refl _) W D _ _ (by omega) hK rfl rfl)⟩
   rw[hnl]
   exact ownsRow_putObj (own_base ho (by omega)) _ hK rfl
def padF (f b:List Nat):List Nat:=(f++List.replicate (8 - f.length) 0).take (8 - b.length)++b
theorem padF_len (f b:List Nat) (hf:f.length≤8) (hb:b.length≤8):(padF f b).length=8:=by unfold padF;simp;omega
theorem padF_le (f b:List Nat) (hf:∀n∈f,n≤65535) (hb:∀n∈b,n≤65535):∀n∈padF f b,n≤65535:=by
 intro n hn
 unfold padF at hn
 rcases List.mem_append.1 hn with h | h
 ·rcases List.mem_append.1 (List.mem_of_mem_take h) with h | h
  ·exact hf n h
  ·rw[List.eq_of_mem_replicate h];omega
 ·exact hb n h
def cutF (s:List UInt8):List UInt8×List UInt8:=((Lib.cut s [58,58]).1,(Lib.cut s [58,58]).2.1)
def readSixF (s:List UInt8):Adr:=sixA (padF (numsF 16 58 (cutF s).1) (numsF 16 58 (cutF s).2))
theorem cut_le (s:List UInt8):(cutF s).1.length≤s.length∧(cutF s).2.length≤s.length:=by
 unfold cutF Lib.cut
 split
 ·simp;omega
 ·simp
theorem cut8_at (g n:Nat) (hn:n≤8):∃A2,(∀W,(Instr.sliceAt 155 (.pointer (some ⟨g,0,none⟩)) (some (.int .i64 (8 - (n:Int)))) none none).run Tryz.prog W=.ok (.slice A2 n n) W)∧(0 < n→A2=some ⟨g,8 - n,none⟩):=by
 have hal:Tryz.prog.arrayLen 155=8:=by kernel_rfl
 have hzn:(8 - (n:Int)).toNat=8 - n:=by omega
 by_cases h:n=0
 ·subst h
  refine⟨some ⟨g,0,none⟩,fun W=>?_,fun h=>absurd h (by omega)⟩
  rw[run_sliceAt_array_l W 155 ⟨g,0,none⟩ (by kernel_rfl) .i64 _ (by omega) (by rw[hal];omega),hal]
  rfl
 ·refine⟨some ⟨g,8 - n,none⟩,fun W=>?_,fun _=>rfl⟩
  rw[run_sliceAt_array_l W 155 ⟨g,0,none⟩ (by kernel_rfl) .i64 _ (by omega) (by rw[hal];omega),hal,hzn]
  have e:8 - (8 - n)=n:=by omega
  have h1:¬8=8 - n:=by omega
  go_simp
theorem sizeU16:(Tryz.prog.info? 154).map (·.size)=some 1:=by kernel_rfl
theorem splice_pad (f:List Nat):splice (List.replicate 8 (.int .u16 0)) 0 (hwV f)=hwV (f++List.replicate (8 - f.length) 0):=by
 unfold splice
 rw[List.drop_replicate,length_hwV]
 unfold hwV
 rw[List.map_append,List.map_replicate,Nat.zero_add]
 rfl
theorem splice_back (l b:List Nat) (h8:l.length=8) (hb:b.length≤8):splice (hwV l) (8 - b.length) (hwV b)=hwV (l.take (8 - b.length)++b):=by
 unfold splice hwV
 rw[List.drop_of_length_le (by simp;omega)]
 simp
theorem below_drewN (w:World) (n:Nat):Below w.heap.size w (w.drewN n):=by
 induction n with
 | zero=>exact Below.refl _ _
 | succ n ih=>exact ih.drew
theorem acut_any (s:List UInt8) (hs:s.length≤100000) (w:World) (hE:Env w) :
  Calls Tryz.prog 118 #[.string (bstr s),.string ⟨#[58,58]⟩] w fun e w'=>e=.returned (.tuple #[.string (bstr (cutF s).1),.string (bstr (cutF s).2),.bool (Lib.cut s [58,58]).2.2])∧Below w.heap.size w w':=by
 obtain⟨m,hm⟩:=hE.most
 refine (Tryz.strings_Cut (bstr s) (bstr [58,58]) m w (by rw[size_bstr];omega) hm).mono ?_
 rintro e w' ⟨rfl,n,rfl⟩
 exact⟨rfl,below_drewN w n⟩
set_option maxHeartbeats 4000000 in
theorem areadSix_any (s:List UInt8) (hs:s.length≤100000) (w:World) (hE:Env w) :
  Calls Tryz.prog 186 #[.string (bstr s)] w fun e w'=>e=.returned (.agg (adrV (readSixF s)).toArray)∧Below w.heap.size w w':=by
 obtain⟨hc1,hc2⟩:=cut_le s
 have hcut:=Lib.hid (fun w' hE=>acut_any s hs w' hE)
 have hn1:=Lib.hid (fun w' hE=>show Calls Tryz.prog 187 #[.string (bstr (cutF s).1),.string ⟨#[58]⟩,.int .i64 16] w' (GaveNums (numsF 16 58 (cutF s).1) w') from anumbers_any 16 (.inr rfl) 58 (cutF s).1 (by omega) w' hE)
 have hn2:=Lib.hid (fun w' hE=>show Calls Tryz.prog 187 #[.string (bstr (cutF s).2),.string ⟨#[58]⟩,.int .i64 16] w' (GaveNums (numsF 16 58 (cutF s).2) w') from anumbers_any 16 (.inr rfl) 58 (cutF s).2 (by omega) w' hE)
 have hl1:=numsF_len 16 58 (cutF s).1
 have hl2:=numsF_len 16 58 (cutF s).2
 have HA:=Lib.hid (show readSixF s=sixA (padF (numsF 16 58 (cutF s).1) (numsF 16 58 (cutF s).2)) from rfl)
 have HL:=Lib.hid (padF_le _ _ (numsF_le 16 58 (cutF s).1) (numsF_le 16 58 (cutF s).2))
 generalize numsF 16 58 (cutF s).1=f at *
 generalize numsF 16 58 (cutF s).2=b at *
 generalize (Lib.cut s [58,58]).2.2=fd at *
 generalize (cutF s).1=s1 at *
 generalize (cutF s).2=s2 at *
 generalize bstr s=S at *
 obtain⟨w1,hw1⟩:∃w1,w1=w.alloc (.cells (adrV zeroA).toArray 26):=⟨_,rfl⟩
 have r1:Row w1 w.heap.size 26 (adrV zeroA):=by rw[hw1];exact Row.new w _ _
 have hb1:Below w.heap.size w w1:=by rw[hw1];exact (Below.refl _ w).alloc (Nat.le_refl _) _
 have hE1:=hE.next hb1
 go_enter Tryz.func186,Tryz.ntmps186
 have hm1:=Lib.hid (show (hwV f).length=Nat.min f.length 8 by rw[length_hwV];exact (Nat.min_eq_left hl1).symm)
 have hm2:=Lib.hid (show (hwV b).length=Nat.min b.length b.length by rw[length_hwV];exact (Nat.min_self _).symm)
 have hfit1:=Lib.hid (show 0+(hwV f).length≤(List.replicate 8 (Value.int .u16 0)).length by rw[length_hwV,List.length_replicate];omega)
 obtain⟨pd,hpd⟩:∃pd,pd=f++List.replicate (8 - f.length) 0:=⟨_,rfl⟩
 have hpl:pd.length=8:=by rw[hpd];simp;omega
 have HPl:=Lib.hid hpl
 have HPd:=Lib.hid hpd
 have hfit2:=Lib.hid (show 8 - b.length+(hwV b).length≤(hwV pd).length by rw[length_hwV,length_hwV,hpl];omega)
 obtain⟨pq,hpq⟩:∃pq,pq=pd.take (8 - b.length)++b:=⟨_,rfl⟩
 have HPq:=Lib.hid hpq
 have hpf:padF f b=pq:=by rw[hpq,hpd];rfl
 have hql:pq.length=8:=by rw[hpq,List.length_append,List.length_take,hpl];omega
 rw[hpf] at HA HL
 have HQl:=Lib.hid hql
 have hq6:(sixA pq).Ok:=sixA_ok pq hql
 have hsix:=Lib.hid (fun w'=>asix_any pq hql HL.out w')
 have hsl:=Lib.hid (show (Tryz.prog.info? 155).map (·.size)=some (hwV pq).toArray.size by rw[show (Tryz.prog.info? 155).map (·.size)=some 8 by kernel_rfl,List.size_toArray,length_hwV,hql])
 obtain⟨L8,hL8⟩:∃L,L=hwV pq:=⟨_,rfl⟩
 rw[←hL8] at hsix hsl
 have HL8:=Lib.hid hL8
 obtain⟨V,hV⟩:∃V,V=adrV (sixA pq):=⟨_,rfl⟩
 obtain⟨Z,hZ⟩:∃Z,Z=adrV zeroA:=⟨_,rfl⟩
 have hsz:=Lib.hid (show (Tryz.prog.info? 26).map (·.size)=some V.toArray.size by rw[hV,size_adr,List.size_toArray,length_adrV hq6])
 have hV1:=Lib.hid (show V.toArray.all (·.oneCell')=true from all_one (by rw[hV];exact adrV_one _))
 have hVs:=Lib.hid (show Z.toArray.size=V.toArray.size by rw[hV,hZ,List.size_toArray,List.size_toArray,length_adrV zeroA_ok,length_adrV hq6])
 rw[←hV] at hsix
 rw[HA.out,←hV]
 have HZ:=Lib.hid hZ
 clear hpl hpd hpq hpf hql hL8 hV hZ hq6 HA HL
 have hbl:(b.length:Int)≤8:=by omega
 have tok1:True:=trivial
 have tok2:True:=trivial
 clear hE hc1 hc2 hs
 go_wp2_with (first
  | (go_at_call 118;change Calls _ _ _ (w.alloc (.cells (adrV zeroA).toArray 26)) _;rw[←hw1];refine (hcut.out _ hE1).mono ?_;rintro e w2 ⟨rfl,hb2⟩;have hE2:=hE1.next hb2;have r2:=r1.later hb2 r1.lt;have hb2:=hb1.trans (hb2.mono hb1.size);clear hcut hw1 r1 hE1)
  | (go_at_call 187;have _t:=tok1;refine (hn1.out _ hE2).mono ?_;rintro e w3 ⟨v1,rfl,ho1,hb3⟩;obtain⟨A1,k1,rfl,-,hs1⟩:=Sl.of_own ho1;have hE3:=hE2.next hb3;have r3:=r2.later hb3 r2.lt;have hb3:=hb2.trans (hb3.mono hb2.size);clear hn1 ho1 tok1 r2)
  | (go_at_call 187;have _t:=tok2;refine (hn2.out _ hE3).mono ?_;rintro e w4 ⟨v2,rfl,ho2,hb4⟩;obtain⟨A2,k2,rfl,-,hs2⟩:=Sl.of_own ho2;have r4:=r3.later hb4 r3.lt;have hs1:=hs1.later (Nat.le_refl _) hb4;have hb4:=hb3.trans (hb4.mono hb3.size);clear hn2 ho2 tok2 r3;obtain⟨A3,hcut8,hA3⟩:=cut8_at w4.heap.size b.length hl2;have HA3:=Lib.hid hA3;clear hA3;have hp1:=Lib.hid (fun o (h:0 < (hwV f).length)=>(hs1.later (Nat.le_refl _) ((Below.refl w4.heap.size w4).alloc (Nat.le_refl _) o)).hpos h))
  | (with_reducible refine wpList_copy_splice rfl (.tmp 19) (.tmp 20) 158 158 rfl 154 Tryz.underlying158 sizeU16 _ _ _ _ _ _ rfl rfl w4.heap.size 0 (List.replicate 8 (.int .u16 0)) _ (heap_alloc_new w4 _) (hwV f) hm1.out (fun h=>⟨rfl,hp1.out _ h⟩) hfit1.out (hwV_one _) w4.heap.size w4 ((Below.refl _ _).alloc (Nat.le_refl _) _) (Nat.le_refl _) ?_;intro w5 HG5 hb5;rw[splice_pad,←HPd.out] at HG5;have hp2:=Lib.hid (fun h=>(hs2.later (Nat.le_refl _) hb5).hpos h))
  | (with_reducible refine wpList_copy_splice rfl (.tmp 25) (.tmp 26) 158 158 rfl 154 Tryz.underlying158 sizeU16 _ _ _ _ _ _ rfl rfl w4.heap.size (8 - b.length) (hwV pd) _ HG5.out (hwV b) hm2.out (fun h=>⟨HA3.out (by rw[length_hwV] at h;exact h),hp2.out h⟩) hfit2.out (hwV_one _) w4.heap.size w4 hb5 (Nat.le_refl _) ?_;intro w6 HG6 hb6;rw[splice_back _ _ HPl.out hl2,←HPq.out,←HL8.out] at HG6;clear HG5 hp2 hb5)
  | (with_reducible refine wpList_load_row rfl 155 (.tmp 8) rfl w4.heap.size rfl 155 L8.toArray (0,0) _ HG6.out Tryz.underlying155 rfl hsl.out ?_)
  | (go_at_call 202;refine (hsix.out _).mono ?_;rintro e w7 ⟨rfl,hb7⟩;have r6:=r4.later hb6 r4.lt;have r7:=r6.later hb7 r6.lt;have hb7:=(hb4.trans (hb6.mono hb4.size)).trans (hb7.mono (hb4.trans (hb6.mono hb4.size)).size);have H0:=Lib.hid (show w7.heap[w.heap.size]?=some (.cells Z.toArray 26 (0,0)) by rw[HZ.out];exact r7);clear r4 r6 r7)
  | (with_reducible refine wpList_store_row rfl 26 (.tmp 2) (.tmp 29) rfl w.heap.size V.toArray rfl rfl 26 Z.toArray H0.out hsz.out hVs.out hV1.out ?_;refine Hid.out ?_))
 refine Lib.hid ?_
 generalize hw8:World.setRow _ _ _=w8
 obtain⟨r8,hg8⟩:=row_set (show Row w7 w.heap.size 26 Z from H0.out) hw8
 have hb8:=hb7.grown hg8 hb7.size (fun k h=>by cases h;exact Nat.le_refl _)
 have R8:=Lib.hid (show w8.heap[w.heap.size]?=some (.cells V.toArray 26 (0,0)) from r8)
 clear hw8 r8 hg8 H0
 go_wp2_with (with_reducible refine bodyPost_ret (results_cell_row rfl _ _ w.heap.size 26 V.toArray (0,0) _ rfl R8.out Tryz.underlying26 rfl hsz.out) rfl ?_)
theorem step_copy_any {P:Program} {w:World} {ops:Array Oper} {o:Oper} {a:Act} {K:Act→World→Prop} {Q:Exit→Act→World→Prop} {E:Prop} (dst:Option Tmp) (hdst:o.dst=dst) (hgd:Region.wanted o (yielded ops a.tmps)=true) (d s:Operand) (dT sT:TypeId)
  (ho:o.op=.call { callee:=.builtin .copy,args:=#[d,s],argTypes:=#[dT,sT] }) (elem:TypeId) (hu:P.underlying dT=some (.slice elem)) (hsz:(P.info? elem).map (·.size)=some 1)
  (g off dLen dCap:Nat) (sp:Option Addr) (sLen sCap:Nat) (hd:a.eval d=.slice (some ⟨g,off,none⟩) dLen dCap) (hs:a.eval s=.slice sp sLen sCap)
  (t:TypeId) (cur:List Value) (hg:Row w g t cur) (cs:List Value) (n:Nat) (hl:cs.length=n) (hn:n=Nat.min sLen dLen)
  (hpos:0 < cs.length→∃ad,sp=some ad∧∀j v,cs[j]?=some v→w.cell? (ad.add j)=some v) (hfit:off+cs.length≤cur.length) (h1:∀v∈cs,v.oneCell'=true)
  (h:∀w',Row w' g t (splice cur off cs)→w.grownBy w' (some g)→K (a.put dst (goInt n)) w'):if Region.wanted o (yielded ops a.tmps)=true then Oper.wp P o a w K Q else E:=by
 by_cases h0:cs.length=0
 ·obtain rfl:cs=[]:=List.eq_nil_of_length_eq_zero h0
  obtain rfl:n=0:=by simpa using hl.symm
  subst hdst
  rw[if_pos hgd]
  have hrun:=run_copy_none (P:=P) w dT sT o.type elem (some ⟨g,off,none⟩) sp dLen dCap sLen sCap hu hsz hn.symm
  unfold Oper.wp
  simp[execOp,ho,resolve,invoke,builtin,hd,hs,hrun,Result.andThen]
  exact h w (by simpa [splice] using hg) (grown_refl _ _)
 ·obtain⟨ad,rfl,hsrc⟩:=hpos (by omega)
  exact step_copy_row dst hdst hgd d s dT sT ho elem hu hsz g off dLen dCap ad sLen sCap hd hs t cur hg cs n hl hn hsrc hfit h1 h
def pad4 (f:List Nat):List Nat:=f.take 4++List.replicate (4 - (f.take 4).length) 0
theorem pad4_len (f:List Nat):(pad4 f).length=4:=by unfold pad4;rw[List.length_append,List.length_replicate,List.length_take];omega
theorem splice_pad4 (f:List Nat):splice (List.replicate 4 (.int .u16 0)) 0 (hwV (f.take 4))=hwV (pad4 f):=by
 unfold splice pad4
 rw[List.drop_replicate,length_hwV]
 unfold hwV
 rw[List.map_append,List.map_replicate,Nat.zero_add]
 rfl
def fourN (l:List Nat):Adr:=four4 (UInt8.ofNat (l.getD 0 0)) (UInt8.ofNat (l.getD 1 0)) (UInt8.ofNat (l.getD 2 0)) (UInt8.ofNat (l.getD 3 0))
def readF (s:List UInt8):Adr:=if 0≤Lib.indexByte s 58 then readSixF s else fourN (pad4 (numsF 10 46 s))
theorem readSixF_ok (s:List UInt8):(readSixF s).Ok:=sixA_ok _ (padF_len _ _ (numsF_len _ _ _) (numsF_len _ _ _))
theorem readF_ok (s:List UInt8):(readF s).Ok:=by
 unfold readF
 split
 ·exact readSixF_ok s
 ·rfl
theorem readF_check (s:List UInt8):checkA (readF s)=true:=by
 unfold readF
 split
 ·rfl
 ·rfl
set_option maxHeartbeats 4000000 in
theorem aread_any (s:List UInt8) (hs:s.length≤100000) (w:World) (hE:Env w) :
  Calls Tryz.prog 156 #[.string (bstr s)] w fun e w'=>e=.returned (.agg (adrV (readF s)).toArray)∧Below w.heap.size w w':=by
 have hok:=readF_ok s
 obtain⟨V,hV⟩:∃V,V=adrV (readF s):=⟨_,rfl⟩
 obtain⟨Z,hZ⟩:∃Z,Z=adrV zeroA:=⟨_,rfl⟩
 have hsz:=Lib.hid (show (Tryz.prog.info? 26).map (·.size)=some V.toArray.size by rw[hV,size_adr,List.size_toArray,length_adrV hok])
 have hV1:=Lib.hid (show V.toArray.all (·.oneCell')=true from all_one (by rw[hV];exact adrV_one _))
 have hVs:=Lib.hid (show Z.toArray.size=V.toArray.size by rw[hV,hZ,List.size_toArray,List.size_toArray,length_adrV zeroA_ok,length_adrV hok])
 have hct:=Lib.hid (fun w'=>Tryz.strings_Contains_one (bstr s) 58 w')
 obtain⟨w1,hw1⟩:∃w1,w1=w.alloc (.cells (adrV zeroA).toArray 26):=⟨_,rfl⟩
 have r1:Row w1 w.heap.size 26 Z:=by rw[hw1,hZ];exact Row.new w _ _
 have hb1:Below w.heap.size w w1:=by rw[hw1];exact (Below.refl _ w).alloc (Nat.le_refl _) _
 have hE1:=hE.next hb1
 rw[←hV]
 by_cases h6:0≤Lib.indexByte s 58
 ·have h6':decide (0≤Lib.indexByte (bstr s).data.toList 58)=true:=decide_eq_true h6
  rw[h6'] at hct
  have hrd:=Lib.hid (fun w' hE=>areadSix_any s hs w' hE)
  rw[show readSixF s=readF s by unfold readF;rw[if_pos h6],←hV] at hrd
  clear hV hok hZ h6 h6' hE
  generalize bstr s=S at *
  go_enter Tryz.func156,Tryz.ntmps156
  go_wp2_with (first
   | (go_at_call 185;change Calls _ _ _ (w.alloc (.cells (adrV zeroA).toArray 26)) _;rw[←hw1];clear hw1;refine (hct.out _).mono ?_;rintro e w2 ⟨rfl,rfl⟩)
   | (go_at_call 186;refine (hrd.out _ hE1).mono ?_;rintro e w7 ⟨rfl,hb7⟩;have r7:=r1.later hb7 r1.lt;have hb7:=hb1.trans (hb7.mono hb1.size);have H0:=Lib.hid (show w7.heap[w.heap.size]?=some (.cells Z.toArray 26 (0,0)) from r7);clear r7)
   | (with_reducible refine wpList_store_row rfl 26 (.tmp 2) (.tmp 7) rfl w.heap.size V.toArray rfl rfl 26 Z.toArray H0.out hsz.out hVs.out hV1.out ?_;refine Hid.out ?_))
  refine Lib.hid ?_
  generalize hw8:World.setRow _ _ _=w8
  obtain⟨r8,hg8⟩:=row_set (show Row w7 w.heap.size 26 Z from H0.out) hw8
  have hb8:=hb7.grown hg8 hb7.size (fun k h=>by cases h;exact Nat.le_refl _)
  have R8:=Lib.hid (show w8.heap[w.heap.size]?=some (.cells V.toArray 26 (0,0)) from r8)
  clear hw8 r8 hg8 H0
  go_wp2_with (with_reducible refine bodyPost_ret (results_cell_row rfl _ _ w.heap.size 26 V.toArray (0,0) _ rfl R8.out Tryz.underlying26 rfl hsz.out) rfl ?_)
 ·have h6':decide (0≤Lib.indexByte (bstr s).data.toList 58)=false:=decide_eq_false h6
  rw[h6'] at hct
  have hn:=Lib.hid (fun w' hE=>show Calls Tryz.prog 187 #[.string (bstr s),.string ⟨#[46]⟩,.int .i64 10] w' (GaveNums (numsF 10 46 s) w') from anumbers_any 10 (.inl rfl) 46 s hs w' hE)
  have hnl:=numsF_len 10 46 s
  have HF:=Lib.hid (show readF s=fourN (pad4 (numsF 10 46 s)) by unfold readF;rw[if_neg h6])
  generalize numsF 10 46 s=f at *
  have hm1:=Lib.hid (show (hwV (f.take 4)).length=Nat.min f.length 4 by rw[length_hwV,List.length_take];exact Nat.min_comm _ _)
  have hfit1:=Lib.hid (show 0+(hwV (f.take 4)).length≤(List.replicate 4 (Value.int .u16 0)).length by rw[length_hwV,List.length_replicate,List.length_take];omega)
  have hsp:=Lib.hid (splice_pad4 f)
  have hp4:=pad4_len f
  obtain⟨x0,hx0⟩:∃x,x=UInt8.ofNat ((pad4 f).getD 0 0):=⟨_,rfl⟩
  obtain⟨x1,hx1⟩:∃x,x=UInt8.ofNat ((pad4 f).getD 1 0):=⟨_,rfl⟩
  obtain⟨x2,hx2⟩:∃x,x=UInt8.ofNat ((pad4 f).getD 2 0):=⟨_,rfl⟩
  obtain⟨x3,hx3⟩:∃x,x=UInt8.ofNat ((pad4 f).getD 3 0):=⟨_,rfl⟩
  have h4:=Lib.hid (fun w'=>afour_any x0 x1 x2 x3 w')
  rw[show four4 x0 x1 x2 x3=readF s by rw[HF.out,hx0,hx1,hx2,hx3];rfl,←hV] at h4
  have u8w:∀(n:Nat) (x:UInt8),x=UInt8.ofNat n→IntKind.u8.wrap (n:Int)=(x.toNat:Int):=fun n x h=>by rw[h,UInt8.toNat_ofNat',IntKind.wrap_u8];omega
  have hw0:=u8w _ _ hx0
  have hw1':=u8w _ _ hx1
  have hw2:=u8w _ _ hx2
  have hw3:=u8w _ _ hx3
  have hg0:=get_hwV (pad4 f) 0 (by omega)
  have hg1:=get_hwV (pad4 f) 1 (by omega)
  have hg2:=get_hwV (pad4 f) 2 (by omega)
  have hg3:=get_hwV (pad4 f) 3 (by omega)
  clear hx0 hx1 hx2 hx3 u8w
  generalize (pad4 f).getD 0 0=n0 at *
  generalize (pad4 f).getD 1 0=n1 at *
  generalize (pad4 f).getD 2 0=n2 at *
  generalize (pad4 f).getD 3 0=n3 at *
  have G0:=Lib.hid hg0
  have G1:=Lib.hid hg1
  have G2:=Lib.hid hg2
  have G3:=Lib.hid hg3
  clear hV hok hZ h6 h6' hE hg0 hg1 hg2 hg3 hp4
  generalize bstr s=S at *
  go_enter Tryz.func156,Tryz.ntmps156
  go_wp2_with (first
   | (go_at_call 185;change Calls _ _ _ (w.alloc (.cells (adrV zeroA).toArray 26)) _;rw[←hw1];clear hw1;refine (hct.out _).mono ?_;rintro e w2 ⟨rfl,rfl⟩))
  obtain⟨w3,hw3e⟩:∃w3,w3=w2.alloc (.cells (List.replicate 4 (.int .u16 0)).toArray 188):=⟨_,rfl⟩
  have rl:Row w3 w2.heap.size 188 (List.replicate 4 (.int .u16 0)):=by rw[hw3e];exact Row.new w2 _ _
  have hb3':Below w2.heap.size w2 w3:=by rw[hw3e];exact (Below.refl _ w2).alloc (Nat.le_refl _) _
  have hE3:=hE1.next hb3'
  have r3:=r1.later hb3' r1.lt
  have hb3:=hb1.trans (hb3'.mono hb1.size)
  have hlt3:=r1.lt
  change Code.wp _ _ _ _ (w2.alloc (.cells (List.replicate 4 (.int .u16 0)).toArray 188))
  rw[←hw3e]
  clear hw3e hct hb3'
  have HR:=Lib.hid rl
  clear rl
  refine wp_region_noPanic ?_
  refine wp_region_held_drew (S:=fun _=>True) (by kernel_rfl) (trivial) (fun hHeld=>?_)
  refine rtake 0 _ (some 8) _ rfl rfl (by kernel_rfl) (by kernel_rfl) (by kernel_rfl) (fun _ _ _ h=>h) (by rfl) hHeld (by intro w hS;go_simp;try with_reducible rfl) ?_
  try (first | (rw[put_some];dsimp only[List.set]) | rw[put_none])
  refine rtake 1 _ (some 9) _ rfl rfl (by kernel_rfl) (by kernel_rfl) (by kernel_rfl) (fun _ _ _ h=>h) (by rfl) hHeld (by intro w hS;go_simp;try with_reducible rfl) ?_
  try (first | (rw[put_some];dsimp only[List.set]) | rw[put_none])
  refine wpAnyH_ready (rs:=[2]) (by kernel_rfl) (by simp) (AllReadyH.cons (o:=_) rfl (fun K hK=>?_) AllReadyH.nil)
  go_simp
  refine (hn.out _ (hE3.next (Below.refl _ _).drew)).mono ?_;rintro e w5 ⟨v5,rfl,ho5,hb5⟩;obtain⟨A5,k5,rfl,-,hs5⟩:=Sl.of_own ho5
  try go_wp2_with fail
  refine hK.out _ _ (trivial) (fun hHeld=>?_)
  clear hK K
  try (first | (rw[put_some];dsimp only[List.set]) | rw[put_none])
  refine wpAnyH_ready (rs:=[3]) (by kernel_rfl) (by simp) (AllReadyH.cons (o:=_) rfl (fun K hK=>?_) AllReadyH.nil)
  have hs5':Sl w5 A5 k5 (hwV (f.take 4)):=by unfold hwV;rw[List.map_take];exact hs5.take
  refine step_copy_any (some 11) rfl (by rfl) (.tmp 8) (.tmp 10) 158 158 rfl 154 Tryz.underlying158 sizeU16 w2.heap.size 0 4 4 _ _ _ rfl rfl 188 _ (HR.out.drew.later hb5 HR.out.lt) (hwV (f.take 4)) _ rfl hm1.out hs5'.hpos hfit1.out (hwV_one _) ?_;intro w6 hr6 hg6
  refine hK.out _ _ (trivial) (fun _=>?_)
  clear hK K
  try (first | (rw[put_some];dsimp only[List.set]) | rw[put_none])
  refine wpAnyH_done (by kernel_rfl) ?_ _
  refine NoPanic.normal ?_
  rw[hsp.out] at hr6
  have c0:=(hr6.cell 0).trans G0.out
  have c1:=(hr6.cell 1).trans G1.out
  have c2:=(hr6.cell 2).trans G2.out
  have c3:=(hr6.cell 3).trans G3.out
  have r5:Row w5 w.heap.size 26 Z:=r3.drew.later hb5 r3.lt
  have r6:=r5.grown hg6 (by omega)
  have hb6:=(hb3.drew.trans (hb5.mono hb3.size)).grown hg6 (Nat.le_trans hb3.size hb5.size) (fun k h=>by cases h;omega)
  clear hb5 ho5 hg6 r5 hs5 hs5' hHeld HR hr6 hm1 hfit1 hsp
  go_wp2_with (first
   | (go_at_call 188;refine (h4.out _).mono ?_;rintro e w7 ⟨rfl,hb7⟩;have r7:=r6.later hb7 r6.lt;have hb7:=hb6.trans (hb7.mono hb6.size);have H0:=Lib.hid (show w7.heap[w.heap.size]?=some (.cells Z.toArray 26 (0,0)) from r7);clear r7)
   | (with_reducible refine wpList_store_row rfl 26 (.tmp 2) (.tmp 24) rfl w.heap.size V.toArray rfl rfl 26 Z.toArray H0.out hsz.out hVs.out hV1.out ?_;refine Hid.out ?_))
  refine Lib.hid ?_
  generalize hw8:World.setRow _ _ _=w8
  obtain⟨r8,hg8⟩:=row_set (show Row w7 w.heap.size 26 Z from H0.out) hw8
  have hb8:=hb7.grown hg8 hb7.size (fun k h=>by cases h;exact Nat.le_refl _)
  have R8:=Lib.hid (show w8.heap[w.heap.size]?=some (.cells V.toArray 26 (0,0)) from r8)
  clear hw8 r8 hg8 H0
  go_wp2_with (with_reducible refine bodyPost_ret (results_cell_row rfl _ _ w.heap.size 26 V.toArray (0,0) _ rfl R8.out Tryz.underlying26 rfl hsz.out) rfl ?_)
theorem dv_hex:∀d:Nat,d < 16→dvL (hexD d).toNat=d:=by
 intro d hd
 have:d=0∨d=1∨d=2∨d=3∨d=4∨d=5∨d=6∨d=7∨d=8∨d=9∨d=10∨d=11∨d=12∨d=13∨d=14∨d=15:=by omega
 rcases this with rfl | rfl | rfl | rfl | rfl | rfl | rfl | rfl | rfl | rfl | rfl | rfl | rfl | rfl | rfl | rfl<;>decide
theorem puL_append (b:Nat) (t:List UInt8):∀(s:List UInt8) (m k:Nat),puL b m s=(k,0)→puL b m (s++t)=puL b k t
 | [],m,k,h=>by cases h;rfl
 | c :: s,m,k,h=>by
  rw[puL] at h
  rw[List.cons_append,puL]
  split at h
  ·cases h
  ·rename_i h1
   rw[if_neg h1]
   split at h
   ·cases h
   ·rename_i h2
    rw[if_neg h2]
    exact puL_append b t s _ k h
theorem puL_num (b:Nat) (h2:2≤b) (hb:b≤16) (n:Nat):n≤65535→puL b 0 (numL b n)=(n,0):=by
 induction n using Nat.strongRecOn with
 | _ n ih =>
  intro hn
  by_cases hlt:n < b
  ·rw[numL_small b n hlt]
   show (if b≤dvL (hexD n).toNat then (0,2) else if 65535 < 0*b+dvL (hexD n).toNat then (65535,1) else puL b (0*b+dvL (hexD n).toNat) [])=_
   rw[dv_hex n (by omega),if_neg (by omega),if_neg (by omega),Nat.zero_mul,Nat.zero_add];rfl
  ·have hdm:n/b*b+n%b=n:=by rw[Nat.mul_comm];exact Nat.div_add_mod n b
   have hml:n%b < b:=Nat.mod_lt _ (by omega)
   rw[numL_great b n (by omega) (by omega),puL_append b _ _ 0 (n/b) (ih (n/b) (Nat.div_lt_self (by omega) (by omega)) (Nat.le_trans (Nat.div_le_self _ _) hn))]
   show (if b≤dvL (hexD (n%b)).toNat then (0,2) else if 65535 < n/b*b+dvL (hexD (n%b)).toNat then (65535,1) else puL b (n/b*b+dvL (hexD (n%b)).toNat) [])=_
   rw[dv_hex _ (by omega),if_neg (by omega),hdm,if_neg (by omega)];rfl
theorem puA_num (b:Nat) (h2:2≤b) (hb:b≤16) (n:Nat) (hn:n≤65535):(puA b (numL b n)).1=n:=by
 unfold puA
 rw[if_neg (numL_ne b n),puL_num b h2 hb n hn]
theorem numsF_of (b dg most:Nat) (x:UInt8) (h2:2≤b) (hb:b≤16) (s:List UInt8) (l:List Nat) (hl:l.length≤8) (hm:most≤65535) (h:numbersL b dg most x s=some l):numsF b x s=l:=by
 unfold numbersL at h
 unfold numsF
 by_cases h0:s=[]
 ·rw[if_pos h0] at h ⊢;cases h;rfl
 ·rw[if_neg h0] at h ⊢
  obtain⟨h1,h3⟩:=(goL_iff b dg most h2 hb _ _).1 h
  rw[←h1,List.take_of_length_le (by rw[List.length_map];exact hl),List.map_map]
  conv=>rhs;rw[←List.map_id l]
  exact List.map_congr_left fun n hn=>puA_num b h2 hb n (Nat.le_trans (h3 n hn).1 hm)
theorem index_findC (s:List UInt8):Lib.index s [58,58]=match findC s with | none=>-1 | some k=>(k:Int):=by
 induction s with
 | nil=>rfl
 | cons c s ih =>
  cases s with
  | nil =>
   show (if _ then _ else _)=_
   rw[if_neg (by simp[List.isPrefixOf])];rfl
  | cons d s =>
   show (if _ then _ else _)=_
   by_cases h:c=58∧d=58
   ·obtain⟨rfl,rfl⟩:=h
    rw[if_pos (by simp[List.isPrefixOf])];rfl
   ·rw[if_neg (by simp[List.isPrefixOf];intro h1 h2;exact h ⟨h1.symm,h2.symm⟩),ih,findC_cons c d s h]
    cases findC (d :: s) with
    | none=>rfl
    | some k =>
     show (if ((k:Int)==-1)=true then (-1:Int) else (k:Int)+1)=((k+1:Nat):Int)
     rw[if_neg (by simp)];rfl
theorem cutF_none (s:List UInt8) (h:findC s=none):cutF s=(s,[]):=by
 have:=index_findC s
 rw[h] at this
 unfold cutF Lib.cut
 rw[this];rfl
theorem cutF_some (s:List UInt8) (k:Nat) (h:findC s=some k):cutF s=(s.take k,s.drop (k+2)):=by
 have:=index_findC s
 rw[h] at this
 unfold cutF Lib.cut
 rw[this,if_pos (by simp)];rfl
theorem indexByte_mem (s:List UInt8) (c:UInt8):0≤Lib.indexByte s c↔c∈s:=by
 constructor
 ·intro h
  obtain⟨o,ho⟩:∃o:Nat,Lib.indexByte s c=(o:Int):=⟨(Lib.indexByte s c).toNat,by omega⟩
  exact List.mem_of_getElem? (Lib.indexByte_some ho).1
 ·intro h
  have hge:=Lib.indexByte_ge s c
  by_cases hn:Lib.indexByte s c=-1
  ·obtain⟨k,hk⟩:=List.getElem?_of_mem h
   exact absurd hk (Lib.indexByte_none hn k)
  ·omega
theorem findC_mem (s:List UInt8):∀k,findC s=some k→(58:UInt8)∈s:=by
 intro k h
 have:=index_findC s
 rw[h] at this
 rcases Lib.index_spec s [58,58] with ⟨h1,-⟩ | ⟨i,h1,h2,h3,-⟩
 ·rw[this] at h1;simp at h1
 ·unfold Lib.occAt at h3
  cases hd:s.drop i with
  | nil=>rw[hd] at h3;simp[List.isPrefixOf] at h3
  | cons c t =>
   rw[hd] at h3
   simp[List.isPrefixOf] at h3
   have:c∈s.drop i:=by rw[hd];exact List.mem_cons_self ..
   rw[←h3.1] at this
   exact List.mem_of_mem_drop this
theorem padF_full (l:List Nat) (h:l.length=8):padF l []=l:=by unfold padF;simp[h];exact List.take_of_length_le (by omega)
theorem padF_padL (f b:List Nat) (h:f.length+b.length≤7):padF f b=padL f b:=by
 unfold padF padL
 rw[List.take_append,List.take_of_length_le (by omega),List.take_replicate,List.append_assoc,show min (8 - b.length - f.length) (8 - f.length)=8 - (f.length+b.length) by omega]
theorem glue_in (x:UInt8) (ps:List (List UInt8)) (h:2≤ps.length):x∈glueL x ps:=by
 match ps,h with
 | p :: q :: ps,_=>rw[glueL_cons x p (q :: ps) (by simp)];simp
theorem read_six (s:List UInt8) (a:Adr) (h:parse6 s=some a):readF s=a:=by
 unfold parse6 at h
 cases hf:findC s with
 | none =>
  rw[hf] at h
  cases hn:numbersL 16 4 65535 58 s with
  | none=>rw[hn] at h;cases h
  | some l =>
   simp only[hn] at h
   by_cases hc:l.length=8∧textA (sixA l)=s
   ·rw[if_pos hc] at h
    cases h
    have hs:=((numbersL_iff 16 4 65535 58 (by omega) (by omega) (.inr rfl) s l).1 hn).1
    unfold readF
    rw[if_pos ((indexByte_mem s 58).2 (by rw[hs];exact glue_in 58 _ (by rw[List.length_map];omega)))]
    unfold readSixF
    rw[cutF_none s hf,numsF_of 16 4 65535 58 (by omega) (by omega) s l (by omega) (by omega) hn]
    show sixA (padF l [])=_
    rw[padF_full l hc.1]
   ·rw[if_neg hc] at h;cases h
 | some k =>
  rw[hf] at h
  cases hn:numbersL 16 4 65535 58 (s.take k) with
  | none=>simp[hn] at h
  | some f =>
   cases hm:numbersL 16 4 65535 58 (s.drop (k+2)) with
   | none=>simp[hn,hm] at h
   | some b =>
    simp only[hn,hm] at h
    by_cases hc:f.length+b.length≤7∧textA (sixA (padL f b))=s
    ·rw[if_pos hc] at h
     cases h
     unfold readF
     rw[if_pos ((indexByte_mem s 58).2 (findC_mem s k hf))]
     unfold readSixF
     rw[cutF_some s k hf]
     show sixA (padF (numsF 16 58 (s.take k)) (numsF 16 58 (s.drop (k+2))))=_
     rw[numsF_of 16 4 65535 58 (by omega) (by omega) _ f (by omega) (by omega) hn,numsF_of 16 4 65535 58 (by omega) (by omega) _ b (by omega) (by omega) hm,padF_padL f b hc.1]
    ·rw[if_neg hc] at h;cases h
theorem read_parse (s:List UInt8) (a:Adr) (h:parseL s=some a):readF s=a:=by
 unfold parseL at h
 cases hn:numbersL 10 3 255 46 s with
 | none=>rw[hn] at h;exact read_six s a h
 | some l =>
  simp only[hn] at h
  by_cases h4:l.length=4
  ·rw[if_pos h4] at h
   cases h
   obtain⟨hs,hall⟩:=(numbersL_iff 10 3 255 46 (by omega) (by omega) (.inl rfl) s l).1 hn
   have hno:¬0≤Lib.indexByte s 58:=by
    rw[indexByte_mem,hs]
    intro hmem
    rcases mem_glue 46 _ 58 hmem with h | ⟨p,hp,hc⟩
    ·exact absurd h (by decide)
    ·obtain⟨n,-,rfl⟩:=List.mem_map.1 hp
     exact (numL_sign 10 n (by omega) (by omega) 58 hc).2 rfl
   unfold readF
   rw[if_neg hno,numsF_of 10 3 255 46 (by omega) (by omega) s l (by omega) (by omega) hn]
   match l,h4 with
   | [p,q,r,t],_=>rfl
  ·rw[if_neg h4] at h;exact read_six s a h
theorem parse_read (s:List UInt8):parseL s=if textA (readF s)=s then some (readF s) else none:=by
 by_cases h:textA (readF s)=s
 ·rw[if_pos h]
  exact (parseL_iff s (readF s)).2 ⟨readF_ok s,readF_check s,h⟩
 ·rw[if_neg h]
  cases hp:parseL s with
  | none=>rfl
  | some a =>
   have hr:=read_parse s a hp
   exact absurd (by rw[hr];exact ((parseL_iff s a).1 hp).2.2) h
set_option maxHeartbeats 4000000 in
theorem aparse_any (s:List UInt8) (hs:s.length≤100000) (w:World) (hE:Env w) :
  Calls Tryz.prog 119 #[.string (bstr s)] w fun e w'=>e=.returned (parsV (parseL s))∧Below w.heap.size w w':=by
 have hrd:=Lib.hid (fun w' hE=>aread_any s hs w' hE)
 have hok:=readF_ok s
 have htx:=Lib.hid (fun w' hE=>atext_any (readF s) hok w' hE)
 have HP:=Lib.hid (parse_read s)
 obtain⟨V,hV⟩:∃V,V=adrV (readF s):=⟨_,rfl⟩
 obtain⟨Z,hZ⟩:∃Z,Z=adrV zeroA:=⟨_,rfl⟩
 have hVl:V.length=17:=by rw[hV];exact length_adrV hok
 have hZl:Z.length=17:=by rw[hZ];exact length_adrV zeroA_ok
 have hsz:=Lib.hid (show (Tryz.prog.info? 26).map (·.size)=some V.toArray.size by rw[size_adr,List.size_toArray,hVl])
 have hszZ:=Lib.hid (show (Tryz.prog.info? 26).map (·.size)=some Z.toArray.size by rw[size_adr,List.size_toArray,hZl])
 have hV1:=Lib.hid (show V.toArray.all (·.oneCell')=true from all_one (by rw[hV];exact adrV_one _))
 have hZ1:=Lib.hid (show Z.toArray.all (·.oneCell')=true from all_one (by rw[hZ];exact adrV_one _))
 have hVs:=Lib.hid (show Z.toArray.size=V.toArray.size by rw[List.size_toArray,List.size_toArray,hVl,hZl])
 have HPs:=Lib.hid (show ∀b,(b=true→textA (readF s)=s)→(b=false→textA (readF s)≠s)→parsV (parseL s)=.tuple #[.agg (if b then V else Z).toArray,.bool b] by
  intro b h1 h2
  rw[HP.out]
  cases b with
  | true=>rw[if_pos (h1 rfl),hV];rfl
  | false=>rw[if_neg (h2 rfl),hZ];rfl)
 rw[←hV] at hrd htx
 have htl:=bstr_beq (textA (readF s)) s
 have h17:=Lib.hid (show 17=V.toArray.size by rw[List.size_toArray,hVl])
 obtain⟨w1,hw1⟩:∃w1,w1=w.alloc (.cells (adrV zeroA).toArray 26):=⟨_,rfl⟩
 have r1:Row w1 w.heap.size 26 Z:=by rw[hw1,hZ];exact Row.new w _ _
 have hb1:Below w.heap.size w w1:=by rw[hw1];exact (Below.refl _ w).alloc (Nat.le_refl _) _
 have hE1:=hE.next hb1
 by_cases hT:textA (readF s)=s
 ·have HX:=Lib.hid (show parsV (parseL s)=.tuple #[.agg V.toArray,.bool true] from HPs.out true (fun _=>hT) (fun h=>by cases h))
  rw[decide_eq_true hT] at htl
  clear hV hZ hok hE HPs HP hT hVl hZl
  generalize textA (readF s)=X at *
  generalize bstr X=T at *
  generalize hSe:bstr s=S at *
  clear hSe
  go_enter Tryz.func119,Tryz.ntmps119
  go_wp2_with (first
   | (go_at_call 156;change Calls _ _ _ (w.alloc (.cells (adrV zeroA).toArray 26)) _;rw[←hw1];clear hw1;refine (hrd.out _ hE1).mono ?_;rintro e w2 ⟨rfl,hb2⟩;have r2:=r1.later hb2 r1.lt;have hE2:=hE1.next hb2;have hb2:=hb1.trans (hb2.mono hb1.size))
   | (have _t:=hE2;refine wpList_store_row rfl 26 (.tmp 4) (.tmp 6) rfl w2.heap.size V.toArray rfl rfl 26 _ (heap_alloc_new w2 _) hsz.out h17.out hV1.out ?_;refine Hid.out ?_))
  refine Lib.hid ?_
  generalize hw3:World.setRow _ _ _=w3
  obtain⟨r3,hb3'⟩:=row_new_set hw3
  have hE3:=hE2.next hb3'
  have r3b:=r2.later hb3' r2.lt
  have hb3:=hb2.trans (hb3'.mono hb2.size)
  have hlt3:=r2.lt
  have HR3:=Lib.hid (show w3.heap[w2.heap.size]?=some (.cells V.toArray 26 (0,0)) from r3)
  clear hw3 hb3'
  have tok2:True:=trivial
  go_wp2_with (first
   | (have _t:=tok2;with_reducible refine wpList_load_row rfl 26 (.tmp 4) rfl w2.heap.size rfl 26 V.toArray (0,0) _ HR3.out Tryz.underlying26 rfl hsz.out ?_;clear tok2)
   | (go_at_call 111;refine (htx.out _ hE3).mono ?_;rintro e w4 ⟨rfl,hb4⟩;have r4:=r3.later hb4 r3.lt;have r4b:=r3b.later hb4 r3b.lt;have hb4:=hb3.trans (hb4.mono hb3.size);have HR4:=Lib.hid (show w4.heap[w2.heap.size]?=some (.cells V.toArray 26 (0,0)) from r4);have H4:=Lib.hid (show w4.heap[w.heap.size]?=some (.cells Z.toArray 26 (0,0)) from r4b);clear r3 r3b r4 r4b)
   | (with_reducible refine wpList_load_row rfl 26 (.tmp 4) rfl w2.heap.size rfl 26 V.toArray (0,0) _ HR4.out Tryz.underlying26 rfl hsz.out ?_)
   | (with_reducible refine wpList_store_row rfl 26 (.tmp 2) (.tmp 12) rfl w.heap.size V.toArray rfl rfl 26 Z.toArray H4.out hsz.out hVs.out hV1.out ?_;refine Hid.out ?_))
  refine Lib.hid ?_
  generalize hw8:World.setRow _ _ _=w8
  obtain⟨r8,hg8⟩:=row_set (show Row w4 w.heap.size 26 Z from H4.out) hw8
  have hb8:=hb4.grown hg8 hb4.size (fun k h=>by cases h;exact Nat.le_refl _)
  have R8:=Lib.hid (show w8.heap[w.heap.size]?=some (.cells V.toArray 26 (0,0)) from r8)
  clear hw8 r8 hg8 H4 HR4
  go_wp2_with fail
  exact⟨rfl,_,results_row_tmp rfl _ _ w.heap.size 26 V.toArray (0,0) _ rfl R8.out Tryz.underlying26 rfl hsz.out _ rfl,by rw[HX.out];rfl,hb8⟩
 ·have HX:=Lib.hid (show parsV (parseL s)=.tuple #[.agg Z.toArray,.bool false] from HPs.out false (fun h=>by cases h) (fun _=>hT))
  rw[decide_eq_false hT] at htl
  have HZ:=Lib.hid hZ
  clear hV hZ hok hE HPs HP hT hVl hZl
  generalize textA (readF s)=X at *
  generalize bstr X=T at *
  generalize hSe:bstr s=S at *
  clear hSe
  go_enter Tryz.func119,Tryz.ntmps119
  go_wp2_with (first
   | (go_at_call 156;change Calls _ _ _ (w.alloc (.cells (adrV zeroA).toArray 26)) _;rw[←hw1];clear hw1;refine (hrd.out _ hE1).mono ?_;rintro e w2 ⟨rfl,hb2⟩;have r2:=r1.later hb2 r1.lt;have hE2:=hE1.next hb2;have hb2:=hb1.trans (hb2.mono hb1.size))
   | (have _t:=hE2;refine wpList_store_row rfl 26 (.tmp 4) (.tmp 6) rfl w2.heap.size V.toArray rfl rfl 26 _ (heap_alloc_new w2 _) hsz.out h17.out hV1.out ?_;refine Hid.out ?_))
  refine Lib.hid ?_
  generalize hw3:World.setRow _ _ _=w3
  obtain⟨r3,hb3'⟩:=row_new_set hw3
  have hE3:=hE2.next hb3'
  have r3b:=r2.later hb3' r2.lt
  have hb3:=hb2.trans (hb3'.mono hb2.size)
  have hlt3:=r2.lt
  have HR3:=Lib.hid (show w3.heap[w2.heap.size]?=some (.cells V.toArray 26 (0,0)) from r3)
  clear hw3 hb3'
  have tok2:True:=trivial
  go_wp2_with (first
   | (have _t:=tok2;with_reducible refine wpList_load_row rfl 26 (.tmp 4) rfl w2.heap.size rfl 26 V.toArray (0,0) _ HR3.out Tryz.underlying26 rfl hsz.out ?_;clear tok2)
   | (go_at_call 111;refine (htx.out _ hE3).mono ?_;rintro e w4 ⟨rfl,hb4⟩;have r4:=r3.later hb4 r3.lt;have r4b:=r3b.later hb4 r3b.lt;have hb4:=hb3.trans (hb4.mono hb3.size);have HR4:=Lib.hid (show w4.heap[w2.heap.size]?=some (.cells V.toArray 26 (0,0)) from r4);have H4:=Lib.hid (show w4.heap[w.heap.size]?=some (.cells Z.toArray 26 (0,0)) from r4b);clear r3 r3b r4 r4b)
   | (have _t:=H4;refine wpList_store_row rfl 26 (.tmp 2) (.tmp 11) rfl w.heap.size Z.toArray rfl (by rw[HZ.out];rfl) 26 Z.toArray H4.out hszZ.out rfl hZ1.out ?_;refine Hid.out ?_))
  refine Lib.hid ?_
  generalize hw8:World.setRow _ _ _=w8
  obtain⟨r8,hg8⟩:=row_set (show Row w4 w.heap.size 26 Z from H4.out) hw8
  have hb8:=hb4.grown hg8 hb4.size (fun k h=>by cases h;exact Nat.le_refl _)
  have R8:=Lib.hid (show w8.heap[w.heap.size]?=some (.cells Z.toArray 26 (0,0)) from r8)
  clear hw8 r8 hg8 H4 HR4
  go_wp2_with fail
  exact⟨rfl,_,results_row_tmp rfl _ _ w.heap.size 26 Z.toArray (0,0) _ rfl R8.out Tryz.underlying26 rfl hszZ.out _ rfl,by rw[HX.out];rfl,hb8⟩
end Go.Proofs.YtjieebmcbpdeiaaGreatDoor
