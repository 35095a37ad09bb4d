import Derived.Test.YtcbilopdeiapjaaGreatDoorRgba
import Derived.Test.YtcbilopdeiapjaaGreatDoorRgax
set_option maxHeartbeats 16000000
set_option maxRecDepth 100000
open Go.Proofs.Tryz
namespace Go.Proofs.YtcbilopdeiapjaaGreatDoor
open Go Go.RowKit
attribute [local go_sem] Oper.semAt_some
theorem b1L (r:List UInt8) (w:World):Calls prog 142 #[.string (bstr (47 :: r)),.string ⟨#[47]⟩] w fun e w'=>e=.returned (.tuple #[.string (bstr r),.bool true])∧w=w':=by
 refine (Tryz.strings_CutPrefix _ _ _).mono ?_
 rintro e w' ⟨rfl,rfl⟩
 refine⟨?_,rfl⟩
 have h:Lib.hasPrefix (bstr (47 :: r)).data.toList [47]=true:=by
  show List.isPrefixOf [47] (47 :: r)=true
  simp[List.isPrefixOf]
 show Ending.returned (.tuple #[.string ⟨(Lib.trimPrefix (bstr (47 :: r)).data.toList [47]).toArray⟩,.bool (Lib.hasPrefix (bstr (47 :: r)).data.toList [47])])=_
 unfold Lib.trimPrefix
 rw[h,if_pos rfl]
 rfl
theorem d1t (s:List UInt8) (hs:s.getD 0 0≠47) (w:World):Calls prog 142 #[.string (bstr s),.string ⟨#[47]⟩] w fun e w'=>e=.returned (.tuple #[.string (bstr s),.bool false])∧w=w':=by
 refine (Tryz.strings_CutPrefix _ _ _).mono ?_
 rintro e w' ⟨rfl,rfl⟩
 refine⟨?_,rfl⟩
 have h:Lib.hasPrefix (bstr s).data.toList [47]=false:=by
  show List.isPrefixOf [47] s=false
  cases s with
  | nil=>rfl
  | cons c r =>
   have hc:c≠47:=hs
   simp[List.isPrefixOf]
   exact fun h=>hc h.symm
 show Ending.returned (.tuple #[.string ⟨(Lib.trimPrefix (bstr s).data.toList [47]).toArray⟩,.bool (Lib.hasPrefix (bstr s).data.toList [47])])=_
 unfold Lib.trimPrefix
 rw[h,if_neg (by simp)]
theorem d0p {fn:Func} {p q:Tmp} (h:fn.results=#[.cell p 9,.cell q 4]) (tmps:Array Value) (w:World) (b c:Nat) (v x:Value)
  (hp:tmps.getD p undef=.pointer (some ⟨b,0,none⟩)) (hq:tmps.getD q undef=.pointer (some ⟨c,0,none⟩)) (hv:Boxed w b 9 v) (hx:Boxed w c 4 x) :
  (results fn tmps).run prog w=.ok (.tuple #[v,x]) w:=by
 have hp':tmps[p]?.getD undef=.pointer (some ⟨b,0,none⟩):=by simpa using hp
 have hq':tmps[q]?.getD undef=.pointer (some ⟨c,0,none⟩):=by simpa using hq
 have h1:=hv.cell
 have h2:=hx.cell
 simp[results,h,hp',hq',asAddr]
 go_simp
theorem s0B (l k:List (List UInt8)) (w:List UInt8) (h:h0m l w=some k):k.length≤l.length+1:=by
 unfold h0m at h
 split at h
 ·cases h;omega
 ·split at h
  ·split at h
   ·cases h
   ·cases h;rw[List.length_dropLast];omega
  ·split at h
   ·cases h;rw[List.length_append];simp
   ·cases h
theorem d0y (W:World) (b:Nat) (v:Value) (j:Nat) (h:j≠b):(W.setCell ⟨b,0,none⟩ v).heap[j]?=W.heap[j]?:=Below.heap_setCell W ⟨b,0,none⟩ v j h
theorem d0A {a W:World} {B b:Nat} (h:Below B a W) (hB:B≤W.heap.size) (hb:B≤b) (v:Value):Below B a (W.setCell ⟨b,0,none⟩ v) :=
 h.grown (grownBy_setCell' W b v) hB (fun k e=>by cases e;exact hb)
def y0P (w:World) (lo:Nat) (ps:List (List UInt8)) (m:Nat) (W:World):Prop :=
 (∃l v,(∀x∈l,c0l x=true)∧l.length≤m∧goN l (ps.drop m)=goN [] ps∧Boxed W (w.heap.size+1+1+1) 61 v∧W.ownsRow lo 5 1 v (b0z l).length (byts (b0z l))) ∧
  Boxed W (w.heap.size+1+1) 4 (.bool true)∧Boxed W w.heap.size 9 (.string { data:=#[] })∧Boxed W (w.heap.size+1) 4 (.bool false)∧Below w.heap.size w W∧lo≤W.heap.size
def y0Q (w:World) (lo:Nat) (ps:List (List UInt8)) (c:Code) (W:World):Prop :=
 (c=.ret∧goN [] ps=none)∧Boxed W w.heap.size 9 (.string { data:=#[] })∧Boxed W (w.heap.size+1) 4 (.bool false)∧Below w.heap.size w W∧lo≤W.heap.size
theorem y0P.calm {w:World} {lo m own:Nat} {ps:List (List UInt8)} (hown:own < lo) (h1:w.heap.size+1+1+1 < own) {X Y:World} {r:Nat} (h:y0P w lo ps m X) (hg:X.grownBy Y (some r)) (hr:r=own∨(lo≤r∧∃o:Obj,X.heap[r]?=some o∧o.isCells=false)):y0P w lo ps m Y:=by
 obtain⟨⟨l,v,hn,hl,hgo,hv,ho⟩,hb2,hb0,hb1,hB,hlo⟩:=h
 refine⟨⟨l,v,hn,hl,hgo,f0m hv hg hr (by omega),r0R ho hg hr hown⟩,f0m hb2 hg hr (by omega),f0m hb0 hg hr (by omega),f0m hb1 hg hr (by omega),hB.grown hg hB.size fun k e=>?_,Nat.le_trans hlo hg.size⟩
 cases e
 rcases hr with rfl | ⟨h,-⟩<;>omega
theorem y0Q.calm {w:World} {lo own:Nat} {c:Code} {ps:List (List UInt8)} (hown:own < lo) (h1:w.heap.size+1+1+1 < own) {X Y:World} {r:Nat} (h:y0Q w lo ps c X) (hg:X.grownBy Y (some r)) (hr:r=own∨(lo≤r∧∃o:Obj,X.heap[r]?=some o∧o.isCells=false)):y0Q w lo ps c Y:=by
 obtain⟨hc,hb0,hb1,hB,hlo⟩:=h
 refine⟨hc,f0m hb0 hg hr (by omega),f0m hb1 hg hr (by omega),hB.grown hg hB.size fun k e=>?_,Nat.le_trans hlo hg.size⟩
 cases e
 rcases hr with rfl | ⟨h,-⟩<;>omega
theorem q0D (s:List UInt8) (hs:s.length≤1000) (w:World):Calls prog 104 #[.string (bstr s)] w fun e w'=>e=.returned (.tuple #[.string (bstr ((j0j s).getD [])),.bool (j0j s).isSome])∧Below w.heap.size w w':=by
 have hz:=a0c s
 obtain⟨V,hV⟩:∃V,V=j0j s:=⟨_,rfl⟩
 have HV:=f1D hV
 rw[←hV]
 clear hV
 refine (callsIn_wide (n:=9)).1 ?_
 refine callsIn_of_wp_marks func104 rfl trivial ?_ rfl
 simp only[ntmps104,List.size_toArray,List.length_cons,List.length_nil,Nat.reduceAdd,Nat.reduceSub,Array.replicate_succ,Array.replicate_zero,List.push_toArray,List.append_toArray,List.nil_append,List.cons_append]
 by_cases h4:s.getD 0 0=47
 ·obtain⟨r,rfl⟩:∃r,s=47 :: r:=by
   cases s with
   | nil=>cases h4
   | cons c r=>exact⟨r,by rw[show c=47 from h4]⟩
  rw[List.length_cons] at hz hs
  have hct:=f1D (fun w'=>b1L r w')
  have hsq:=f1D (fun w'=>j0f r 47 w')
  generalize bstr (47 :: r)=P at *
  gi_wp2_with (first
   | (refine⟨trivial,?_⟩;gi_at_call 142;refine (callsIn_wide.2 (hct.out _)).mono ?_;rintro e w1 ⟨rfl,rfl⟩)
   | (refine⟨trivial,?_⟩;gi_at_call 143;refine (callsIn_wide.2 (hsq.out _)).mono ?_;rintro e w2 ⟨rfl,hbox,hb2,hz2⟩))
  rw[World.size_alloc,World.size_alloc,World.size_alloc,World.size_alloc] at hbox hz2 hb2
  have e1:(w.alloc (.cells #[.string { data:=#[] }] 9)).heap.size=w.heap.size+1:=World.size_alloc _ _
  have e2:((w.alloc (.cells #[.string { data:=#[] }] 9)).alloc (.cells #[.bool false] 4)).heap.size=w.heap.size+1+1:=by rw[World.size_alloc,e1]
  have e3:(((w.alloc (.cells #[.string { data:=#[] }] 9)).alloc (.cells #[.bool false] 4)).alloc (.cells #[.bool true] 4)).heap.size=w.heap.size+1+1+1:=by rw[World.size_alloc,e2]
  have b0:=Boxed.new w 9 (.string { data:=#[] })
  have b1:=Boxed.new (w.alloc (.cells #[.string { data:=#[] }] 9)) 4 (.bool false)
  have b2:=Boxed.new ((w.alloc (.cells #[.string { data:=#[] }] 9)).alloc (.cells #[.bool false] 4)) 4 (.bool true)
  have b3:=Boxed.new (((w.alloc (.cells #[.string { data:=#[] }] 9)).alloc (.cells #[.bool false] 4)).alloc (.cells #[.bool true] 4)) 61 (.slice none 0 0)
  rw[e1] at b1
  rw[e2] at b2
  rw[e3] at b3
  have bx0:Boxed w2 w.heap.size 9 (.string { data:=#[] }):=(hb2.block _ (by omega)).trans (((b0.alloc _).alloc _).alloc _)
  have bx1:Boxed w2 (w.heap.size+1) 4 (.bool false):=(hb2.block _ (by omega)).trans ((b1.alloc _).alloc _)
  have bx2:Boxed w2 (w.heap.size+1+1) 4 (.bool true):=(hb2.block _ (by omega)).trans (b2.alloc _)
  have bx3:Boxed w2 (w.heap.size+1+1+1) 61 (.slice none 0 0):=(hb2.block _ (by omega)).trans b3
  have hB2:Below w.heap.size w w2:=(((((Below.refl _ w).alloc (f1F _) _).alloc (by rw[e1];omega) _).alloc (by rw[e2];omega) _).alloc (by rw[e3];omega) _).trans (hb2.mono (by omega))
  clear hb2 b0 b1 b2 b3 e1 e2 e3 hct
  have hsize:(d0w r 47).length=(a0g 47 r).length:=by unfold d0w;rw[List.length_map]
  obtain⟨ps,hps⟩:∃ps,ps=a0g 47 r:=⟨_,rfl⟩
  have HN1:=f1D (show goN [] ps=none→V=none from fun h=>HV.out.trans (t0C r (by rw[←hps];exact h)))
  have HN2:=f1D (show ∀l,goN [] ps=some l→V=if (f0t l).length≤256 then some (f0t l) else none from fun l h=>HV.out.trans (t0D r l (by rw[←hps];exact h)))
  have hpl:∀p∈ps,p.length≤1000:=fun p hp=>Nat.le_trans (d0H 47 r p (by rw[←hps];exact hp)) (by omega)
  have hpn:ps.length≤1000:=by have:=d0h 47 r;rw[←hps] at this;omega
  clear HV h4
  have hgives:=h0p 8 (by omega) (w.heap.size+1+1+1+1) r 47 (by omega) w2 hbox (by omega)
  refine h0q rfl (by omega) (gf:=234) rfl trivial (enters_of func234 (by kernel_rfl) rfl) hgives (by omega) g0o.trans
   (fun W l o' hl k h1 h2=>World.putObj_heap_other (by omega)) (Below.refl _ _) (fun v hv=>by
    unfold d0w at hv
    obtain⟨p,-,rfl⟩:=List.mem_map.1 hv
    rfl)
   (fun k W=>y0P w w2.heap.size ps k W) (fun c k W=>y0Q w w2.heap.size ps c W)
   (fun k X Y r h hg hr=>h.calm (by omega) (by omega) hg hr) (fun c k X Y r h hg hr=>h.calm (by omega) (by omega) hg hr)
   ⟨⟨[],_,fun _ h=>by (cases h),f1F _,rfl,bx3,World.ownsRow_nil _ _ _ _⟩,bx2,bx0,bx1,hB2,f1F _⟩
   (fun k=>{ tmps:=#[.string P,undef,.pointer (some ⟨w.heap.size,0,none⟩),.pointer (some ⟨w.heap.size+1,0,none⟩),.string (bstr r),.pointer (some ⟨w.heap.size+1+1,0,none⟩),.pointer (some ⟨w.heap.size+1+1+1,0,none⟩),.string (bstr (ps.getD k [])),
     .tuple #[.string (bstr r),.bool true],.string P,.tuple #[.string (bstr r),.bool true],.string (bstr r),.bool true,.bool true,.bool false,.string (bstr r),
     .func (.func 234) #[] #[.pointer (some ⟨w.heap.size+1+1+1+1+1,0,none⟩),.pointer (some ⟨w.heap.size+1+1+1+1,0,none⟩),.pointer (some ⟨w.heap.size+1+1+1+1+2,0,none⟩)],
     .string (bstr (ps.getD k [])),undef,undef,undef,undef,undef,undef,undef,undef,undef,undef,undef,undef,undef,undef,undef,undef],defers:=[] }) ?assign ?body ?done ?stop
  case assign =>
   intro l k v W K hv hK
   have hv:v=#[.string (bstr (ps.getD k []))]:=by
    unfold d0w at hv
    rw[←hps,List.getElem?_map] at hv
    rw[List.getD_eq_getElem?_getD]
    cases hq:ps[k]? with
    | none=>rw[hq] at hv;cases hv
    | some q=>rw[hq] at hv;cases hv;rfl
   subst hv
   clear hps
   gi_wp2
   exact hK
  case body =>
   rintro lo k W hk ⟨⟨l,v,hn,hl,hgo,hv,ho⟩,hx2,hx0,hx1,hB,hlo⟩
   have hkp:k < ps.length:=by rw[hps,←hsize];exact hk
   clear hps hsize hk hgives hbox hsq bx0 bx1 bx2 bx3 hB2
   obtain⟨A,c,rfl,-,-⟩:=Sl.of_own ho
   have hc3:=hv.cell
   have hx64:=hpl (ps.getD k []) (by rw[List.getD_eq_getElem?_getD,List.getElem?_eq_getElem hkp];exact List.getElem_mem hkp)
   have hfl:=r0x l (fun y hy=>o0J y (hn y hy))
   have hal:=v0f l hn (ps.getD k []) hx64 W w2.heap.size (.slice A (b0z l).length c) ho hlo (by omega)
   have hgo2:=hgo.symm.trans (d1A l ps k hkp)
   generalize hy:ps.getD k []=x at *
   clear hy hpl
   cases hak:h0m l x with
   | none =>
    rw[hak] at hal hgo2
    have HA:=f1D hal
    have HG:=f1D hgo2
    clear hal hgo2 hak hgo hn ho hfl
    generalize (b0z l).length=n at *
    gi_wp2_with (refine⟨trivial,?_⟩;gi_at_call 144;refine (CallsIn.inRound lo (callsIn_wide.2 HA.out)).mono ?_;rintro e W2 ⟨rfl,hk2,hb2⟩;have hv2:Boxed W2 (w.heap.size+1+1+1) 61 (.slice A n c):=(hb2.block _ (by omega)).trans hv;have hc2:=hv2.cell;have hf2:=hv2.frozen;have hx2':Boxed W2 (w.heap.size+1+1) 4 (.bool true):=(hb2.block _ (by omega)).trans hx2;have hd2:=hx2'.cell;have hg2:=hx2'.frozen;have hx0':Boxed W2 w.heap.size 9 (.string { data:=#[] }):=(hb2.block _ (by omega)).trans hx0;have hx1':Boxed W2 (w.heap.size+1) 4 (.bool false):=(hb2.block _ (by omega)).trans hx1;have hp0:=hx0'.cell;have hp1:=hx1'.cell;have hq0:=hx0'.frozen;have hq1:=hx1'.frozen)
    have s2:=hb2.size
    have hBW:Below w.heap.size w W2:=hB.trans (hb2.mono (by omega))
    refine⟨((((hk2.trans (KeepsOthers.setCell _ _ _)).trans (KeepsOthers.setCell _ _ _)).trans (KeepsOthers.setCell _ _ _)).trans (KeepsOthers.setCell _ _ _)),⟨rfl,HG.out⟩,?_,?_,?_,?_⟩
    ·exact ((((hx0'.kept (grownBy_setCell' _ _ _) (by simp<;>omega)).kept (grownBy_setCell' _ _ _) (by simp<;>omega)).set _).kept (grownBy_setCell' _ _ _) (by simp<;>omega))
    ·exact ((((hx1'.kept (grownBy_setCell' _ _ _) (by simp<;>omega)).kept (grownBy_setCell' _ _ _) (by simp<;>omega)).kept (grownBy_setCell' _ _ _) (by simp<;>omega)).set _)
    ·exact d0A (d0A (d0A (d0A hBW (by omega) (by omega) _) (by simp;omega) (by omega) _) (by simp;omega) (by omega) _) (by simp;omega) (by omega) _
    ·simp;omega
   | some l' =>
    rw[hak] at hal hgo2
    have HA:=f1D hal
    have HG:=f1D hgo2
    have hn':=p0S l l' x hn hak
    have hl':l'.length≤k+1:=by
     have:=s0B l l' x hak
     omega
    clear hal hgo2 hak hgo hn ho hfl
    generalize (b0z l).length=n at *
    gi_wp2_with (refine⟨trivial,?_⟩;gi_at_call 144;refine (CallsIn.inRound lo (callsIn_wide.2 HA.out)).mono ?_;rintro e W2 ⟨⟨v',rfl,ho2⟩,hk2,hb2⟩;obtain⟨A',c',rfl,-,-⟩:=Sl.of_own ho2;have hv2:Boxed W2 (w.heap.size+1+1+1) 61 (.slice A n c):=(hb2.block _ (by omega)).trans hv;have hc2:=hv2.cell;have hf2:=hv2.frozen;have hx2':Boxed W2 (w.heap.size+1+1) 4 (.bool true):=(hb2.block _ (by omega)).trans hx2;have hd2:=hx2'.cell;have hg2:=hx2'.frozen;have hx0':Boxed W2 w.heap.size 9 (.string { data:=#[] }):=(hb2.block _ (by omega)).trans hx0;have hx1':Boxed W2 (w.heap.size+1) 4 (.bool false):=(hb2.block _ (by omega)).trans hx1)
    have s2:=hb2.size
    have hBW:Below w.heap.size w W2:=hB.trans (hb2.mono (by omega))
    refine⟨(hk2.trans (KeepsOthers.setCell _ _ _)).trans (KeepsOthers.setCell _ _ _),fun j h1 h2=>?_,⟨l',.slice A' (b0z l').length c',hn',hl',HG.out.symm,?_,?_⟩,?_,?_,?_,?_,?_⟩
    ·exact ((d0y _ _ _ j (by omega)).trans (d0y _ _ _ j (by omega))).trans (hb2.block j (by omega))
    ·exact (hv2.set _).kept (grownBy_setCell' _ _ _) (by simp<;>omega)
    ·have h3:=ho2.kept (grownBy_setCell' W2 (w.heap.size+1+1+1) (.slice A' (b0z l').length c')) (.inr (hv2.not_row (by decide) ho2).symm)
     have hx3:Boxed (W2.setCell ⟨w.heap.size+1+1+1,0,none⟩ (.slice A' (b0z l').length c')) (w.heap.size+1+1) 4 (.bool true):=hx2'.kept (grownBy_setCell' _ _ _) (by simp<;>omega)
     exact h3.kept (grownBy_setCell' _ _ _) (.inr (hx3.not_row (by decide) h3).symm)
    ·exact (hx2'.kept (grownBy_setCell' _ _ _) (by simp<;>omega)).set _
    ·exact (hx0'.kept (grownBy_setCell' _ _ _) (by simp<;>omega)).kept (grownBy_setCell' _ _ _) (by simp<;>omega)
    ·exact (hx1'.kept (grownBy_setCell' _ _ _) (by simp<;>omega)).kept (grownBy_setCell' _ _ _) (by simp<;>omega)
    ·exact d0A (d0A hBW (by omega) (by omega) _) (by simp;omega) (by omega) _
    ·simp;omega
  case done =>
   rintro D W hD ⟨⟨l,v,hn,hl,hgo,hv,ho⟩,hx2,hx0,hx1,hB,hlo⟩ hK
   rw[hsize,←hps] at hl hgo
   have hgl:goN [] ps=some l:=by rw[←hgo,List.drop_length];rfl
   have HF:=f1D (HN2.out l hgl)
   have hfl:=r0x l (fun y hy=>o0J y (hn y hy))
   obtain⟨A,c,rfl,-,hsl⟩:=Sl.of_own ho
   have hc3:=hv.cell
   have hp0:=hx0.cell
   have hp1:=hx1.cell
   have hq0:=hx0.frozen
   have hq1:=hx1.frozen
   have HC:=f1D (t0t l)
   have HE:=f1D (n0Y l)
   clear hps hsize hgives hbox hsq bx0 bx1 bx2 bx3 hB2 hgo hgl HN1 HN2 hpl hn
   have fin:∀S T:Value,((W.setCell ⟨w.heap.size,0,none⟩ S).setCell ⟨w.heap.size+1,0,none⟩ T).heap[D]?=some (.deferred (some [])) ∧
     Boxed (((W.setCell ⟨w.heap.size,0,none⟩ S).setCell ⟨w.heap.size+1,0,none⟩ T).putObj D (.deferred none)) w.heap.size 9 S ∧
     Boxed (((W.setCell ⟨w.heap.size,0,none⟩ S).setCell ⟨w.heap.size+1,0,none⟩ T).putObj D (.deferred none)) (w.heap.size+1) 4 T ∧
     Below w.heap.size w (((W.setCell ⟨w.heap.size,0,none⟩ S).setCell ⟨w.heap.size+1,0,none⟩ T).putObj D (.deferred none)):=by
    intro S T
    have hK3:((W.setCell ⟨w.heap.size,0,none⟩ S).setCell ⟨w.heap.size+1,0,none⟩ T).heap[D]?=some (.deferred (some [])) :=
     ((d0y _ _ _ D (by omega)).trans (d0y _ _ _ D (by omega))).trans hK
    refine⟨hK3,?_,?_,?_⟩
    ·exact (World.putObj_heap_other (by omega)).trans ((hx0.set S).kept (grownBy_setCell' _ _ _) (by simp<;>omega))
    ·exact (World.putObj_heap_other (by omega)).trans ((hx1.kept (grownBy_setCell' _ _ _) (by simp<;>omega)).set T)
    ·exact (d0A (d0A hB (by omega) (by omega) S) (by simp;omega) (by omega) T).trans (belowK_b (w:=w) (f1F _) _ D _ _ (by omega) hK3 rfl rfl)
   have HFin:=f1D fin
   clear fin
   by_cases h256:256 < (b0z l).length
   ·have hlt:(256:Int) < ((b0z l).length:Int):=by omega
    have hl0:¬l=[]:=fun h=>by rw[(HE.out).2 h] at h256;simp at h256
    have hn2:¬(b0z l).length≤256:=by omega
    have HV:=f1D (show V=none by rw[HF.out,HC.out,if_neg hl0,if_neg hn2])
    clear HF HC HE h256 hl0 hn2
    gi_wp2
    obtain⟨hK3,hy0,hy1,hB3⟩:=HFin.out (.string { data:=#[] }) (.bool false)
    refine⟨by simp,.inl ⟨_,_,rfl,run_takeDeferred hK3,?_⟩⟩
    exact⟨_,d0p rfl _ _ _ _ _ _ rfl rfl hy0 hy1,by rw[HV.out];rfl,hB3⟩
   ·have hle:((b0z l).length:Int)≤256:=by omega
    by_cases hle0:l=[]
    ·have HV:=f1D (show V=some [47] by rw[HF.out,hle0];rfl)
     have h0:(((b0z l).length:Int)==0)=true:=by rw[hle0];rfl
     clear HF HC HE h256 hle0
     gi_wp2
     obtain⟨hK3,hy0,hy1,hB3⟩:=HFin.out (.string { data:=#[47] }) (.bool true)
     refine⟨by simp,.inl ⟨_,_,rfl,run_takeDeferred hK3,?_⟩⟩
     exact⟨_,d0p rfl _ _ _ _ _ _ rfl rfl hy0 hy1,by rw[HV.out];rfl,hB3⟩
    ·have hne:b0z l≠[]:=fun h=>hle0 ((HE.out).1 h)
     have HV:=f1D (show V=some (b0z l) by rw[HF.out,HC.out,if_neg hle0,if_pos (by omega)])
     have h0:(((b0z l).length:Int)==0)=false:=by
      rw[beq_eq_false_iff_ne]
      have:=List.length_pos_iff.2 hne
      omega
     have hcv:=b0o hsl _ rfl
     clear HF HC HE h256 hle0 hne
     gi_wp2
     obtain⟨hK3,hy0,hy1,hB3⟩:=HFin.out (.string (bstr (b0z l))) (.bool true)
     refine⟨by simp,.inl ⟨_,_,rfl,run_takeDeferred hK3,?_⟩⟩
     exact⟨_,d0p rfl _ _ _ _ _ _ rfl rfl hy0 hy1,by rw[HV.out];rfl,hB3⟩
  case stop =>
   rintro D k c W hD hk ⟨⟨rfl,hno⟩,hx0,hx1,hB,hlo⟩ hK
   have HV:=f1D (HN1.out hno)
   clear hps hsize hk hgives hbox hsq bx0 bx1 bx2 bx3 hB2 hpl HN1 HN2 hno
   gi_wp2
   refine⟨by simp,.inl ⟨_,_,rfl,run_takeDeferred hK,?_⟩⟩
   refine⟨_,d0p rfl _ _ _ _ _ _ rfl rfl ((World.putObj_heap_other (by omega)).trans hx0) ((World.putObj_heap_other (by omega)).trans hx1),by rw[HV.out];rfl,hB.trans (belowK_b (w:=w) (f1F _) W D _ _ (by omega) hK rfl rfl)⟩
 ·have HW:=f1D (show V=none by rw[HV.out];exact t0B s h4)
  have hct:=f1D (fun w'=>d1t s h4 w')
  clear HV h4
  generalize bstr s=P at *
  gi_wp2_with (refine⟨trivial,?_⟩;gi_at_call 142;refine (callsIn_wide.2 (hct.out _)).mono ?_;rintro e w1 ⟨rfl,rfl⟩)
  have e1:(w.alloc (.cells #[.string { data:=#[] }] 9)).heap.size=w.heap.size+1:=World.size_alloc _ _
  have e2:((w.alloc (.cells #[.string { data:=#[] }] 9)).alloc (.cells #[.bool false] 4)).heap.size=w.heap.size+1+1:=by rw[World.size_alloc,e1]
  have b0:=Boxed.new w 9 (.string { data:=#[] })
  have b1:=Boxed.new (w.alloc (.cells #[.string { data:=#[] }] 9)) 4 (.bool false)
  rw[e1] at b1
  refine⟨_,d0p rfl _ _ _ _ _ _ rfl rfl ((b0.alloc _).alloc _) (b1.alloc _),?_,?_⟩
  ·rw[HW.out];rfl
  ·exact (((Below.refl _ w).alloc (f1F _) _).alloc (by rw[e1];omega) _).alloc (by rw[e2];omega) _
theorem t0X (p:List UInt8) (hp:p.length≤1000) (w:World):Calls prog 69 #[.string (bstr p)] w fun e w'=>e=.returned (.bool (b0X p))∧Below w.heap.size w w':=by
 have hn:=q0D p hp w
 have hr:=u0l p
 cases hv:j0j p with
 | none =>
  rw[hv] at hn hr
  have HN:=f1D hn
  have HR:=f1D (show b0X p=false by rw[hr];rfl)
  clear hn hr hv
  go_enter func69,ntmps69
  go_wp2_with (go_at_call 104;refine HN.out.mono ?_;rintro e w1 ⟨rfl,hb1⟩)
  go_ret
  exact⟨by rw[HR.out];rfl,hb1⟩
 | some x =>
  rw[hv] at hn hr
  have HN:=f1D hn
  have HR:=f1D (show b0X p=decide (x=p) by rw[hr];simp)
  have he:=c0b x p
  clear hn hr hv
  go_enter func69,ntmps69
  go_wp2_with (go_at_call 104;refine HN.out.mono ?_;rintro e w1 ⟨rfl,hb1⟩)
  go_ret
  exact⟨by rw[HR.out];rfl,hb1⟩
def EnvQ (w:World):Prop:=EnvD w
theorem EnvQ.next {w w':World} (h:EnvQ w) (hb:Below w.heap.size w w'):EnvQ w':=EnvD.next h hb
theorem EnvQ.d {w:World} (h:EnvQ w):EnvD w:=h
theorem EnvQ.x {w:World} (h:EnvQ w):EnvX w:=EnvD.most h
theorem EnvQ.n {w:World} (h:EnvQ w):EnvN w:=⟨EnvD.most h,(EnvD.toEnvC h).pow,EnvD.synt h,EnvD.rang h⟩
theorem EnvQ.a {w:World} (h:EnvQ w):Env w:=⟨EnvD.most h,(EnvD.toEnvC h).pow,(EnvD.toEnvC h).tz 15 (by decide),EnvD.synt h,EnvD.rang h⟩
theorem m0D (s:List UInt8) (k:Nat) (h:d0i s=some k):k+1 < s.length∧s.getD k 0=58∧s.getD (k+1) 0=58∧∀j,j < k→¬(s.getD j 0=58∧s.getD (j+1) 0=58):=by
 induction s generalizing k with
 | nil=>cases h
 | cons c s ih =>
  cases s with
  | nil=>cases h
  | cons d s =>
   by_cases hcd:c=58∧d=58
   ·rw[show d0i (c :: d :: s)=some 0 from if_pos hcd] at h
    cases h
    exact⟨by simp,hcd.1,hcd.2,fun j hj=>absurd hj (by omega)⟩
   ·rw[f0A c d s hcd] at h
    obtain⟨k',hk',rfl⟩:=Option.map_eq_some_iff.1 h
    obtain⟨h1,h2,h3,h4⟩:=ih k' hk'
    refine⟨by simpa using h1,h2,h3,fun j hj=>?_⟩
    cases j with
    | zero=>exact hcd
    | succ j=>exact h4 j (by omega)
theorem i0Y (b dg most:Nat) (x:UInt8) (s:List UInt8) (l:List Nat) (m:Nat) (h2:2≤b) (hb:b≤16) (h:a0B b dg most x s=some l) (hs:s.length+1≤m):l.length≤m:=by
 unfold a0B at h
 by_cases h0:s=[]
 ·rw[if_pos h0] at h;cases h;simp
 ·rw[if_neg h0] at h
  have h1:=congrArg List.length ((q0i b dg most h2 hb _ _).1 h).1
  have h3:=d0h x s
  rw[List.length_map] at h1
  omega
theorem c1D (f b:List Nat) (hf:∀n∈f,n≤65535) (hb:∀n∈b,n≤65535):∀n∈g0C f b,n≤65535:=by
 intro n hn
 unfold g0C at hn
 rcases List.mem_append.1 hn with h | h
 ·exact hf n h
 ·rcases List.mem_append.1 h with h | h
  ·rw[List.eq_of_mem_replicate h];omega
  ·exact hb n h
def b1j:Value→Nat
 | .slice _ n _=>n
 | _=>0
theorem c1X {w w':World} {A:Option Addr} {c:Nat} {ob:Option Nat} {xs:List Value} (h:Sl w A c xs) (hg:w.grownBy w' ob) (hne:∀a,A=some a→ob≠some a.block):Sl w' A c xs:=by
 cases ob with
 | none=>exact h.later (f1F _) (h0n hg)
 | some g=>exact h.apart hg fun _ a ha e=>hne a ha (by rw[e])
theorem n0j {w w':World} {g t:Nat} {ob:Option Nat} {xs:List Value} (h:Row w g t xs) (hg:w.grownBy w' ob) (hne:ob≠some g):Row w' g t xs :=
 (hg.block g h.lt (Ne.symm hne)).trans h
theorem l0Q {w:World} {base t n g:Nat} {v:Value} {xs:List Value} (h:w.ownsRow base t 1 v n xs) (hv:v.ownBlock=some g):base≤g:=by
 obtain⟨-,h | ⟨g',cap,cur,rfl,hg,-⟩⟩:=h
 ·rw[h.1] at hv;cases hv
 ·have:g'=g:=by simpa [Value.ownBlock] using hv
  omega
theorem i0l {w:World} {base t n:Nat} {v:Value} {xs:List Value} (h:w.ownsRow base t 1 v n xs):∃A c,v=.slice A n c∧Sl w A c xs∧xs.length=n∧∀a,A=some a→base≤a.block∧a.block < w.heap.size:=by
 obtain⟨A,c,rfl,hl,hs⟩:=Sl.of_own h
 refine⟨A,c,rfl,hs,hl,fun a ha=>?_⟩
 subst ha
 obtain⟨-,h | ⟨g,cap,cur,e,hg,hgb,-⟩⟩:=h
 ·cases h.1
 ·cases e
  exact⟨hg,(Array.getElem?_eq_some_iff.1 hgb).1⟩
theorem m0b (s:List UInt8) (hs:s.length≤1000) (hn4:∀l,a0B 10 3 255 46 s=some l→l.length≠4) (k:Nat) (hf:d0i s=some k) (w:World) :
  Calls prog 78 #[.string (bstr s)] w fun e w'=>e=.returned (k0D (c0s s))∧Below w.heap.size w w':=by
 have hz:=a0c s
 have hnum:=f1D (fun w'=>f0w s hs w')
 obtain⟨hkl,hka,hkb,hkc⟩:=m0D s k hf
 have hnumF:=f0x (s.take k) (by rw[List.length_take];omega)
 have hnumB:=f0x (s.drop (k+2)) (by rw[List.length_drop];omega)
 have HP0:=f1D (show c0s s=match a0B 16 4 65535 58 (s.take k),a0B 16 4 65535 58 (s.drop (k+2)) with
  | some f,some b=>if f.length+b.length≤7∧a0Y (sixA (g0C f b))=s then some (sixA (g0C f b)) else none
  | _,_=>none by unfold c0s;rw[hf];rfl)
 have HC:=f1D hkc
 have HA:=f1D hka
 have HB:=f1D hkb
 have r0:Row (w.alloc (.cells (adrV a0K).toArray 67)) w.heap.size 67 (adrV a0K):=Row.new w _ _
 have hb0:Below w.heap.size w (w.alloc (.cells (adrV a0K).toArray 67)):=(Below.refl _ w).alloc (f1F _) _
 have hzz:=f1D (show (prog.info? 67).map (·.size)=some (adrV a0K).toArray.size by rw[b0b,List.size_toArray,a0m b0O])
 have HZ1:=f1D (show (adrV a0K).toArray.all (·.oneCell')=true from b0d (c0O _))
 have e1:(bstr s).extract 0 k=bstr (s.take k):=by rw[a0G];simp
 have e2:(bstr s).extract (k+2) s.length=bstr (s.drop (k+2)):=by rw[a0G,List.take_of_length_le (by rw[List.length_drop];omega)]
 have HF:=f1D hnumF
 have HBk:=f1D hnumB
 clear hf hkc hka hkb hnumF hnumB
 have he1:=f1D e1
 have he2:=f1D e2
 clear e1 e2
 go_enter func78,ntmps78
 go_upto_region 2 with (go_at_call 114;refine (hnum.out _).mono ?_;rintro e w3 ⟨v3,rfl,hv3,hb3⟩;obtain⟨A0,c0,n0,b0,rfl,hn0⟩:=o0M hv3 hn4;have hr3:=r0.later hb3 r0.lt;have hb3:=hb0.trans (hb3.mono hb0.size);clear hv3)
 clear r0 hb0 hnum hn4
 go_cut [4,5,22] (fun _ _ y wx=>y=.bool false∧w3=wx)
 case first =>
  cases b0
  ·clear hn0
   go_wp2
   go_meet
   case rel=>exact⟨rfl,rfl⟩
  ·have h4':=hn0 rfl
   clear hn0
   go_wp2
   go_meet
   case rel=>exact⟨rfl,rfl⟩
 case rest =>
 obtain⟨rfl,rfl⟩:=hcut
 clear hn0
 go_wp2
 go_loopw [6,7] (fun v i wr=>((v=.int .i64 (-1)∧∃j:Nat,j≤k∧i=.int .i64 j)∨(v=.int .i64 k∧i=.int .i64 (k+1:Nat)))∧Row wr w.heap.size 67 (adrV a0K)∧Below w.heap.size w wr) (fun _ i _=>s.length - (intOf i).toNat)
 case atStart=>exact⟨.inl ⟨rfl,0,by omega,rfl⟩,hr3,hb3⟩
 case round =>
  clear hr3 hb3
  obtain⟨h | h,hr4,hb4⟩:=hrel
  ·obtain⟨rfl,j,hj,rfl⟩:=h
   have hw1:IntKind.i64.wrap ((j:Int)+1)=(j:Int)+1:=by rw[IntKind.wrap_i64];omega
   have hj2:j+1 < s.length:=by omega
   have hlt':(j:Int)+1 < (s.length:Int):=by omega
   have hix1:=a0V s j (by omega)
   have hix2:∀w,(Instr.index 9 (.string (bstr s)) (.int .i64 ((j:Int)+1))).run prog w=.ok (.int .u8 ((s.getD (j+1) 0).toNat:Int)) w:=a0V s (j+1) (by omega)
   by_cases hjk:j=k
   ·subst hjk
    rw[HA.out] at hix1
    rw[HB.out] at hix2
    go_wp2
    go_roundw
    case rel=>exact⟨.inr ⟨rfl,by go_num⟩,hr4,hb4⟩
    case measure=>simp[intOf];omega
   ·have hno:=HC.out j (by omega)
    generalize s.getD j 0=x at *
    generalize s.getD (j+1) 0=y at *
    have hj3:j+1≤k:=by omega
    clear hjk
    by_cases hx:x=58
    ·have hy:((y.toNat:Int)==58)=false:=by
      rw[beq_eq_false_iff_ne]
      intro h
      exact hno ⟨hx,UInt8.toNat_inj.1 (by show y.toNat=58;omega)⟩
     have hxe:((x.toNat:Int)==58)=true:=by rw[hx];rfl
     clear hno hx
     go_wp2
     go_roundw
     case rel=>exact⟨.inl ⟨rfl,j+1,by omega,by go_num⟩,hr4,hb4⟩
     case measure=>simp[intOf];omega
    ·have hxe:((x.toNat:Int)==58)=false:=by
      rw[beq_eq_false_iff_ne]
      intro h
      exact hx (UInt8.toNat_inj.1 (by show x.toNat=58;omega))
     clear hno hx
     go_wp2
     go_roundw
     case rel=>exact⟨.inl ⟨rfl,j+1,by omega,by go_num⟩,hr4,hb4⟩
     case measure=>simp[intOf];omega
  ·obtain⟨rfl,rfl⟩:=h
   obtain⟨wo,rfl⟩:∃wo:World,wo=wr:=⟨_,rfl⟩
   have hK1:(0:Int)≤(k:Int):=by omega
   have hK2:(k:Int)+2≤(s.length:Int):=by omega
   have e1:=he1.out
   have e2:=he2.out
   have tok1:True:=trivial
   have tok2:True:=trivial
   clear he1 he2 HA HB HC
   go_upto_region 6 with fail
   go_cut [49] (fun y wx=>y=.bool false∧wo=wx)
   case first =>
    have h3:(k:Int)+1+1 < (s.length:Int)∨(s.length:Int)≤(k:Int)+1+1:=by omega
    rcases h3 with h3 | h3
    all_goals
     go_wp2
     go_meet
     case rel=>exact⟨rfl,rfl⟩
   case rest =>
   obtain⟨rfl,rfl⟩:=hcut
   cases hnF:a0B 16 4 65535 58 (s.take k) with
   | none =>
    have HP:=f1D (show c0s s=none by rw[HP0.out,hnF])
    have hnumF:=f1D (show _ from HF.out)
    rw[hnF] at hnumF
    cases hnB:a0B 16 4 65535 58 (s.drop (k+2)) with
    | none =>
     have hnumB:=f1D (show _ from HBk.out)
     rw[hnB] at hnumB
     go_wp2_with (first
      | (have _t:=tok1;go_at_call 114;refine (hnumF.out _).mono ?_;rintro e w5 ⟨v5,rfl,rfl,hb5⟩;have hr5:=hr4.later hb5 hr4.lt;have hb5:=hb4.trans (hb5.mono hb4.size);clear tok1)
      | (have _t:=tok2;go_at_call 114;refine (hnumB.out _).mono ?_;rintro e w7 ⟨v7,rfl,rfl,hb7⟩;have hr7:=hr5.later hb7 hr5.lt;have hb7:=hb5.trans (hb7.mono hb5.size);have HRw7:=f1D (show w7.heap[w.heap.size]?=some (.cells (adrV a0K).toArray 67 (0,0)) from hr7);clear tok2)
      | (have _t:=HRw7;refine wpList_store_row rfl 67 (.tmp 2) (.tmp 117) rfl w.heap.size _ rfl rfl 67 (adrV a0K).toArray HRw7.out (by kernel_rfl) (by kernel_rfl) (by kernel_rfl) ?_;refine Hid.out ?_))
     refine f1D ?_
     generalize hw6:World.setRow _ _ _=wz
     obtain⟨r6,hg6⟩:=a0y (show Row w7 w.heap.size 67 (adrV a0K) from HRw7.out) (show World.setRow _ w.heap.size (adrV a0K).toArray=wz from hw6)
     have hb6:=hb7.grown hg6 hb7.size (fun k h=>by cases h;exact f1F _)
     have R6:=f1D (show wz.heap[w.heap.size]?=some (.cells (adrV a0K).toArray 67 (0,0)) from r6)
     clear hw6 r6 hg6
     go_wp2_with fail
     exact⟨rfl,_,a0d rfl _ _ w.heap.size 67 (adrV a0K).toArray (0,0) _ rfl R6.out underlying67 rfl hzz.out _ rfl,by rw[HP.out];rfl,hb6⟩
    | some b =>
     have hnumB:=f1D (show _ from HBk.out)
     rw[hnB] at hnumB
     go_wp2_with (first
      | (have _t:=tok1;go_at_call 114;refine (hnumF.out _).mono ?_;rintro e w5 ⟨v5,rfl,rfl,hb5⟩;have hr5:=hr4.later hb5 hr4.lt;have hb5:=hb4.trans (hb5.mono hb4.size);clear tok1)
      | (have _t:=tok2;go_at_call 114;refine (hnumB.out _).mono ?_;rintro e w7 ⟨v7,rfl,⟨u7,rfl,ho7⟩,hb7⟩;obtain⟨A7,c7,rfl,hs7,-,hl7⟩:=i0l ho7;have hr7:=hr5.later hb7 hr5.lt;have hq7:=hb7;have hb7:=hb5.trans (hb7.mono hb5.size);have HRw7:=f1D (show w7.heap[w.heap.size]?=some (.cells (adrV a0K).toArray 67 (0,0)) from hr7);clear tok2)
      | (have _t:=HRw7;refine wpList_store_row rfl 67 (.tmp 2) (.tmp 117) rfl w.heap.size _ rfl rfl 67 (adrV a0K).toArray HRw7.out (by kernel_rfl) (by kernel_rfl) (by kernel_rfl) ?_;refine Hid.out ?_))
     refine f1D ?_
     generalize hw6:World.setRow _ _ _=wz
     obtain⟨r6,hg6⟩:=a0y (show Row w7 w.heap.size 67 (adrV a0K) from HRw7.out) (show World.setRow _ w.heap.size (adrV a0K).toArray=wz from hw6)
     have hb6:=hb7.grown hg6 hb7.size (fun k h=>by cases h;exact f1F _)
     have R6:=f1D (show wz.heap[w.heap.size]?=some (.cells (adrV a0K).toArray 67 (0,0)) from r6)
     clear hw6 r6 hg6
     go_wp2_with fail
     exact⟨rfl,_,a0d rfl _ _ w.heap.size 67 (adrV a0K).toArray (0,0) _ rfl R6.out underlying67 rfl hzz.out _ rfl,by rw[HP.out];rfl,hb6⟩
   | some f =>
    have hnumF:=f1D (show _ from HF.out)
    rw[hnF] at hnumF
    cases hnB:a0B 16 4 65535 58 (s.drop (k+2)) with
    | none =>
     have HP:=f1D (show c0s s=none by rw[HP0.out,hnF,hnB])
     have hnumB:=f1D (show _ from HBk.out)
     rw[hnB] at hnumB
     go_wp2_with (first
      | (have _t:=tok1;go_at_call 114;refine (hnumF.out _).mono ?_;rintro e w5 ⟨v5,rfl,⟨u5,rfl,ho5⟩,hb5⟩;obtain⟨A5,c5,rfl,hs5,-,hl5⟩:=i0l ho5;have hr5:=hr4.later hb5 hr4.lt;have hq5:=hb5;have hb5:=hb4.trans (hb5.mono hb4.size);clear tok1)
      | (have _t:=tok2;go_at_call 114;refine (hnumB.out _).mono ?_;rintro e w7 ⟨v7,rfl,rfl,hb7⟩;have hr7:=hr5.later hb7 hr5.lt;have hb7:=hb5.trans (hb7.mono hb5.size);have HRw7:=f1D (show w7.heap[w.heap.size]?=some (.cells (adrV a0K).toArray 67 (0,0)) from hr7);clear tok2)
      | (have _t:=HRw7;refine wpList_store_row rfl 67 (.tmp 2) (.tmp 117) rfl w.heap.size _ rfl rfl 67 (adrV a0K).toArray HRw7.out (by kernel_rfl) (by kernel_rfl) (by kernel_rfl) ?_;refine Hid.out ?_))
     refine f1D ?_
     generalize hw6:World.setRow _ _ _=wz
     obtain⟨r6,hg6⟩:=a0y (show Row w7 w.heap.size 67 (adrV a0K) from HRw7.out) (show World.setRow _ w.heap.size (adrV a0K).toArray=wz from hw6)
     have hb6:=hb7.grown hg6 hb7.size (fun k h=>by cases h;exact f1F _)
     have R6:=f1D (show wz.heap[w.heap.size]?=some (.cells (adrV a0K).toArray 67 (0,0)) from r6)
     clear hw6 r6 hg6
     go_wp2_with fail
     exact⟨rfl,_,a0d rfl _ _ w.heap.size 67 (adrV a0K).toArray (0,0) _ rfl R6.out underlying67 rfl hzz.out _ rfl,by rw[HP.out];rfl,hb6⟩
    | some b =>
     have hnumB:=f1D (show _ from HBk.out)
     rw[hnB] at hnumB
     have hfl:f.length≤s.length:=i0Y 16 4 65535 58 (s.take k) f s.length (by omega) (by omega) hnF (by rw[List.length_take];omega)
     have hbl:b.length≤s.length:=i0Y 16 4 65535 58 (s.drop (k+2)) b s.length (by omega) (by omega) hnB (by rw[List.length_drop];omega)
     by_cases h7:f.length+b.length≤7
     ·obtain⟨pd,hpd⟩:∃pd,pd=g0C f b:=⟨_,rfl⟩
      have hpl:pd.length=8:=by rw[hpd];exact r0Y f b h7
      have hpm:∀n∈pd,n≤65535:=by rw[hpd];exact c1D f b (fun n hn=>(((b0r 16 4 65535 58 (by omega) (by omega) (.inr rfl) _ f).1 hnF).2 n hn).1) (fun n hn=>(((b0r 16 4 65535 58 (by omega) (by omega) (.inr rfl) _ b).1 hnB).2 n hn).1)
      have HP1:=f1D (show c0s s=if a0Y (sixA pd)=s then some (sixA pd) else none by
       rw[HP0.out,hnF,hnB,hpd]
       by_cases he:a0Y (sixA (g0C f b))=s
       ·rw[if_pos he];exact if_pos ⟨h7,he⟩
       ·rw[if_neg he];exact if_neg (fun h=>he h.2))
      have HPD:=f1D (show ∀j,f.length+j+b.length=8→b0n (f++List.replicate j 0)++b0n b=b0n pd by
       intro j hj
       rw[hpd,←d0D,List.append_assoc]
       unfold g0C
       rw[show 8 - (f.length+b.length)=j by omega])
      have hsx:=f1D (fun A c w' (hs:Sl w' A c (b0n pd))=>s0j pd hpl hpm A c w' hs)
      have htx:=f1D (fun w'=>i0J (sixA pd) (g0c pd hpl) w')
      have h7':(f.length:Int)+(b.length:Int)≤7:=by omega
      have hok6:=g0c pd hpl
      obtain⟨V,hV⟩:∃V,V=adrV (sixA pd):=⟨_,rfl⟩
      have hVl:V.length=17:=by rw[hV];exact a0m hok6
      have hVz:=f1D (show (prog.info? 67).map (·.size)=some V.toArray.size by rw[b0b,List.size_toArray,hVl])
      have hVs:=f1D (show (adrV a0K).toArray.size=V.toArray.size by rw[List.size_toArray,List.size_toArray,a0m b0O,hVl])
      have hV1:=f1D (show V.toArray.all (·.oneCell')=true from b0d (by rw[hV];exact c0O _))
      have h17:=f1D (show 17=V.toArray.size by rw[List.size_toArray,hVl])
      have HV:=f1D hV
      rw[←hV] at hsx htx
      clear hV hVl hok6 hpd hpl hpm hnF hnB HP0 HF HBk
      obtain⟨i0,hi,hz0,hz1,hz2⟩:=info_parts h0R
      go_wp2_with (first
       | (have _t:=tok1;go_at_call 114;refine (hnumF.out _).mono ?_;rintro e w5 ⟨v5,rfl,⟨u5,rfl,ho5⟩,hb5⟩;obtain⟨A5,c5,rfl,hs5,-,hl5⟩:=i0l ho5;have hr5:=hr4.later hb5 hr4.lt;have hq5:=hb5;have hb5:=hb4.trans (hb5.mono hb4.size);clear tok1)
       | (have _t:=tok2;go_at_call 114;refine (hnumB.out _).mono ?_;rintro e w7 ⟨v7,rfl,⟨u7,rfl,ho7⟩,hb7⟩;obtain⟨A7,c7,rfl,hs7,-,hl7⟩:=i0l ho7;have hr7:=hr5.later hb7 hr5.lt;have hq7:=hb7;have hb7:=hb5.trans (hb7.mono hb5.size);have HRw7:=f1D (show w7.heap[w.heap.size]?=some (.cells (adrV a0K).toArray 67 (0,0)) from hr7);clear tok2))
      go_loopw [8] (fun v wq=>∃(j:Nat) (A:Option Addr) (c:Nat),f.length+j+b.length≤8∧v=.slice A (f.length+j) c∧wq.ownsRow wo.heap.size 3 1 (.slice A (f.length+j) c) (f.length+j) (b0n (f++List.replicate j 0))∧(∀a,A=some a→a.block < w5.heap.size∨w7.heap.size≤a.block)∧Sl wq A7 c7 (b0n b)∧w7.heap.size≤wq.heap.size∧Row wq w.heap.size 67 (adrV a0K)∧Below w.heap.size w wq) (fun v _=>8 - b1j v)
      case atStart =>
       refine⟨0,A5,c5,by omega,rfl,?_,fun a ha=>.inl (hl5 a ha).2,hs7,f1F _,hr7,hb7⟩
       rw[List.replicate_zero,List.append_nil]
       exact a0D ho5 hq7 (f1F _)
      case round =>
       have hwo:wo.heap.size≤w7.heap.size:=Nat.le_trans hq5.size hq7.size
       have hww:w.heap.size < wo.heap.size:=hr4.lt
       clear hr7 hb7 hs7 HRw7
       obtain⟨j,A,c,hj8,rfl,hown,hblk,hs7,hwq,hrq,hbq⟩:=hrel
       by_cases hlt:f.length+j+b.length < 8
       ·have hlt':(f.length:Int)+(j:Int)+(b.length:Int) < 8:=by omega
        have n1:f.length+j+1≤maxLen:=by unfold maxLen;omega
        have n2:(f.length+j+1)*8≤140737488355328:=by omega
        go_wp2_with (at_builtin;have howna:=hown.alloc (.cells #[.int .i64 0] 3);have hs7a:=hs7.later (f1F _) ((Below.refl _ wr).alloc (f1F _) (.cells #[.int .i64 0] 3));have hrqa:=hrq.later ((Below.refl _ wr).alloc (f1F _) (.cells #[.int .i64 0] 3)) hrq.lt;have hbqa:=hbq.alloc hbq.size (.cells #[.int .i64 0] 3);refine wpList_append_own_at _ rfl (.tmp 124) (.tmp 125) 166 rfl wo.heap.size 3 i0 _ 1 8 underlying166 hi hz0 hz1 hz2 rfl (by decide) _ (f.length+j) _ rfl howna ⟨wr.heap.size,0,none⟩ 1 1 [.int .i64 0] rfl rfl (d0m wr _ _) (by simp[Value.oneCell']) n1 n2 (by rw[World.size_alloc];omega) ?_;intro v8 w8 hown8 hg8 _ hwh)
        obtain⟨A8,c8,rfl,-,-,-⟩:=i0l hown8
        have hwh:(Value.slice A8 (f.length+j+1) c8).ownBlock=(Value.slice A (f.length+j) c).ownBlock∨(Value.slice A8 (f.length+j+1) c8).ownBlock=some (wr.alloc (.cells #[.int .i64 0] 3)).heap.size:=hwh
        have hne7:∀a,A7=some a→(Value.slice A (f.length+j) c).ownBlock≠some a.block:=by
         intro a ha e
         have h1:=hl7 a ha
         cases A with
         | none=>cases e
         | some a2 =>
          have e:a2.block=a.block:=by simpa [Value.ownBlock] using e
          have:=hblk a2 rfl
          omega
        have hs8:=c1X hs7a hg8 hne7
        have hr8:=n0j hrqa hg8 (fun e=>by have:=l0Q hown e;omega)
        have hb8:=hbqa.grown hg8 hbqa.size (fun g e=>by have:=l0Q hown e;omega)
        have hsz8:=hg8.size
        rw[World.size_alloc] at hsz8 hwh
        have hblk8:∀a,A8=some a→a.block < w5.heap.size∨w7.heap.size≤a.block:=by
         intro a ha
         subst ha
         rcases hwh with h | h
         ·cases A with
          | none=>cases h
          | some a2 =>
           have e:a.block=a2.block:=by simpa [Value.ownBlock] using h
           have:=hblk a2 rfl
           rw[e];exact this
         ·have e:a.block=wr.heap.size+1:=by simpa [Value.ownBlock] using h
          omega
        have eX:b0n (f++List.replicate j 0)++[.int .i64 0]=b0n (f++List.replicate (j+1) 0):=by
         rw[List.replicate_succ',←List.append_assoc,d0D (f++List.replicate j 0)];rfl
        rw[eX] at hown8
        clear hwh hg8 hne7 hblk hown howna eX
        go_wp2
        go_roundw
        case rel=>exact⟨j+1,A8,c8,by omega,rfl,hown8,hblk8,hs8,by omega,hr8,hb8⟩
        case measure=>simp[b1j];omega
       ·have he8:f.length+j+b.length=8:=by omega
        have hge':(8:Int)≤(f.length:Int)+(j:Int)+(b.length:Int):=by omega
        have tok3:True:=trivial
        by_cases he:a0Y (sixA pd)=s
        ·have HP:=f1D (show c0s s=some (sixA pd) by rw[HP1.out,if_pos he])
         have htl:((bstr (a0Y (sixA pd))).toList==(bstr s).toList)=true:=by rw[c0b];exact decide_eq_true he
         clear he HP1
         generalize a0Y (sixA pd)=X at *
         go_wp2_with (first
          | (have _t:=tok3;at_builtin;refine a0j rfl (.tmp 127) (.tmp 128) 166 rfl wo.heap.size 3 i0 _ 8 underlying166 hi hz0 hz1 hz2 rfl _ _ _ rfl hown A7 b.length c7 (b0n b) rfl (by rw[b0Q]) hs7 (g0z _) (by unfold maxLen;omega) (by omega) (Nat.le_trans hwo hwq) ?_;intro v8 w8 hown8 hg8;clear tok3;rw[HPD.out j he8,he8] at hown8;obtain⟨A8,c8,rfl,hs8,-,-⟩:=i0l hown8;have hr8:=n0j hrq hg8 (fun e=>by have:=l0Q hown e;omega);have hb8:=hbq.grown hg8 hbq.size (fun g e=>by have:=l0Q hown e;omega);clear hown8 hg8 hown hs7)
          | (go_at_call 116;refine (hsx.out A8 c8 _ hs8).mono ?_;rintro e w8' ⟨rfl,hb8'⟩;have hr8:=hr8.later hb8' hr8.lt;have hb8:=hb8.trans (hb8'.mono hb8.size);obtain⟨w8,rfl⟩:∃x:World,x=w8':=⟨_,rfl⟩;clear hs8 hb8')
          | (have _t:=hr8;refine wpList_store_row rfl 67 (.tmp 11) (.tmp 130) rfl w8.heap.size V.toArray rfl rfl 67 _ (heap_alloc_new w8 _) hVz.out h17.out hV1.out ?_;refine Hid.out ?_))
         refine f1D ?_
         generalize hw9:World.setRow _ _ _=w9
         obtain⟨r9,hb9'⟩:=a0v hw9
         have r9b:=hr8.later hb9' hr8.lt
         have hb9:=hb8.trans (hb9'.mono hb8.size)
         have HR9:=f1D (show w9.heap[w8.heap.size]?=some (.cells V.toArray 67 (0,0)) from r9)
         clear hw9 hb9'
         have tok4:True:=trivial
         go_wp2_with (first
          | (have _t:=tok4;with_reducible refine wpList_load_row rfl 67 (.tmp 11) rfl w8.heap.size rfl 67 V.toArray (0,0) _ HR9.out underlying67 rfl hVz.out ?_;clear tok4)
          | (go_at_call 115;refine (htx.out _).mono ?_;rintro e w10 ⟨rfl,hb10⟩;have r10:=r9.later hb10 r9.lt;have r10b:=r9b.later hb10 r9b.lt;have hb10:=hb9.trans (hb10.mono hb9.size);have HR10:=f1D (show w10.heap[w8.heap.size]?=some (.cells V.toArray 67 (0,0)) from r10);have H10:=f1D (show w10.heap[w.heap.size]?=some (.cells (adrV a0K).toArray 67 (0,0)) from r10b);clear r9 r9b r10 r10b)
          | (with_reducible refine wpList_load_row rfl 67 (.tmp 11) rfl w8.heap.size rfl 67 V.toArray (0,0) _ HR10.out underlying67 rfl hVz.out ?_)
          | (with_reducible refine wpList_store_row rfl 67 (.tmp 2) (.tmp 136) rfl w.heap.size V.toArray rfl rfl 67 (adrV a0K).toArray H10.out hVz.out hVs.out hV1.out ?_;refine Hid.out ?_))
         refine f1D ?_
         generalize hw11:World.setRow _ _ _=w11
         obtain⟨r11,hg11⟩:=a0y (show Row w10 w.heap.size 67 (adrV a0K) from H10.out) (show World.setRow _ w.heap.size V.toArray=w11 from hw11)
         have hb11:=hb10.grown hg11 hb10.size (fun k h=>by cases h;exact f1F _)
         have R11:=f1D (show w11.heap[w.heap.size]?=some (.cells V.toArray 67 (0,0)) from r11)
         clear hw11 r11 hg11 H10 HR10
         go_wp2_with fail
         exact⟨rfl,_,a0d rfl _ _ w.heap.size 67 V.toArray (0,0) _ rfl R11.out underlying67 rfl hVz.out _ rfl,by rw[HP.out];rw[HV.out];rfl,hb11⟩
        ·have HP:=f1D (show c0s s=none by rw[HP1.out,if_neg he])
         have htl:((bstr (a0Y (sixA pd))).toList==(bstr s).toList)=false:=by rw[c0b];exact decide_eq_false he
         clear he HP1
         generalize a0Y (sixA pd)=X at *
         go_wp2_with (first
          | (have _t:=tok3;at_builtin;refine a0j rfl (.tmp 127) (.tmp 128) 166 rfl wo.heap.size 3 i0 _ 8 underlying166 hi hz0 hz1 hz2 rfl _ _ _ rfl hown A7 b.length c7 (b0n b) rfl (by rw[b0Q]) hs7 (g0z _) (by unfold maxLen;omega) (by omega) (Nat.le_trans hwo hwq) ?_;intro v8 w8 hown8 hg8;clear tok3;rw[HPD.out j he8,he8] at hown8;obtain⟨A8,c8,rfl,hs8,-,-⟩:=i0l hown8;have hr8:=n0j hrq hg8 (fun e=>by have:=l0Q hown e;omega);have hb8:=hbq.grown hg8 hbq.size (fun g e=>by have:=l0Q hown e;omega);clear hown8 hg8 hown hs7)
          | (go_at_call 116;refine (hsx.out A8 c8 _ hs8).mono ?_;rintro e w8' ⟨rfl,hb8'⟩;have hr8:=hr8.later hb8' hr8.lt;have hb8:=hb8.trans (hb8'.mono hb8.size);obtain⟨w8,rfl⟩:∃x:World,x=w8':=⟨_,rfl⟩;clear hs8 hb8')
          | (have _t:=hr8;refine wpList_store_row rfl 67 (.tmp 11) (.tmp 130) rfl w8.heap.size V.toArray rfl rfl 67 _ (heap_alloc_new w8 _) hVz.out h17.out hV1.out ?_;refine Hid.out ?_))
         refine f1D ?_
         generalize hw9:World.setRow _ _ _=w9
         obtain⟨r9,hb9'⟩:=a0v hw9
         have r9b:=hr8.later hb9' hr8.lt
         have hb9:=hb8.trans (hb9'.mono hb8.size)
         have HR9:=f1D (show w9.heap[w8.heap.size]?=some (.cells V.toArray 67 (0,0)) from r9)
         clear hw9 hb9'
         have tok4:True:=trivial
         go_wp2_with (first
          | (have _t:=tok4;with_reducible refine wpList_load_row rfl 67 (.tmp 11) rfl w8.heap.size rfl 67 V.toArray (0,0) _ HR9.out underlying67 rfl hVz.out ?_;clear tok4)
          | (go_at_call 115;refine (htx.out _).mono ?_;rintro e w10 ⟨rfl,hb10⟩;have r10:=r9.later hb10 r9.lt;have r10b:=r9b.later hb10 r9b.lt;have hb10:=hb9.trans (hb10.mono hb9.size);have HR10:=f1D (show w10.heap[w8.heap.size]?=some (.cells V.toArray 67 (0,0)) from r10);have H10:=f1D (show w10.heap[w.heap.size]?=some (.cells (adrV a0K).toArray 67 (0,0)) from r10b);clear r9 r9b r10 r10b)
          | (have _t:=H10;refine wpList_store_row rfl 67 (.tmp 2) (.tmp 135) rfl w.heap.size _ rfl rfl 67 (adrV a0K).toArray H10.out (by kernel_rfl) (by kernel_rfl) (by kernel_rfl) ?_;refine Hid.out ?_))
         refine f1D ?_
         generalize hw11:World.setRow _ _ _=w11
         obtain⟨r11,hg11⟩:=a0y (show Row w10 w.heap.size 67 (adrV a0K) from H10.out) (show World.setRow _ w.heap.size (adrV a0K).toArray=w11 from hw11)
         have hb11:=hb10.grown hg11 hb10.size (fun k h=>by cases h;exact f1F _)
         have R11:=f1D (show w11.heap[w.heap.size]?=some (.cells (adrV a0K).toArray 67 (0,0)) from r11)
         clear hw11 r11 hg11 H10 HR10
         go_wp2_with fail
         exact⟨rfl,_,a0d rfl _ _ w.heap.size 67 (adrV a0K).toArray (0,0) _ rfl R11.out underlying67 rfl hzz.out _ rfl,by rw[HP.out];rfl,hb11⟩
     ·have HP:=f1D (show c0s s=none by rw[HP0.out,hnF,hnB];exact if_neg (fun h=>h7 h.1))
      have h7':(7:Int) < (f.length:Int)+(b.length:Int):=by omega
      go_wp2_with (first
       | (have _t:=tok1;go_at_call 114;refine (hnumF.out _).mono ?_;rintro e w5 ⟨v5,rfl,⟨u5,rfl,ho5⟩,hb5⟩;obtain⟨A5,c5,rfl,hs5,-,hl5⟩:=i0l ho5;have hr5:=hr4.later hb5 hr4.lt;have hq5:=hb5;have hb5:=hb4.trans (hb5.mono hb4.size);clear tok1)
       | (have _t:=tok2;go_at_call 114;refine (hnumB.out _).mono ?_;rintro e w7 ⟨v7,rfl,⟨u7,rfl,ho7⟩,hb7⟩;obtain⟨A7,c7,rfl,hs7,-,hl7⟩:=i0l ho7;have hr7:=hr5.later hb7 hr5.lt;have hq7:=hb7;have hb7:=hb5.trans (hb7.mono hb5.size);have HRw7:=f1D (show w7.heap[w.heap.size]?=some (.cells (adrV a0K).toArray 67 (0,0)) from hr7);clear tok2)
       | (have _t:=HRw7;refine wpList_store_row rfl 67 (.tmp 2) (.tmp 117) rfl w.heap.size _ rfl rfl 67 (adrV a0K).toArray HRw7.out (by kernel_rfl) (by kernel_rfl) (by kernel_rfl) ?_;refine Hid.out ?_))
      refine f1D ?_
      generalize hw6:World.setRow _ _ _=wz
      obtain⟨r6,hg6⟩:=a0y (show Row w7 w.heap.size 67 (adrV a0K) from HRw7.out) (show World.setRow _ w.heap.size (adrV a0K).toArray=wz from hw6)
      have hb6:=hb7.grown hg6 hb7.size (fun k h=>by cases h;exact f1F _)
      have R6:=f1D (show wz.heap[w.heap.size]?=some (.cells (adrV a0K).toArray 67 (0,0)) from r6)
      clear hw6 r6 hg6
      go_wp2_with fail
      exact⟨rfl,_,a0d rfl _ _ w.heap.size 67 (adrV a0K).toArray (0,0) _ rfl R6.out underlying67 rfl hzz.out _ rfl,by rw[HP.out];rfl,hb6⟩
theorem u0o (s:List UInt8) (hs:s.length≤1000) (w:World) :
  Calls prog 78 #[.string (bstr s)] w fun e w'=>e=.returned (k0D (c0f s))∧Below w.heap.size w w':=by
 unfold c0f
 cases hn:a0B 10 3 255 46 s with
 | none =>
  cases hf:d0i s with
  | none=>exact j0b s hs (fun l h=>by rw[hn] at h;cases h) hf w
  | some k=>exact m0b s hs (fun l h=>by rw[hn] at h;cases h) k hf w
 | some l =>
  by_cases h4:l.length=4
  ·simp only[if_pos h4]
   exact q0Q s hs l hn h4 w
  ·simp only[if_neg h4]
   cases hf:d0i s with
   | none=>exact j0b s hs (fun l' h=>by rw[hn] at h;cases h;exact h4) hf w
   | some k=>exact m0b s hs (fun l' h=>by rw[hn] at h;cases h;exact h4) k hf w
end Go.Proofs.YtcbilopdeiapjaaGreatDoor
