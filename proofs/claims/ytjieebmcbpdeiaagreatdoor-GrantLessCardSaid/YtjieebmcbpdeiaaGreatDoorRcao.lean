import Derived.Test.YtjieebmcbpdeiaaGreatDoorRcan
import Derived.Test.YtjieebmcbpdeiaaGreatDoorRcaa
import Derived.Test.YtjieebmcbpdeiaaGreatDoorRcad
import Derived.Test.YtjieebmcbpdeiaaGreatDoorRcac
import Derived.Deep.Slices
import Derived.ChangeSame
import Derived.Laws.Cover2
import Derived.Defers
import Derived.Recover
namespace Go.Proofs.YtjieebmcbpdeiaaGreatDoor
set_option maxRecDepth 100000
open Go Go.RowKit
theorem told_len17 (p:Prd) (ho:p.Ok) (hp:p.path.length≤4000) (hs:sumS p.names≤4000):(toldP p).1.length≤6∧(toldP p).2.length≤4000:=by
 have h1:(numL 10 p.time).length≤4000:=by have:=numL_len20 p.time ho.time;omega
 have h3:(joinL16 p.names).length≤4000:=by
  have:=glue_len 44 p.names
  unfold joinL16
  split
  ·omega
  ·simp
 have h5:(textR p.net).length≤4000:=by
  unfold textR
  split
  ·rename_i hc
   have h1:=textA_len p.net.a
   have h2:=checkR_lim p.net hc
   have h3:=numL_len20 p.net.n.toNat (by omega)
   rw[List.length_append,List.length_cons];omega
  ·simp
 have h6:(textC p.cost).length≤4000:=by have:=text_len p.cost;omega
 unfold toldP
 repeat' split
 all_goals first | exact⟨by dsimp only;decide,h1⟩ | exact⟨by dsimp only;decide,h3⟩ | exact⟨by dsimp only;decide,hp⟩ | exact⟨by dsimp only;decide,h5⟩ | exact⟨by dsimp only;decide,h6⟩ | exact⟨by simp,by simp⟩
set_option maxHeartbeats 1000000 in
theorem ptext_no (p:Prd) (A:Option Addr) (c:Nat) (w:World) (h:PrdAt w p A c) (hE:EnvQ w) (hp:parseP ((toldP p).1++32 :: (toldP p).2)=none) (HX:textP p=[]) :
  Calls Tryz.prog 20 #[.agg (prdV p A c).toArray] w fun e w'=>e=.returned (.string (bstr (textP p)))∧Below w.heap.size w w':=by
 have r1:Row (w.alloc (.cells (prdV p A c).toArray 31)) w.heap.size 31 (prdV p A c):=Row.new w _ _
 have hb1:Below w.heap.size w (w.alloc (.cells (prdV p A c).toArray 31)):=(Below.refl _ w).alloc (Nat.le_refl _) _
 obtain⟨w1,hw1⟩:∃w1,w1=w.alloc (.cells (prdV p A c).toArray 31):=⟨_,rfl⟩
 rw[←hw1] at r1 hb1
 have h1:=h.later (Nat.le_refl _) hb1
 have hE1:=hE.next hb1
 have HW:=Lib.hid hw1
 have tok1:True:=trivial
 have tok2:True:=trivial
 obtain⟨la,lb⟩:=told_len17 p h.ok h.path h.sum
 have hsz:=Lib.hid (show (Tryz.prog.info? 31).map (·.size)=some (prdV p A c).length by rw[length_prdV p h.ok.net.a];exact size_prd)
 have hwd:=Lib.hid (ptold_any p A c w1 h1 hE1)
 have hpr:=fun w' hh=>pparse17_any ((toldP p).1++32 :: (toldP p).2) (by rw[List.length_append,List.length_cons];omega) w' hh
 unfold GavePrd at hpr
 rw[hp] at hpr
 have hpr:∀w',EnvQ w'→Calls Tryz.prog 21 #[.string (bstr ((toldP p).1++32 :: (toldP p).2))] w' fun e w''=>∃(A:Option Addr) (c:Nat),e=.returned (.tuple #[.agg (prdV zeroP A c).toArray,.bool false])∧PrdAt w'' zeroP A c∧Below w'.heap.size w' w'':=hpr
 have HX:=Lib.hid HX
 clear hp
 clear hw1 h hE
 have hcat:=cat_blank17 (toldP p).1 (toldP p).2
 have hpr:=Lib.hid hpr
 generalize (toldP p).1=a at *
 generalize (toldP p).2=b at *
 have hza:=size_bstr a
 have hzb:=size_bstr b
 have a3:(bstr a++({ data:=#[32] } : ByteArray)).size=a.length+1:=by rw[show ({ data:=#[32] } : ByteArray)=bstr [32] from rfl,bstr_cat12,size_bstr];simp
 have a4:({ data:=#[32] } : ByteArray).size=1:=rfl
 have K1:=Lib.hid (row_range r1)
 obtain⟨X,hX⟩:∃X,X=prdV p A c:=⟨_,rfl⟩
 rw[←hX] at hsz hwd r1 K1 HW ⊢
 clear hX
 go_enter Tryz.func20,Tryz.ntmps20
 go_wp2_with (first
  | (have _t:=tok1;rw[←HW.out];clear tok1)
  | (have _t:=tok2;with_reducible refine wpList_load_mid rfl 31 (.tmp 1) rfl w.heap.size 0 rfl X _ K1.out Tryz.underlying31 rfl hsz.out ?_;clear tok2)
  | (go_at_call 49;refine hwd.out.mono ?_;rintro e w2 ⟨rfl,hq2⟩;have r2:=r1.later hq2 r1.lt;have hb2:=hb1.trans (hq2.mono hb1.size);have h2:=h1.later (Nat.le_refl _) hq2;have hE2:=hE1.next hq2;clear r1 h1 hE1 hq2)
  | (go_at_call 21;refine (hpr.out _ hE2).mono ?_;rintro e w3 ⟨A',c',rfl,hpv,hq3⟩;have r3:=r2.later hq3 r2.lt;have hb3:=hb2.trans (hq3.mono hb2.size);have h3:=h2.later (Nat.le_refl _) hq3;have hE3:=hE2.next hq3;clear r2 h2 hE2 hq3;refine Hid.out ?_))
 refine Lib.hid ?_
 clear hwd hpr hcat hza hzb a3 a4
 have hVl0:=length_prdV zeroP hpv.ok.net.a A' c'
 have hV1:=Lib.hid (prdV_one zeroP A' c')
 obtain⟨V,hV⟩:∃V,V=prdV zeroP A' c':=⟨_,rfl⟩
 rw[←hV] at hVl0 hV1
 try rw[←hV]
 have HV:=Lib.hid hV
 have hVl:=Lib.hid (show (Tryz.prog.info? 31).map (·.size)=some V.length by rw[hVl0];exact size_prd)
 have hVz:=Lib.hid (show (Tryz.prog.info? 31).map (·.size)=some V.toArray.size by rw[List.size_toArray,hVl0];exact size_prd)
 have hV23:=Lib.hid (show 23=V.toArray.size by rw[List.size_toArray,hVl0])
 have HPV:=Lib.hid hpv
 have H3:=Lib.hid h3
 clear hV hVl0 hpv h3
 go_wp2_with (first
  | (have _t:=HPV;refine wpList_store_row rfl 31 (.tmp 6) (.tmp 20) rfl w3.heap.size V.toArray rfl rfl 31 _ (heap_alloc_new w3 _) hVz.out hV23.out hV1.out ?_;refine Hid.out ?_))
 refine Lib.hid ?_
 generalize hw4:World.setRow _ _ _=w4
 obtain⟨r4,hq4⟩:=row_new_set (xs:=V) hw4
 have hb4:=hb3.trans (hq4.mono hb3.size)
 have r3:=r3.later hq4 r3.lt
 have K3:=Lib.hid (row_range r3)
 have K4:=Lib.hid (row_range r4)
 have hE4:=hE3.next hq4
 clear hw4 hq4 r3 r4 hE3 hE4 hb3 H3 HPV
 generalize w3.heap.size=g at *
 go_wp2
 go_ret
 exact⟨by rw[HX.out];rfl,hb4⟩
set_option maxHeartbeats 1000000 in
theorem ptext_off (p:Prd) (q:Prd) (A:Option Addr) (c:Nat) (w:World) (h:PrdAt w p A c) (hE:EnvQ w) (hp:parseP ((toldP p).1++32 :: (toldP p).2)=some q) (hs:sameP q p=false) (HX:textP p=[]) :
  Calls Tryz.prog 20 #[.agg (prdV p A c).toArray] w fun e w'=>e=.returned (.string (bstr (textP p)))∧Below w.heap.size w w':=by
 have r1:Row (w.alloc (.cells (prdV p A c).toArray 31)) w.heap.size 31 (prdV p A c):=Row.new w _ _
 have hb1:Below w.heap.size w (w.alloc (.cells (prdV p A c).toArray 31)):=(Below.refl _ w).alloc (Nat.le_refl _) _
 obtain⟨w1,hw1⟩:∃w1,w1=w.alloc (.cells (prdV p A c).toArray 31):=⟨_,rfl⟩
 rw[←hw1] at r1 hb1
 have h1:=h.later (Nat.le_refl _) hb1
 have hE1:=hE.next hb1
 have HW:=Lib.hid hw1
 have tok1:True:=trivial
 have tok2:True:=trivial
 obtain⟨la,lb⟩:=told_len17 p h.ok h.path h.sum
 have hsz:=Lib.hid (show (Tryz.prog.info? 31).map (·.size)=some (prdV p A c).length by rw[length_prdV p h.ok.net.a];exact size_prd)
 have hwd:=Lib.hid (ptold_any p A c w1 h1 hE1)
 have hpr:=fun w' hh=>pparse17_any ((toldP p).1++32 :: (toldP p).2) (by rw[List.length_append,List.length_cons];omega) w' hh
 unfold GavePrd at hpr
 rw[hp] at hpr
 have hpr:∀w',EnvQ w'→Calls Tryz.prog 21 #[.string (bstr ((toldP p).1++32 :: (toldP p).2))] w' fun e w''=>∃(A:Option Addr) (c:Nat),e=.returned (.tuple #[.agg (prdV q A c).toArray,.bool true])∧PrdAt w'' q A c∧Below w'.heap.size w' w'':=hpr
 have HX:=Lib.hid HX
 clear hp
 clear hw1 h hE
 have hcat:=cat_blank17 (toldP p).1 (toldP p).2
 have hpr:=Lib.hid hpr
 generalize (toldP p).1=a at *
 generalize (toldP p).2=b at *
 have hza:=size_bstr a
 have hzb:=size_bstr b
 have a3:(bstr a++({ data:=#[32] } : ByteArray)).size=a.length+1:=by rw[show ({ data:=#[32] } : ByteArray)=bstr [32] from rfl,bstr_cat12,size_bstr];simp
 have a4:({ data:=#[32] } : ByteArray).size=1:=rfl
 have K1:=Lib.hid (row_range r1)
 obtain⟨X,hX⟩:∃X,X=prdV p A c:=⟨_,rfl⟩
 rw[←hX] at hsz hwd r1 K1 HW ⊢
 have HXX:=Lib.hid hX
 clear hX
 go_enter Tryz.func20,Tryz.ntmps20
 go_wp2_with (first
  | (have _t:=tok1;rw[←HW.out];clear tok1)
  | (have _t:=tok2;with_reducible refine wpList_load_mid rfl 31 (.tmp 1) rfl w.heap.size 0 rfl X _ K1.out Tryz.underlying31 rfl hsz.out ?_;clear tok2)
  | (go_at_call 49;refine hwd.out.mono ?_;rintro e w2 ⟨rfl,hq2⟩;have r2:=r1.later hq2 r1.lt;have hb2:=hb1.trans (hq2.mono hb1.size);have h2:=h1.later (Nat.le_refl _) hq2;have hE2:=hE1.next hq2;clear r1 h1 hE1 hq2)
  | (go_at_call 21;refine (hpr.out _ hE2).mono ?_;rintro e w3 ⟨A',c',rfl,hpv,hq3⟩;have r3:=r2.later hq3 r2.lt;have hb3:=hb2.trans (hq3.mono hb2.size);have h3:=h2.later (Nat.le_refl _) hq3;have hE3:=hE2.next hq3;clear r2 h2 hE2 hq3;refine Hid.out ?_))
 refine Lib.hid ?_
 clear hwd hpr hcat hza hzb a3 a4
 have hVl0:=length_prdV q hpv.ok.net.a A' c'
 have hV1:=Lib.hid (prdV_one q A' c')
 obtain⟨V,hV⟩:∃V,V=prdV q A' c':=⟨_,rfl⟩
 rw[←hV] at hVl0 hV1
 try rw[←hV]
 have HV:=Lib.hid hV
 have hVl:=Lib.hid (show (Tryz.prog.info? 31).map (·.size)=some V.length by rw[hVl0];exact size_prd)
 have hVz:=Lib.hid (show (Tryz.prog.info? 31).map (·.size)=some V.toArray.size by rw[List.size_toArray,hVl0];exact size_prd)
 have hV23:=Lib.hid (show 23=V.toArray.size by rw[List.size_toArray,hVl0])
 have HPV:=Lib.hid hpv
 have H3:=Lib.hid h3
 clear hV hVl0 hpv h3
 go_wp2_with (first
  | (have _t:=HPV;refine wpList_store_row rfl 31 (.tmp 6) (.tmp 20) rfl w3.heap.size V.toArray rfl rfl 31 _ (heap_alloc_new w3 _) hVz.out hV23.out hV1.out ?_;refine Hid.out ?_))
 refine Lib.hid ?_
 generalize hw4:World.setRow _ _ _=w4
 obtain⟨r4,hq4⟩:=row_new_set (xs:=V) hw4
 have hb4:=hb3.trans (hq4.mono hb3.size)
 have r3:=r3.later hq4 r3.lt
 have K3:=Lib.hid (row_range r3)
 have K4:=Lib.hid (row_range r4)
 have hE4:=hE3.next hq4
 have hpa:=HPV.out.later (Nat.le_refl _) hq4
 have hpp:=H3.out.later (Nat.le_refl _) hq4
 have hsm:=psame17_any q p A' A c' c w4 hpa hpp
 rw[hs,←HV.out] at hsm
 rw[←HXX.out] at hsm
 have hsm:=Lib.hid hsm
 clear hw4 hq4 r3 r4 hE3 hE4 hb3 H3 HPV hpa hpp hs
 generalize w3.heap.size=g at *
 go_wp2_with (first
  | (with_reducible refine wpList_open (d:=some 25) ?_ ?_;kernel_rfl;with_reducible refine wpList_load_mid rfl 31 (.tmp 6) rfl g 0 rfl V _ K4.out Tryz.underlying31 rfl hVl.out ?_)
  | (with_reducible refine wpList_open (d:=some 26) ?_ ?_;kernel_rfl;with_reducible refine wpList_load_mid rfl 31 (.tmp 1) rfl w.heap.size 0 rfl X _ K3.out Tryz.underlying31 rfl hsz.out ?_)
  | (go_at_call 50;refine hsm.out.mono ?_;rintro e w5 ⟨rfl,hq5⟩;have hb5:=hb4.trans (hq5.mono hb4.size)))
 go_ret
 exact⟨by rw[HX.out];rfl,hb5⟩
set_option maxHeartbeats 1000000 in
theorem ptext_hit (p:Prd) (q:Prd) (A:Option Addr) (c:Nat) (w:World) (h:PrdAt w p A c) (hE:EnvQ w) (hp:parseP ((toldP p).1++32 :: (toldP p).2)=some q) (hs:sameP q p=true) (HX:textP p=(toldP p).1++32 :: (toldP p).2) :
  Calls Tryz.prog 20 #[.agg (prdV p A c).toArray] w fun e w'=>e=.returned (.string (bstr (textP p)))∧Below w.heap.size w w':=by
 have r1:Row (w.alloc (.cells (prdV p A c).toArray 31)) w.heap.size 31 (prdV p A c):=Row.new w _ _
 have hb1:Below w.heap.size w (w.alloc (.cells (prdV p A c).toArray 31)):=(Below.refl _ w).alloc (Nat.le_refl _) _
 obtain⟨w1,hw1⟩:∃w1,w1=w.alloc (.cells (prdV p A c).toArray 31):=⟨_,rfl⟩
 rw[←hw1] at r1 hb1
 have h1:=h.later (Nat.le_refl _) hb1
 have hE1:=hE.next hb1
 have HW:=Lib.hid hw1
 have tok1:True:=trivial
 have tok2:True:=trivial
 obtain⟨la,lb⟩:=told_len17 p h.ok h.path h.sum
 have hsz:=Lib.hid (show (Tryz.prog.info? 31).map (·.size)=some (prdV p A c).length by rw[length_prdV p h.ok.net.a];exact size_prd)
 have hwd:=Lib.hid (ptold_any p A c w1 h1 hE1)
 have hpr:=fun w' hh=>pparse17_any ((toldP p).1++32 :: (toldP p).2) (by rw[List.length_append,List.length_cons];omega) w' hh
 unfold GavePrd at hpr
 rw[hp] at hpr
 have hpr:∀w',EnvQ w'→Calls Tryz.prog 21 #[.string (bstr ((toldP p).1++32 :: (toldP p).2))] w' fun e w''=>∃(A:Option Addr) (c:Nat),e=.returned (.tuple #[.agg (prdV q A c).toArray,.bool true])∧PrdAt w'' q A c∧Below w'.heap.size w' w'':=hpr
 have HX:=Lib.hid HX
 clear hp
 clear hw1 h hE
 have hcat:=cat_blank17 (toldP p).1 (toldP p).2
 have hpr:=Lib.hid hpr
 generalize (toldP p).1=a at *
 generalize (toldP p).2=b at *
 have hza:=size_bstr a
 have hzb:=size_bstr b
 have a3:(bstr a++({ data:=#[32] } : ByteArray)).size=a.length+1:=by rw[show ({ data:=#[32] } : ByteArray)=bstr [32] from rfl,bstr_cat12,size_bstr];simp
 have a4:({ data:=#[32] } : ByteArray).size=1:=rfl
 have K1:=Lib.hid (row_range r1)
 obtain⟨X,hX⟩:∃X,X=prdV p A c:=⟨_,rfl⟩
 rw[←hX] at hsz hwd r1 K1 HW ⊢
 have HXX:=Lib.hid hX
 clear hX
 go_enter Tryz.func20,Tryz.ntmps20
 go_wp2_with (first
  | (have _t:=tok1;rw[←HW.out];clear tok1)
  | (have _t:=tok2;with_reducible refine wpList_load_mid rfl 31 (.tmp 1) rfl w.heap.size 0 rfl X _ K1.out Tryz.underlying31 rfl hsz.out ?_;clear tok2)
  | (go_at_call 49;refine hwd.out.mono ?_;rintro e w2 ⟨rfl,hq2⟩;have r2:=r1.later hq2 r1.lt;have hb2:=hb1.trans (hq2.mono hb1.size);have h2:=h1.later (Nat.le_refl _) hq2;have hE2:=hE1.next hq2;clear r1 h1 hE1 hq2)
  | (go_at_call 21;refine (hpr.out _ hE2).mono ?_;rintro e w3 ⟨A',c',rfl,hpv,hq3⟩;have r3:=r2.later hq3 r2.lt;have hb3:=hb2.trans (hq3.mono hb2.size);have h3:=h2.later (Nat.le_refl _) hq3;have hE3:=hE2.next hq3;clear r2 h2 hE2 hq3;refine Hid.out ?_))
 refine Lib.hid ?_
 clear hwd hpr hcat hza hzb a3 a4
 have hVl0:=length_prdV q hpv.ok.net.a A' c'
 have hV1:=Lib.hid (prdV_one q A' c')
 obtain⟨V,hV⟩:∃V,V=prdV q A' c':=⟨_,rfl⟩
 rw[←hV] at hVl0 hV1
 try rw[←hV]
 have HV:=Lib.hid hV
 have hVl:=Lib.hid (show (Tryz.prog.info? 31).map (·.size)=some V.length by rw[hVl0];exact size_prd)
 have hVz:=Lib.hid (show (Tryz.prog.info? 31).map (·.size)=some V.toArray.size by rw[List.size_toArray,hVl0];exact size_prd)
 have hV23:=Lib.hid (show 23=V.toArray.size by rw[List.size_toArray,hVl0])
 have HPV:=Lib.hid hpv
 have H3:=Lib.hid h3
 clear hV hVl0 hpv h3
 go_wp2_with (first
  | (have _t:=HPV;refine wpList_store_row rfl 31 (.tmp 6) (.tmp 20) rfl w3.heap.size V.toArray rfl rfl 31 _ (heap_alloc_new w3 _) hVz.out hV23.out hV1.out ?_;refine Hid.out ?_))
 refine Lib.hid ?_
 generalize hw4:World.setRow _ _ _=w4
 obtain⟨r4,hq4⟩:=row_new_set (xs:=V) hw4
 have hb4:=hb3.trans (hq4.mono hb3.size)
 have r3:=r3.later hq4 r3.lt
 have K3:=Lib.hid (row_range r3)
 have K4:=Lib.hid (row_range r4)
 have hE4:=hE3.next hq4
 have hpa:=HPV.out.later (Nat.le_refl _) hq4
 have hpp:=H3.out.later (Nat.le_refl _) hq4
 have hsm:=psame17_any q p A' A c' c w4 hpa hpp
 rw[hs,←HV.out] at hsm
 rw[←HXX.out] at hsm
 have hsm:=Lib.hid hsm
 clear hw4 hq4 r3 r4 hE3 hE4 hb3 H3 HPV hpa hpp hs
 generalize w3.heap.size=g at *
 go_wp2_with (first
  | (with_reducible refine wpList_open (d:=some 25) ?_ ?_;kernel_rfl;with_reducible refine wpList_load_mid rfl 31 (.tmp 6) rfl g 0 rfl V _ K4.out Tryz.underlying31 rfl hVl.out ?_)
  | (with_reducible refine wpList_open (d:=some 26) ?_ ?_;kernel_rfl;with_reducible refine wpList_load_mid rfl 31 (.tmp 1) rfl w.heap.size 0 rfl X _ K3.out Tryz.underlying31 rfl hsz.out ?_)
  | (go_at_call 50;refine hsm.out.mono ?_;rintro e w5 ⟨rfl,hq5⟩;have hb5:=hb4.trans (hq5.mono hb4.size)))
 go_ret
 exact⟨by rw[HX.out,←cat_blank17];rfl,hb5⟩
theorem ptext17_any (p:Prd) (A:Option Addr) (c:Nat) (w:World) (h:PrdAt w p A c) (hE:EnvQ w) :
  Calls Tryz.prog 20 #[.agg (prdV p A c).toArray] w fun e w'=>e=.returned (.string (bstr (textP p)))∧Below w.heap.size w w':=by
 cases hp:parseP ((toldP p).1++32 :: (toldP p).2) with
 | none=>exact ptext_no p A c w h hE hp (text_miss p h.ok (by rw[hp];simp))
 | some q =>
  cases hs:sameP q p with
  | false=>exact ptext_off p q A c w h hE hp hs (text_miss p h.ok (by rw[hp];intro e;rw[(sameP_iff q p).2 (Option.some.inj e)] at hs;cases hs))
  | true=>exact ptext_hit p q A c w h hE hp hs (text_hit p (by rw[hp,(sameP_iff q p).1 hs]))
set_option maxHeartbeats 1000000 in
theorem pcheck17_any (p:Prd) (A:Option Addr) (c:Nat) (w:World) (h:PrdAt w p A c) (hE:EnvQ w) :
  Calls Tryz.prog 19 #[.agg (prdV p A c).toArray] w fun e w'=>e=.returned (.bool (!decide (textP p=[])))∧Below w.heap.size w w':=by
 have r1:Row (w.alloc (.cells (prdV p A c).toArray 31)) w.heap.size 31 (prdV p A c):=Row.new w _ _
 have hb1:Below w.heap.size w (w.alloc (.cells (prdV p A c).toArray 31)):=(Below.refl _ w).alloc (Nat.le_refl _) _
 have h1:=h.later (Nat.le_refl _) hb1
 have hsz:=Lib.hid (show (Tryz.prog.info? 31).map (·.size)=some (prdV p A c).length by rw[length_prdV p h.ok.net.a];exact size_prd)
 have K0:=Lib.hid (row_range r1)
 have htx:=Lib.hid (ptext17_any p A c _ h1 (hE.next hb1))
 have e1:=bstr_empty17 (textP p)
 generalize textP p=V at *
 clear h1 h r1 hE
 generalize prdV p A c=X at *
 by_cases c1:V=[]
 ·rw[decide_eq_true c1] at e1 ⊢
  clear c1
  go_enter Tryz.func19,Tryz.ntmps19
  go_wp2_with (first
   | (with_reducible refine wpList_load_mid rfl 31 (.tmp 1) rfl w.heap.size 0 rfl X _ K0.out Tryz.underlying31 rfl hsz.out ?_)
   | (go_at_call 20;refine htx.out.mono ?_;rintro e w2 ⟨rfl,hq⟩;have hb2:=hb1.trans (hq.mono hb1.size)))
  go_ret
  exact⟨rfl,hb2⟩
 ·rw[decide_eq_false c1] at e1 ⊢
  clear c1
  go_enter Tryz.func19,Tryz.ntmps19
  go_wp2_with (first
   | (with_reducible refine wpList_load_mid rfl 31 (.tmp 1) rfl w.heap.size 0 rfl X _ K0.out Tryz.underlying31 rfl hsz.out ?_)
   | (go_at_call 20;refine htx.out.mono ?_;rintro e w2 ⟨rfl,hq⟩;have hb2:=hb1.trans (hq.mono hb1.size)))
  go_ret
  exact⟨rfl,hb2⟩
open Go.ChangeShapes Go.WideShapes Go.ChangeAt Go.RowKit
theorem cells_adr17:Tryz.prog.cellsOf 26=17:=by kernel_rfl
theorem cells_16:Tryz.prog.cellsOf 24=16:=by kernel_rfl
theorem cells_u64_17:Tryz.prog.cellsOf 22=1:=by kernel_rfl
theorem cells_u8_17:Tryz.prog.cellsOf 5=1:=by kernel_rfl
theorem cells_bool17:Tryz.prog.cellsOf 4=1:=by kernel_rfl
theorem cells_f64_17:Tryz.prog.cellsOf 29=1:=by kernel_rfl
section
variable {H:Type} {enc:TypeId×Value→H} {W:World} {held:Bool} {b1:Nat}
theorem len2 {α:Type} (l:List α) (h:l.length=2):∃a b,l=[a,b]:=by
 match l,h with
 | [a,b],_=>exact⟨a,b,rfl⟩
theorem open_bytes16 {n:Nat} {cs:List Value} {x:DataW H×List MemPlace} (h:DataW.trod enc Tryz.prog W b1 (fun _=>true) held n 24 cs=some x):∃l:List UInt8,l.length=16∧cs=byts l:=by
 obtain⟨xs,m,_,_,hcl,hxl,hf⟩:=DataW.trod_array Tryz.underlying24 h
 rw[cells_16] at hcl
 have hel:∀i,i < cs.length→∃z,cs[i]?=some (.int .u8 z)∧(Lit.int .u8 z).wf=true:=by
  intro i hi
  have h1:=hf i (by omega)
  rw[cells_u8_17,List.getElem?_eq_getElem (by omega)] at h1
  obtain⟨z,hc,_,hw⟩:=DataW.trod_int Tryz.underlying5 h1
  refine⟨z,?_,hw⟩
  have:=congrArg (·[0]?) hc
  simpa [List.getElem?_take,List.getElem?_drop] using this
 obtain⟨zs,h1,h2,h3⟩:=ints_of_list (k:=.u8) cs hel
 obtain⟨l,q1,q2⟩:=bytes_of_ints zs (fun j hj=>bounds_u8 (h3 j (by omega)))
 exact⟨l,by omega,by rw[h2,q2]⟩
theorem open_adr17 {n:Nat} {cs:List Value} {x:DataW H×List MemPlace} (h:DataW.trod enc Tryz.prog W b1 (fun _=>true) held n 26 cs=some x):∃a:Adr,a.Ok∧cs=adrV a:=by
 obtain⟨xs,m,_,rfl,hcl,hxl,hf⟩:=DataW.trod_struct Tryz.underlying26 h
 rw[cells_adr17] at hcl
 obtain⟨y0,y1,rfl⟩:=len2 xs hxl
 have g0:DataW.trod enc Tryz.prog W b1 (fun _=>true) held m 4 ((cs.drop 0).take (Tryz.prog.cellsOf 4))=some y0:=hf 0 _ rfl
 have g1:DataW.trod enc Tryz.prog W b1 (fun _=>true) held m 24 ((cs.drop 1).take (Tryz.prog.cellsOf 24))=some y1:=hf 1 _ rfl
 rw[cells_bool17] at g0
 rw[cells_16,List.take_of_length_le (by rw[List.length_drop];omega)] at g1
 obtain⟨b,e0,_⟩:=DataW.trod_bool Tryz.underlying4 g0
 obtain⟨l,hl,e1⟩:=open_bytes16 g1
 refine⟨⟨b,l⟩,hl,?_⟩
 have e:cs=(cs.drop 0).take 1++cs.drop 1:=by rw[List.drop_zero,List.take_append_drop]
 rw[e,e0,e1];rfl
theorem open_f64_17 {n:Nat} {cs:List Value} {x:DataW H×List MemPlace} (h:DataW.trod enc Tryz.prog W b1 (fun _=>true) held n 29 cs=some x):∃b:Nat,cs=[.float .f64 b]∧b < 2^64:=by
 cases n with
 | zero=>simp[DataW.trod] at h
 | succ n =>
  unfold DataW.trod at h
  rw[Tryz.underlying29] at h
  split at h<;>simp_all
  rename_i k k' b hk
  subst hk
  obtain⟨⟨-,h⟩,-⟩:=h
  exact of_decide_eq_true h
end
end Go.Proofs.YtjieebmcbpdeiaaGreatDoor
namespace Go.Proofs.YtjieebmcbpdeiaaGreatDoor
set_option maxRecDepth 100000
open Go Go.RowKit
theorem qcheck_any (p:Prd) (A:Option Addr) (c:Nat) (w:World) (h:PrdAt w p A c) (hE:EnvQ w) :
  Calls Tryz.prog 19 #[.agg (prdV p A c).toArray] w fun e w'=>e=.returned (.bool (!decide (textP p=[])))∧Below w.heap.size w w':=pcheck17_any p A c w h hE
theorem qparse_any (s:List UInt8) (hs:s.length≤2000) (w:World) (hE:EnvQ w):Calls Tryz.prog 21 #[.string (bstr s)] w (GavePrd (parseP s) w):=pparse17_any s (by omega) w hE
theorem recover_pan (p:Addr) (x:Bool) (u:TypeId) (pv:Value) (older:List PanicEntry) (w:World) (hc:w.cell? p=some (.bool x)) (hz:w.frozen? p=false) :
  CallsD Tryz.prog 25 #[.pointer (some p)] (.panicking ({ v:=.iface u pv,recovered:=false } :: older)) w fun e u' w' =>
   e=.returned (.tuple #[])∧u'=.panicking ({ v:=.iface u pv,recovered:=true } :: older)∧w'=w.setCell p (.bool false):=by
 refine callsD_of_wpS Tryz.func25 rfl fun c₀ cs hu=>?_
 apply wpS_seq
 apply wpS_region
 simp[wpOpsS,go_sem,recoverD,hu,Tryz.ntmps25,Exit.thenS]
 refine wpS_cond (t:=true) (by simp[Act.eval,Array.replicate]) ?_
 simp only[if_true]
 apply wpS_region
 simp[wpOpsS,go_sem,hc,hz,bodyPostS,results,Tryz.results25]
theorem recover_idle (p:Addr) (w:World) :
  CallsD Tryz.prog 25 #[.pointer (some p)] .returning w fun e u' w'=>e=.returned (.tuple #[])∧u'=.returning∧w'=w:=by
 refine callsD_of_wpS Tryz.func25 rfl fun c₀ cs hu=>?_
 apply wpS_seq
 apply wpS_region
 simp[wpOpsS,go_sem,recoverD,hu,Tryz.ntmps25,Exit.thenS]
 refine wpS_cond (t:=false) (by simp[Act.eval,Array.replicate]) ?_
 simp only[Bool.false_eq_true,if_false]
 refine wpS_of_wp (wp_skip ?_)
 cases c₀
 simp_all [bodyPostS,results,Tryz.results25]
def kindPanic:PanicEntry:={ v:=.iface 9 (.string ⟨#[110,111,32,107,105,110,100,32,104,97,115,32,115,117,99,104,32,97,32,112,114,101,100,105,99,97,116,101]⟩),recovered:=false }
theorem pkind_any (p:Prd) (A:Option Addr) (c:Nat) (w:World) (h:PrdAt w p A c) (hE:EnvQ w) (ht:textP p≠[]) :
  Calls Tryz.prog 26 #[.agg (prdV p A c).toArray] w fun e w'=>e=.returned (.int .i64 p.kind)∧Below w.heap.size w w':=by
 have hsz:=Lib.hid (show (Tryz.prog.info? 31).map (·.size)=some (prdV p A c).length by rw[length_prdV p h.ok.net.a];exact size_prd)
 have PC:=Lib.hid (fun w' g (hr:Row w' g 31 (prdV p A c))=>prd_cells (p:=p) (A:=A) (c:=c) h.ok.net.a hr)
 obtain⟨X,hX⟩:∃X,X=prdV p A c:=⟨_,rfl⟩
 obtain⟨w1,hw1⟩:∃w1,w1=w.alloc (.cells X.toArray 31):=⟨_,rfl⟩
 obtain⟨r1,hb1⟩:=one_box hw1.symm
 have HW:=Lib.hid hw1
 have a1:=h.later (Nat.le_refl _) hb1
 have hck:=qcheck_any p A c w1 a1 (hE.next hb1)
 rw[decide_eq_false ht] at hck
 rw[←hX] at hsz PC hck ⊢
 have hck:=Lib.hid hck
 have tokL:True:=trivial
 clear hX hw1
 go_enter Tryz.func26,Tryz.ntmps26
 go_wp2_with (first
  | (have _t:=tokL;rw[←HW.out];with_reducible refine wpList_load_mid rfl 31 (.tmp 1) rfl w.heap.size 0 rfl X _ (row_range r1) Tryz.underlying31 rfl hsz.out ?_;clear tokL)
  | (go_at_call 19;refine hck.out.mono ?_;rintro e w2 ⟨rfl,hq⟩;have r1:=r1.later hq r1.lt;have hb1:=hb1.trans (hq.mono hb1.size);clear hq;have j1:=(PC.out _ _ r1).1))
 go_ret
 exact⟨rfl,hb1⟩
theorem pkind_no (p:Prd) (A:Option Addr) (c:Nat) (w:World) (h:PrdAt w p A c) (hE:EnvQ w) (ht:textP p=[]) :
  Calls Tryz.prog 26 #[.agg (prdV p A c).toArray] w fun e w'=>e=.panicked [kindPanic]∧Below w.heap.size w w':=by
 have hsz:=Lib.hid (show (Tryz.prog.info? 31).map (·.size)=some (prdV p A c).length by rw[length_prdV p h.ok.net.a];exact size_prd)
 obtain⟨X,hX⟩:∃X,X=prdV p A c:=⟨_,rfl⟩
 obtain⟨w1,hw1⟩:∃w1,w1=w.alloc (.cells X.toArray 31):=⟨_,rfl⟩
 obtain⟨r1,hb1⟩:=one_box hw1.symm
 have HW:=Lib.hid hw1
 have a1:=h.later (Nat.le_refl _) hb1
 have hck:=qcheck_any p A c w1 a1 (hE.next hb1)
 rw[decide_eq_true ht] at hck
 rw[←hX] at hsz hck ⊢
 have hck:=Lib.hid hck
 have tokL:True:=trivial
 clear hX hw1
 go_enter Tryz.func26,Tryz.ntmps26
 go_wp2_with (first
  | (have _t:=tokL;rw[←HW.out];with_reducible refine wpList_load_mid rfl 31 (.tmp 1) rfl w.heap.size 0 rfl X _ (row_range r1) Tryz.underlying31 rfl hsz.out ?_;clear tokL)
  | (go_at_call 19;refine hck.out.mono ?_;rintro e w2 ⟨rfl,hq⟩;have hb1:=hb1.trans (hq.mono hb1.size);clear hq))
 exact⟨rfl,rfl,hb1⟩
theorem three_boxes {w w1:World} {Q P:List Value} {t u s:TypeId} (h:((w.alloc (.cells Q.toArray t)).alloc (.cells P.toArray u)).alloc (.cells #[.bool false] s)=w1) :
  Row w1 w.heap.size t Q∧Row w1 (w.heap.size+1) u P∧Row w1 (w.heap.size+2) s [.bool false]∧Below w.heap.size w w1:=by
 obtain⟨w2,hw2⟩:∃w2,(w.alloc (.cells Q.toArray t)).alloc (.cells P.toArray u)=w2:=⟨_,rfl⟩
 obtain⟨r1,q1,hb⟩:=two_boxes hw2
 have hs:w2.heap.size=w.heap.size+2:=by
  rw[←hw2]
  show ((w.alloc (.cells Q.toArray t)).heap.push _).size=_
  rw[Array.size_push]
  show (w.heap.push _).size+1=_
  rw[Array.size_push]
 rw[hw2] at h
 have h3:Row w1 w2.heap.size s [.bool false]:=by rw[←h];exact Row.new w2 _ [.bool false]
 have hb3:Below w2.heap.size w2 w1:=by rw[←h];exact (Below.refl _ _).alloc (Nat.le_refl _) _
 rw[hs] at h3
 exact⟨r1.later hb3 r1.lt,q1.later hb3 q1.lt,h3,hb.trans (hb3.mono hb.size)⟩
theorem holds_ret (w W:World) (g:Nat) (tmps:Array Value) (V:Bool) (hx:Row W g 4 [.bool V]) (hb:Below w.heap.size w W) (h6:tmps[6]?.getD undef=.pointer (some ⟨g,0,none⟩)) :
  bodyPostD Tryz.prog Tryz.f12 (fun e w'=>e=.returned (.bool V)∧Below w.heap.size w w') Exit.ret { tmps:=tmps,defers:=[{ target:=Target.fn (Fn.func 25) #[.pointer (some ⟨g,0,none⟩)],args:=#[] }] } W:=by
 have hc:=hx.cell 0
 have hc:W.cell? ⟨g,0,none⟩=some (.bool V):=hc
 refine leaves_cons (f:=25) (args:=#[.pointer (some ⟨g,0,none⟩)]) (by simp) (by simp[go_sem]) ?_
 refine (recover_idle ⟨g,0,none⟩ W).mono ?_
 rintro e u' w'' ⟨rfl,rfl,rfl⟩
 simp[Leaves,settle,results,Tryz.results12,go_sem,h6,hc]
 exact hb
theorem holds_pan (w W:World) (g:Nat) (tmps:Array Value) (x:Bool) (hx:Row W g 4 [.bool x]) (hg:w.heap.size≤g) (hb:Below w.heap.size w W) (h6:tmps[6]?.getD undef=.pointer (some ⟨g,0,none⟩)) :
  bodyPostD Tryz.prog Tryz.f12 (fun e w'=>e=.returned (.bool false)∧Below w.heap.size w w') (Exit.panic [kindPanic]) { tmps:=tmps,defers:=[{ target:=Target.fn (Fn.func 25) #[.pointer (some ⟨g,0,none⟩)],args:=#[] }] } W:=by
 have hc:=hx.cell 0
 have hc:W.cell? ⟨g,0,none⟩=some (.bool x):=hc
 have hz:=hx.free 0
 have hx2:=(hx.set 0 (.bool false)).cell 0
 have hx2:(W.setCell ⟨g,0,none⟩ (.bool false)).cell? ⟨g,0,none⟩=some (.bool false):=hx2
 have hb2:=hb.setCell (p:=⟨g,0,none⟩) hg (.bool false)
 refine leaves_cons (f:=25) (args:=#[.pointer (some ⟨g,0,none⟩)]) (by simp) (by simp[go_sem]) ?_
 refine (recover_pan ⟨g,0,none⟩ x 9 _ [] W hc hz).mono ?_
 rintro e u' w'' ⟨rfl,rfl,rfl⟩
 generalize W.setCell ⟨g,0,none⟩ (.bool false)=W2 at *
 simp[Leaves,settle,results,Tryz.results12,go_sem,h6,hx2]
 exact hb2
theorem holds_contains (l:List (List UInt8)) (hl:l.length≤1000000) (s:List UInt8) (A:Option Addr) (c:Nat) (w:World) (hs:Sl w A c (strsV l)) :
  Calls Tryz.prog 27 #[.slice A l.length c,.string (bstr s)] w fun e w'=>e=.returned (.bool (decide (s∈l)))∧w'=w:=by
 by_cases h0:l.length=0
 ·have e1:=List.length_eq_zero_iff.1 h0
  subst e1
  exact Tryz.slices_Contains_string_empty A c (bstr s) w
 ·obtain⟨b1,o1,rfl,-,-⟩:=hs.rd.get (i:=0) (by rw[length_strsV];omega)
  refine (Tryz.slices_Contains_string b1 o1 l.length c (l.map bstr) (bstr s) w (by rw[List.length_map];omega) (by omega) (fun j hj=>by rw[List.length_map] at hj;rw[getD_bstr16 l j hj];exact strs_cell hs j hj)).mono ?_
  rintro e w' ⟨rfl,rfl⟩
  have e:Lib.containsS (l.map bstr) (bstr s)=decide (s∈l):=by
   rw[Bool.eq_iff_iff,Lib.containsS_iff,decide_eq_true_iff,List.mem_map]
   exact⟨fun ⟨x,hx,he⟩=>by rw[←bstr_inj he];exact hx,fun h=>⟨s,h,rfl⟩⟩
  rw[List.take_of_length_le (by rw[List.length_map];omega),e]
  exact⟨rfl,rfl⟩
set_option maxHeartbeats 4000000 in
theorem pholds_no (p:Prd) (A:Option Addr) (c:Nat) (r:Req) (t:Nat) (w:World) (hp:PrdAt w p A c) (hr:r.Ok) (_ht:t < 2^64) (hE:EnvQ w) (hx:textP p=[]) :
  Calls Tryz.prog 12 #[.agg (prdV p A c).toArray,.agg (reqV r).toArray,.int .u64 (t:Int)] w fun e w'=>e=.returned (.bool (holdsL p r t))∧Below w.heap.size w w':=by
 have hsz:=Lib.hid (show (Tryz.prog.info? 31).map (·.size)=some (prdV p A c).length by rw[length_prdV p hp.ok.net.a];exact size_prd)
 have PC:=Lib.hid (fun w' g (h:Row w' g 31 (prdV p A c))=>prd_cells (p:=p) (A:=A) (c:=c) hp.ok.net.a h)
 have RC:=Lib.hid (fun w' g (h:Row w' g 33 (reqV r))=>req_cells (r:=r) hr.src h)
 have hmf:∀(fn:Fn) (first cap:Array Value) (w:World),(Instr.makeFunc fn first cap).run Tryz.prog w=.ok (.func fn first cap) w:=fun _ _ _ _=>rfl
 obtain⟨X,hX⟩:∃X,X=prdV p A c:=⟨_,rfl⟩
 obtain⟨R,hR⟩:∃R,R=reqV r:=⟨_,rfl⟩
 obtain⟨w1,hw1⟩:∃w1,w1=((w.alloc (.cells X.toArray 31)).alloc (.cells R.toArray 33)).alloc (.cells #[.bool false] 4):=⟨_,rfl⟩
 obtain⟨r1,q1,x1,hb1⟩:=three_boxes hw1.symm
 have HW:=Lib.hid hw1
 have a1:=hp.later (Nat.le_refl _) hb1
 have hE1:=hE.next hb1
 rw[←hX] at hsz PC ⊢
 rw[←hR] at RC ⊢
 have HX:=Lib.hid hX
 have tokL:True:=trivial
 clear hX hR hw1 hE
 have hk:=Lib.hid (fun w' a e=>pkind_no p A c w' a e hx)
 have HV:=Lib.hid (show holdsL p r t=false from if_pos hx)
 generalize holdsL p r t=V at *
 rw[←HX.out] at hk
 clear hx
 go_enter_defers Tryz.func12,Tryz.ntmps12
 go_wp2_with (first
  | (have _t:=tokL;rw[←HW.out];with_reducible refine wpList_load_mid rfl 31 (.tmp 3) rfl w.heap.size 0 rfl X _ (row_range r1) Tryz.underlying31 rfl hsz.out ?_;clear tokL)
  | (go_at_call 26;refine (hk.out _ a1 hE1).mono ?_;rintro e w2 ⟨rfl,hq⟩;have r1:=r1.later hq r1.lt;have q1:=q1.later hq q1.lt;have x1:=x1.later hq x1.lt;have a1:=a1.later (Nat.le_refl _) hq;have hE1:=hE1.next hq;have hb1:=hb1.trans (hq.mono hb1.size);clear hq))
 rw[HV.out]
 exact holds_pan w _ (w.heap.size+1+1) _ false x1 (by omega) hb1 rfl
set_option maxHeartbeats 4000000 in
theorem pholds_1 (p:Prd) (A:Option Addr) (c:Nat) (r:Req) (t:Nat) (w:World) (hp:PrdAt w p A c) (hr:r.Ok) (_ht:t < 2^64) (hE:EnvQ w) (hx:textP p≠[]) (hkd:p.kind=1) :
  Calls Tryz.prog 12 #[.agg (prdV p A c).toArray,.agg (reqV r).toArray,.int .u64 (t:Int)] w fun e w'=>e=.returned (.bool (holdsL p r t))∧Below w.heap.size w w':=by
 have hsz:=Lib.hid (show (Tryz.prog.info? 31).map (·.size)=some (prdV p A c).length by rw[length_prdV p hp.ok.net.a];exact size_prd)
 have PC:=Lib.hid (fun w' g (h:Row w' g 31 (prdV p A c))=>prd_cells (p:=p) (A:=A) (c:=c) hp.ok.net.a h)
 have RC:=Lib.hid (fun w' g (h:Row w' g 33 (reqV r))=>req_cells (r:=r) hr.src h)
 have hmf:∀(fn:Fn) (first cap:Array Value) (w:World),(Instr.makeFunc fn first cap).run Tryz.prog w=.ok (.func fn first cap) w:=fun _ _ _ _=>rfl
 obtain⟨X,hX⟩:∃X,X=prdV p A c:=⟨_,rfl⟩
 obtain⟨R,hR⟩:∃R,R=reqV r:=⟨_,rfl⟩
 obtain⟨w1,hw1⟩:∃w1,w1=((w.alloc (.cells X.toArray 31)).alloc (.cells R.toArray 33)).alloc (.cells #[.bool false] 4):=⟨_,rfl⟩
 obtain⟨r1,q1,x1,hb1⟩:=three_boxes hw1.symm
 have HW:=Lib.hid hw1
 have a1:=hp.later (Nat.le_refl _) hb1
 have hE1:=hE.next hb1
 rw[←hX] at hsz PC ⊢
 rw[←hR] at RC ⊢
 have HX:=Lib.hid hX
 have tokL:True:=trivial
 clear hX hR hw1 hE
 have hk:=Lib.hid (fun w' a e=>pkind_any p A c w' a e hx)
 rw[←HX.out] at hk
 rw[hkd] at hk
 have HV:=Lib.hid (show holdsL p r t=decide (t < p.time) by unfold holdsL;rw[if_neg hx,if_pos hkd])
 clear hx hkd
 generalize holdsL p r t=V at *
 go_enter_defers Tryz.func12,Tryz.ntmps12
 go_wp2_with (first
  | (have _t:=tokL;rw[←HW.out];with_reducible refine wpList_load_mid rfl 31 (.tmp 3) rfl w.heap.size 0 rfl X _ (row_range r1) Tryz.underlying31 rfl hsz.out ?_;clear tokL)
  | (go_at_call 26;refine (hk.out _ a1 hE1).mono ?_;rintro e w2 ⟨rfl,hq⟩;have r1:=r1.later hq r1.lt;have q1:=q1.later hq q1.lt;have x1:=x1.later hq x1.lt;have a1:=a1.later (Nat.le_refl _) hq;have hE1:=hE1.next hq;have hb1:=hb1.trans (hq.mono hb1.size);clear hq;obtain⟨k0,k1,k2,k3,k4,k22⟩:=PC.out _ _ r1;obtain⟨j0,j1,j2,j19⟩:=RC.out _ _ q1;have c6:=x1.cell 0;have c6:_=some (Value.bool false):=c6;have z6:=x1.free 0))
 rw[HV.out]
 exact holds_ret w _ (w.heap.size+1+1) _ _ ((x1.set 0 _).set 0 _) ((hb1.setCell (p:=⟨w.heap.size+1+1,0,none⟩) (by show _≤w.heap.size+1+1;omega) _).setCell (p:=⟨w.heap.size+1+1,0,none⟩) (by show _≤w.heap.size+1+1;omega) _) rfl
set_option maxHeartbeats 4000000 in
theorem pholds_2 (p:Prd) (A:Option Addr) (c:Nat) (r:Req) (t:Nat) (w:World) (hp:PrdAt w p A c) (hr:r.Ok) (_ht:t < 2^64) (hE:EnvQ w) (hx:textP p≠[]) (hkd:p.kind=2) :
  Calls Tryz.prog 12 #[.agg (prdV p A c).toArray,.agg (reqV r).toArray,.int .u64 (t:Int)] w fun e w'=>e=.returned (.bool (holdsL p r t))∧Below w.heap.size w w':=by
 have hsz:=Lib.hid (show (Tryz.prog.info? 31).map (·.size)=some (prdV p A c).length by rw[length_prdV p hp.ok.net.a];exact size_prd)
 have PC:=Lib.hid (fun w' g (h:Row w' g 31 (prdV p A c))=>prd_cells (p:=p) (A:=A) (c:=c) hp.ok.net.a h)
 have RC:=Lib.hid (fun w' g (h:Row w' g 33 (reqV r))=>req_cells (r:=r) hr.src h)
 have hmf:∀(fn:Fn) (first cap:Array Value) (w:World),(Instr.makeFunc fn first cap).run Tryz.prog w=.ok (.func fn first cap) w:=fun _ _ _ _=>rfl
 obtain⟨X,hX⟩:∃X,X=prdV p A c:=⟨_,rfl⟩
 obtain⟨R,hR⟩:∃R,R=reqV r:=⟨_,rfl⟩
 obtain⟨w1,hw1⟩:∃w1,w1=((w.alloc (.cells X.toArray 31)).alloc (.cells R.toArray 33)).alloc (.cells #[.bool false] 4):=⟨_,rfl⟩
 obtain⟨r1,q1,x1,hb1⟩:=three_boxes hw1.symm
 have HW:=Lib.hid hw1
 have a1:=hp.later (Nat.le_refl _) hb1
 have hE1:=hE.next hb1
 rw[←hX] at hsz PC ⊢
 rw[←hR] at RC ⊢
 have HX:=Lib.hid hX
 have tokL:True:=trivial
 clear hX hR hw1 hE
 have hk:=Lib.hid (fun w' a e=>pkind_any p A c w' a e hx)
 rw[←HX.out] at hk
 rw[hkd] at hk
 have HV:=Lib.hid (show holdsL p r t=decide (p.time≤t) by unfold holdsL;rw[if_neg hx,if_neg (by rw[hkd];decide),if_pos hkd])
 clear hx hkd
 generalize holdsL p r t=V at *
 go_enter_defers Tryz.func12,Tryz.ntmps12
 go_wp2_with (first
  | (have _t:=tokL;rw[←HW.out];with_reducible refine wpList_load_mid rfl 31 (.tmp 3) rfl w.heap.size 0 rfl X _ (row_range r1) Tryz.underlying31 rfl hsz.out ?_;clear tokL)
  | (go_at_call 26;refine (hk.out _ a1 hE1).mono ?_;rintro e w2 ⟨rfl,hq⟩;have r1:=r1.later hq r1.lt;have q1:=q1.later hq q1.lt;have x1:=x1.later hq x1.lt;have a1:=a1.later (Nat.le_refl _) hq;have hE1:=hE1.next hq;have hb1:=hb1.trans (hq.mono hb1.size);clear hq;obtain⟨k0,k1,k2,k3,k4,k22⟩:=PC.out _ _ r1;obtain⟨j0,j1,j2,j19⟩:=RC.out _ _ q1;have c6:=x1.cell 0;have c6:_=some (Value.bool false):=c6;have z6:=x1.free 0))
 rw[HV.out]
 exact holds_ret w _ (w.heap.size+1+1) _ _ ((x1.set 0 _).set 0 _) ((hb1.setCell (p:=⟨w.heap.size+1+1,0,none⟩) (by show _≤w.heap.size+1+1;omega) _).setCell (p:=⟨w.heap.size+1+1,0,none⟩) (by show _≤w.heap.size+1+1;omega) _) rfl
set_option maxHeartbeats 4000000 in
theorem pholds_3 (p:Prd) (A:Option Addr) (c:Nat) (r:Req) (t:Nat) (w:World) (hp:PrdAt w p A c) (hr:r.Ok) (_ht:t < 2^64) (hE:EnvQ w) (hx:textP p≠[]) (hkd:p.kind=3) :
  Calls Tryz.prog 12 #[.agg (prdV p A c).toArray,.agg (reqV r).toArray,.int .u64 (t:Int)] w fun e w'=>e=.returned (.bool (holdsL p r t))∧Below w.heap.size w w':=by
 have hsz:=Lib.hid (show (Tryz.prog.info? 31).map (·.size)=some (prdV p A c).length by rw[length_prdV p hp.ok.net.a];exact size_prd)
 have PC:=Lib.hid (fun w' g (h:Row w' g 31 (prdV p A c))=>prd_cells (p:=p) (A:=A) (c:=c) hp.ok.net.a h)
 have RC:=Lib.hid (fun w' g (h:Row w' g 33 (reqV r))=>req_cells (r:=r) hr.src h)
 have hmf:∀(fn:Fn) (first cap:Array Value) (w:World),(Instr.makeFunc fn first cap).run Tryz.prog w=.ok (.func fn first cap) w:=fun _ _ _ _=>rfl
 obtain⟨X,hX⟩:∃X,X=prdV p A c:=⟨_,rfl⟩
 obtain⟨R,hR⟩:∃R,R=reqV r:=⟨_,rfl⟩
 obtain⟨w1,hw1⟩:∃w1,w1=((w.alloc (.cells X.toArray 31)).alloc (.cells R.toArray 33)).alloc (.cells #[.bool false] 4):=⟨_,rfl⟩
 obtain⟨r1,q1,x1,hb1⟩:=three_boxes hw1.symm
 have HW:=Lib.hid hw1
 have a1:=hp.later (Nat.le_refl _) hb1
 have hE1:=hE.next hb1
 rw[←hX] at hsz PC ⊢
 rw[←hR] at RC ⊢
 have HX:=Lib.hid hX
 have tokL:True:=trivial
 clear hX hR hw1 hE
 have hk:=Lib.hid (fun w' a e=>pkind_any p A c w' a e hx)
 rw[←HX.out] at hk
 rw[hkd] at hk
 have HV:=Lib.hid (show holdsL p r t=decide (r.op∈p.names) by unfold holdsL;rw[if_neg hx,if_neg (by rw[hkd];decide),if_neg (by rw[hkd];decide),if_pos hkd])
 have hcn:=Lib.hid (fun w' (h:PrdAt w' p A c)=>holds_contains p.names (by have:=sumS_len p.names;have:=hp.sum;omega) r.op A c w' h.names)
 generalize decide (r.op∈p.names)=V1 at *
 clear hx hkd
 generalize holdsL p r t=V at *
 go_enter_defers Tryz.func12,Tryz.ntmps12
 go_wp2_with (first
  | (have _t:=tokL;rw[←HW.out];with_reducible refine wpList_load_mid rfl 31 (.tmp 3) rfl w.heap.size 0 rfl X _ (row_range r1) Tryz.underlying31 rfl hsz.out ?_;clear tokL)
  | (go_at_call 26;refine (hk.out _ a1 hE1).mono ?_;rintro e w2 ⟨rfl,hq⟩;have r1:=r1.later hq r1.lt;have q1:=q1.later hq q1.lt;have x1:=x1.later hq x1.lt;have a1:=a1.later (Nat.le_refl _) hq;have hE1:=hE1.next hq;have hb1:=hb1.trans (hq.mono hb1.size);clear hq;obtain⟨k0,k1,k2,k3,k4,k22⟩:=PC.out _ _ r1;obtain⟨j0,j1,j2,j19⟩:=RC.out _ _ q1;have c6:=x1.cell 0;have c6:_=some (Value.bool false):=c6;have z6:=x1.free 0)
  | (go_at_call 27;refine (hcn.out _ a1).mono ?_;rintro e w3 ⟨rfl,rfl⟩))
 rw[HV.out]
 exact holds_ret w _ (w.heap.size+1+1) _ _ ((x1.set 0 _).set 0 _) ((hb1.setCell (p:=⟨w.heap.size+1+1,0,none⟩) (by show _≤w.heap.size+1+1;omega) _).setCell (p:=⟨w.heap.size+1+1,0,none⟩) (by show _≤w.heap.size+1+1;omega) _) rfl
set_option maxHeartbeats 4000000 in
theorem pholds_4 (p:Prd) (A:Option Addr) (c:Nat) (r:Req) (t:Nat) (w:World) (hp:PrdAt w p A c) (hr:r.Ok) (_ht:t < 2^64) (hE:EnvQ w) (hx:textP p≠[]) (hkd:p.kind=4) :
  Calls Tryz.prog 12 #[.agg (prdV p A c).toArray,.agg (reqV r).toArray,.int .u64 (t:Int)] w fun e w'=>e=.returned (.bool (holdsL p r t))∧Below w.heap.size w w':=by
 have hsz:=Lib.hid (show (Tryz.prog.info? 31).map (·.size)=some (prdV p A c).length by rw[length_prdV p hp.ok.net.a];exact size_prd)
 have PC:=Lib.hid (fun w' g (h:Row w' g 31 (prdV p A c))=>prd_cells (p:=p) (A:=A) (c:=c) hp.ok.net.a h)
 have RC:=Lib.hid (fun w' g (h:Row w' g 33 (reqV r))=>req_cells (r:=r) hr.src h)
 have hmf:∀(fn:Fn) (first cap:Array Value) (w:World),(Instr.makeFunc fn first cap).run Tryz.prog w=.ok (.func fn first cap) w:=fun _ _ _ _=>rfl
 obtain⟨X,hX⟩:∃X,X=prdV p A c:=⟨_,rfl⟩
 obtain⟨R,hR⟩:∃R,R=reqV r:=⟨_,rfl⟩
 obtain⟨w1,hw1⟩:∃w1,w1=((w.alloc (.cells X.toArray 31)).alloc (.cells R.toArray 33)).alloc (.cells #[.bool false] 4):=⟨_,rfl⟩
 obtain⟨r1,q1,x1,hb1⟩:=three_boxes hw1.symm
 have HW:=Lib.hid hw1
 have a1:=hp.later (Nat.le_refl _) hb1
 have hE1:=hE.next hb1
 rw[←hX] at hsz PC ⊢
 rw[←hR] at RC ⊢
 have HX:=Lib.hid hX
 have tokL:True:=trivial
 clear hX hR hw1 hE
 have hk:=Lib.hid (fun w' a e=>pkind_any p A c w' a e hx)
 rw[←HX.out] at hk
 rw[hkd] at hk
 have HV:=Lib.hid (show holdsL p r t=pathHolds p.path (normL r.path) by unfold holdsL;rw[if_neg hx,if_neg (by rw[hkd];decide),if_neg (by rw[hkd];decide),if_neg (by rw[hkd];decide),if_pos hkd])
 have hpl:=right_len _ (path_right p hx hkd)
 have hno:=fun w'=>pnormal_any r.path (by have:=hr.path;omega) w'
 have hun:=fun w' e=>punder_any p.path ((normL r.path).getD []) (by omega) (by cases hn:normL r.path with | none=>exact Nat.zero_le _ | some x=>have:=norm_len _ _ hn;show x.length≤1000;omega) w' e
 unfold pathHolds at HV
 generalize (normL r.path).isSome=ok at *
 generalize underL p.path ((normL r.path).getD [])=un at *
 generalize bstr ((normL r.path).getD [])=S at *
 have hno:=Lib.hid hno
 have hun:=Lib.hid hun
 cases ok
 ·skip
  clear hx hkd
  generalize holdsL p r t=V at *
  go_enter_defers Tryz.func12,Tryz.ntmps12
  go_wp2_with (first
   | (have _t:=tokL;rw[←HW.out];with_reducible refine wpList_load_mid rfl 31 (.tmp 3) rfl w.heap.size 0 rfl X _ (row_range r1) Tryz.underlying31 rfl hsz.out ?_;clear tokL)
   | (go_at_call 26;refine (hk.out _ a1 hE1).mono ?_;rintro e w2 ⟨rfl,hq⟩;have r1:=r1.later hq r1.lt;have q1:=q1.later hq q1.lt;have x1:=x1.later hq x1.lt;have a1:=a1.later (Nat.le_refl _) hq;have hE1:=hE1.next hq;have hb1:=hb1.trans (hq.mono hb1.size);clear hq;obtain⟨k0,k1,k2,k3,k4,k22⟩:=PC.out _ _ r1;obtain⟨j0,j1,j2,j19⟩:=RC.out _ _ q1;have c6:=x1.cell 0;have c6:_=some (Value.bool false):=c6;have z6:=x1.free 0)
   | (go_at_call 28;refine (hno.out _).mono ?_;rintro e w3 ⟨rfl,hq⟩;clear k0 k1 k2 k3 k4 k22 j0 j1 j2 j19 c6 z6;have r1:=r1.later hq r1.lt;have q1:=q1.later hq q1.lt;have x1:=x1.later hq x1.lt;have a1:=a1.later (Nat.le_refl _) hq;have hE1:=hE1.next hq;have hb1:=hb1.trans (hq.mono hb1.size);clear hq;obtain⟨k0,k1,k2,k3,k4,k22⟩:=PC.out _ _ r1;obtain⟨j0,j1,j2,j19⟩:=RC.out _ _ q1;have c6:=x1.cell 0;have c6:_=some (Value.bool false):=c6;have z6:=x1.free 0)
   | (go_at_call 29;refine (hun.out _ hE1.p).mono ?_;rintro e w4 ⟨rfl,hq⟩;clear k0 k1 k2 k3 k4 k22 j0 j1 j2 j19 c6 z6;have r1:=r1.later hq r1.lt;have q1:=q1.later hq q1.lt;have x1:=x1.later hq x1.lt;have a1:=a1.later (Nat.le_refl _) hq;have hE1:=hE1.next hq;have hb1:=hb1.trans (hq.mono hb1.size);clear hq;obtain⟨k0,k1,k2,k3,k4,k22⟩:=PC.out _ _ r1;obtain⟨j0,j1,j2,j19⟩:=RC.out _ _ q1;have c6:=x1.cell 0;have c6:_=some (Value.bool false):=c6;have z6:=x1.free 0))
  rw[HV.out]
  exact holds_ret w _ (w.heap.size+1+1) _ _ ((x1.set 0 _).set 0 _) ((hb1.setCell (p:=⟨w.heap.size+1+1,0,none⟩) (by show _≤w.heap.size+1+1;omega) _).setCell (p:=⟨w.heap.size+1+1,0,none⟩) (by show _≤w.heap.size+1+1;omega) _) rfl
 ·skip
  clear hx hkd
  generalize holdsL p r t=V at *
  go_enter_defers Tryz.func12,Tryz.ntmps12
  go_wp2_with (first
   | (have _t:=tokL;rw[←HW.out];with_reducible refine wpList_load_mid rfl 31 (.tmp 3) rfl w.heap.size 0 rfl X _ (row_range r1) Tryz.underlying31 rfl hsz.out ?_;clear tokL)
   | (go_at_call 26;refine (hk.out _ a1 hE1).mono ?_;rintro e w2 ⟨rfl,hq⟩;have r1:=r1.later hq r1.lt;have q1:=q1.later hq q1.lt;have x1:=x1.later hq x1.lt;have a1:=a1.later (Nat.le_refl _) hq;have hE1:=hE1.next hq;have hb1:=hb1.trans (hq.mono hb1.size);clear hq;obtain⟨k0,k1,k2,k3,k4,k22⟩:=PC.out _ _ r1;obtain⟨j0,j1,j2,j19⟩:=RC.out _ _ q1;have c6:=x1.cell 0;have c6:_=some (Value.bool false):=c6;have z6:=x1.free 0)
   | (go_at_call 28;refine (hno.out _).mono ?_;rintro e w3 ⟨rfl,hq⟩;clear k0 k1 k2 k3 k4 k22 j0 j1 j2 j19 c6 z6;have r1:=r1.later hq r1.lt;have q1:=q1.later hq q1.lt;have x1:=x1.later hq x1.lt;have a1:=a1.later (Nat.le_refl _) hq;have hE1:=hE1.next hq;have hb1:=hb1.trans (hq.mono hb1.size);clear hq;obtain⟨k0,k1,k2,k3,k4,k22⟩:=PC.out _ _ r1;obtain⟨j0,j1,j2,j19⟩:=RC.out _ _ q1;have c6:=x1.cell 0;have c6:_=some (Value.bool false):=c6;have z6:=x1.free 0)
   | (go_at_call 29;refine (hun.out _ hE1.p).mono ?_;rintro e w4 ⟨rfl,hq⟩;clear k0 k1 k2 k3 k4 k22 j0 j1 j2 j19 c6 z6;have r1:=r1.later hq r1.lt;have q1:=q1.later hq q1.lt;have x1:=x1.later hq x1.lt;have a1:=a1.later (Nat.le_refl _) hq;have hE1:=hE1.next hq;have hb1:=hb1.trans (hq.mono hb1.size);clear hq;obtain⟨k0,k1,k2,k3,k4,k22⟩:=PC.out _ _ r1;obtain⟨j0,j1,j2,j19⟩:=RC.out _ _ q1;have c6:=x1.cell 0;have c6:_=some (Value.bool false):=c6;have z6:=x1.free 0))
  rw[HV.out]
  exact holds_ret w _ (w.heap.size+1+1) _ _ ((x1.set 0 _).set 0 _) ((hb1.setCell (p:=⟨w.heap.size+1+1,0,none⟩) (by show _≤w.heap.size+1+1;omega) _).setCell (p:=⟨w.heap.size+1+1,0,none⟩) (by show _≤w.heap.size+1+1;omega) _) rfl
set_option maxHeartbeats 4000000 in
theorem pholds_5 (p:Prd) (A:Option Addr) (c:Nat) (r:Req) (t:Nat) (w:World) (hp:PrdAt w p A c) (hr:r.Ok) (_ht:t < 2^64) (hE:EnvQ w) (hx:textP p≠[]) (hkd:p.kind=5) :
  Calls Tryz.prog 12 #[.agg (prdV p A c).toArray,.agg (reqV r).toArray,.int .u64 (t:Int)] w fun e w'=>e=.returned (.bool (holdsL p r t))∧Below w.heap.size w w':=by
 have hsz:=Lib.hid (show (Tryz.prog.info? 31).map (·.size)=some (prdV p A c).length by rw[length_prdV p hp.ok.net.a];exact size_prd)
 have PC:=Lib.hid (fun w' g (h:Row w' g 31 (prdV p A c))=>prd_cells (p:=p) (A:=A) (c:=c) hp.ok.net.a h)
 have RC:=Lib.hid (fun w' g (h:Row w' g 33 (reqV r))=>req_cells (r:=r) hr.src h)
 have hmf:∀(fn:Fn) (first cap:Array Value) (w:World),(Instr.makeFunc fn first cap).run Tryz.prog w=.ok (.func fn first cap) w:=fun _ _ _ _=>rfl
 obtain⟨X,hX⟩:∃X,X=prdV p A c:=⟨_,rfl⟩
 obtain⟨R,hR⟩:∃R,R=reqV r:=⟨_,rfl⟩
 obtain⟨w1,hw1⟩:∃w1,w1=((w.alloc (.cells X.toArray 31)).alloc (.cells R.toArray 33)).alloc (.cells #[.bool false] 4):=⟨_,rfl⟩
 obtain⟨r1,q1,x1,hb1⟩:=three_boxes hw1.symm
 have HW:=Lib.hid hw1
 have a1:=hp.later (Nat.le_refl _) hb1
 have hE1:=hE.next hb1
 rw[←hX] at hsz PC ⊢
 rw[←hR] at RC ⊢
 have HX:=Lib.hid hX
 have tokL:True:=trivial
 clear hX hR hw1 hE
 have hk:=Lib.hid (fun w' a e=>pkind_any p A c w' a e hx)
 rw[←HX.out] at hk
 rw[hkd] at hk
 have HV:=Lib.hid (show holdsL p r t=hasR p.net r.src by unfold holdsL;rw[if_neg hx,if_neg (by rw[hkd];decide),if_neg (by rw[hkd];decide),if_neg (by rw[hkd];decide),if_neg (by rw[hkd];decide),if_pos hkd])
 have hha:=Lib.hid (fun w'=>ahas_any p.net hp.ok.net r.src hr.src w')
 have hsR:=Lib.hid (show (Tryz.prog.info? 28).map (·.size)=some (rngV p.net).length by rw[length_rngV' _ hp.ok.net.a];exact size_rng)
 have hsA:=Lib.hid (show (Tryz.prog.info? 26).map (·.size)=some (adrV r.src).length by rw[length_adrV hr.src];exact size_adr)
 generalize hasR p.net r.src=V1 at *
 clear hx hkd
 generalize holdsL p r t=V at *
 go_enter_defers Tryz.func12,Tryz.ntmps12
 go_wp2_with (first
  | (have _t:=tokL;rw[←HW.out];with_reducible refine wpList_load_mid rfl 31 (.tmp 3) rfl w.heap.size 0 rfl X _ (row_range r1) Tryz.underlying31 rfl hsz.out ?_;clear tokL)
  | (go_at_call 26;refine (hk.out _ a1 hE1).mono ?_;rintro e w2 ⟨rfl,hq⟩;have r1:=r1.later hq r1.lt;have q1:=q1.later hq q1.lt;have x1:=x1.later hq x1.lt;have a1:=a1.later (Nat.le_refl _) hq;have hE1:=hE1.next hq;have hb1:=hb1.trans (hq.mono hb1.size);clear hq;obtain⟨k0,k1,k2,k3,k4,k22⟩:=PC.out _ _ r1;obtain⟨j0,j1,j2,j19⟩:=RC.out _ _ q1;have c6:=x1.cell 0;have c6:_=some (Value.bool false):=c6;have z6:=x1.free 0)
  | (with_reducible refine wpList_load_mid rfl 28 (.tmp 48) rfl w.heap.size 4 rfl (rngV p.net) _ k4 Tryz.underlying28 rfl hsR.out ?_)
  | (with_reducible refine wpList_load_mid rfl 26 (.tmp 50) rfl (w.heap.size+1) 2 rfl (adrV r.src) _ j2 Tryz.underlying26 rfl hsA.out ?_)
  | (go_at_call 30;refine (hha.out _).mono ?_;rintro e w4 ⟨rfl,hq⟩;clear k0 k1 k2 k3 k4 k22 j0 j1 j2 j19 c6 z6;have r1:=r1.later hq r1.lt;have q1:=q1.later hq q1.lt;have x1:=x1.later hq x1.lt;have a1:=a1.later (Nat.le_refl _) hq;have hE1:=hE1.next hq;have hb1:=hb1.trans (hq.mono hb1.size);clear hq;obtain⟨k0,k1,k2,k3,k4,k22⟩:=PC.out _ _ r1;obtain⟨j0,j1,j2,j19⟩:=RC.out _ _ q1;have c6:=x1.cell 0;have c6:_=some (Value.bool false):=c6;have z6:=x1.free 0))
 rw[HV.out]
 exact holds_ret w _ (w.heap.size+1+1) _ _ ((x1.set 0 _).set 0 _) ((hb1.setCell (p:=⟨w.heap.size+1+1,0,none⟩) (by show _≤w.heap.size+1+1;omega) _).setCell (p:=⟨w.heap.size+1+1,0,none⟩) (by show _≤w.heap.size+1+1;omega) _) rfl
set_option maxHeartbeats 4000000 in
theorem pholds_6 (p:Prd) (A:Option Addr) (c:Nat) (r:Req) (t:Nat) (w:World) (hp:PrdAt w p A c) (hr:r.Ok) (_ht:t < 2^64) (hE:EnvQ w) (hx:textP p≠[]) (hkd:p.kind=6) :
  Calls Tryz.prog 12 #[.agg (prdV p A c).toArray,.agg (reqV r).toArray,.int .u64 (t:Int)] w fun e w'=>e=.returned (.bool (holdsL p r t))∧Below w.heap.size w w':=by
 have hsz:=Lib.hid (show (Tryz.prog.info? 31).map (·.size)=some (prdV p A c).length by rw[length_prdV p hp.ok.net.a];exact size_prd)
 have PC:=Lib.hid (fun w' g (h:Row w' g 31 (prdV p A c))=>prd_cells (p:=p) (A:=A) (c:=c) hp.ok.net.a h)
 have RC:=Lib.hid (fun w' g (h:Row w' g 33 (reqV r))=>req_cells (r:=r) hr.src h)
 have hmf:∀(fn:Fn) (first cap:Array Value) (w:World),(Instr.makeFunc fn first cap).run Tryz.prog w=.ok (.func fn first cap) w:=fun _ _ _ _=>rfl
 obtain⟨X,hX⟩:∃X,X=prdV p A c:=⟨_,rfl⟩
 obtain⟨R,hR⟩:∃R,R=reqV r:=⟨_,rfl⟩
 obtain⟨w1,hw1⟩:∃w1,w1=((w.alloc (.cells X.toArray 31)).alloc (.cells R.toArray 33)).alloc (.cells #[.bool false] 4):=⟨_,rfl⟩
 obtain⟨r1,q1,x1,hb1⟩:=three_boxes hw1.symm
 have HW:=Lib.hid hw1
 have a1:=hp.later (Nat.le_refl _) hb1
 have hE1:=hE.next hb1
 rw[←hX] at hsz PC ⊢
 rw[←hR] at RC ⊢
 have HX:=Lib.hid hX
 have tokL:True:=trivial
 clear hX hR hw1 hE
 have hk:=Lib.hid (fun w' a e=>pkind_any p A c w' a e hx)
 rw[←HX.out] at hk
 rw[hkd] at hk
 have HV:=Lib.hid (show holdsL p r t=atMostC r.cost p.cost by unfold holdsL;rw[if_neg hx,if_neg (by rw[hkd];decide),if_neg (by rw[hkd];decide),if_neg (by rw[hkd];decide),if_neg (by rw[hkd];decide),if_neg (by rw[hkd];decide)])
 have hat:=Lib.hid (fun w' e=>catmost_any r.cost p.cost hr.cost hp.ok.cost w' e)
 generalize atMostC r.cost p.cost=V1 at *
 clear hx hkd
 generalize holdsL p r t=V at *
 go_enter_defers Tryz.func12,Tryz.ntmps12
 go_wp2_with (first
  | (have _t:=tokL;rw[←HW.out];with_reducible refine wpList_load_mid rfl 31 (.tmp 3) rfl w.heap.size 0 rfl X _ (row_range r1) Tryz.underlying31 rfl hsz.out ?_;clear tokL)
  | (go_at_call 26;refine (hk.out _ a1 hE1).mono ?_;rintro e w2 ⟨rfl,hq⟩;have r1:=r1.later hq r1.lt;have q1:=q1.later hq q1.lt;have x1:=x1.later hq x1.lt;have a1:=a1.later (Nat.le_refl _) hq;have hE1:=hE1.next hq;have hb1:=hb1.trans (hq.mono hb1.size);clear hq;obtain⟨k0,k1,k2,k3,k4,k22⟩:=PC.out _ _ r1;obtain⟨j0,j1,j2,j19⟩:=RC.out _ _ q1;have c6:=x1.cell 0;have c6:_=some (Value.bool false):=c6;have z6:=x1.free 0)
  | (go_at_call 31;refine (hat.out _ hE1.c).mono ?_;rintro e w4 ⟨rfl,hq⟩;clear k0 k1 k2 k3 k4 k22 j0 j1 j2 j19 c6 z6;have r1:=r1.later hq r1.lt;have q1:=q1.later hq q1.lt;have x1:=x1.later hq x1.lt;have a1:=a1.later (Nat.le_refl _) hq;have hE1:=hE1.next hq;have hb1:=hb1.trans (hq.mono hb1.size);clear hq;obtain⟨k0,k1,k2,k3,k4,k22⟩:=PC.out _ _ r1;obtain⟨j0,j1,j2,j19⟩:=RC.out _ _ q1;have c6:=x1.cell 0;have c6:_=some (Value.bool false):=c6;have z6:=x1.free 0))
 rw[HV.out]
 exact holds_ret w _ (w.heap.size+1+1) _ _ ((x1.set 0 _).set 0 _) ((hb1.setCell (p:=⟨w.heap.size+1+1,0,none⟩) (by show _≤w.heap.size+1+1;omega) _).setCell (p:=⟨w.heap.size+1+1,0,none⟩) (by show _≤w.heap.size+1+1;omega) _) rfl
theorem pholds18_any (p:Prd) (A:Option Addr) (c:Nat) (r:Req) (t:Nat) (w:World) (hp:PrdAt w p A c) (hr:r.Ok) (ht:t < 2^64) (hE:EnvQ w) :
  Calls Tryz.prog 12 #[.agg (prdV p A c).toArray,.agg (reqV r).toArray,.int .u64 (t:Int)] w fun e w'=>e=.returned (.bool (holdsL p r t))∧Below w.heap.size w w':=by
 by_cases hx:textP p=[]
 ·exact pholds_no p A c r t w hp hr ht hE hx
 rcases wordsP_ways p (textP_ne p hx).1 with ⟨h,-⟩ | ⟨h,-⟩ | ⟨h,-⟩ | ⟨h,-⟩ | ⟨h,-⟩ | ⟨h,-⟩
 ·exact pholds_1 p A c r t w hp hr ht hE hx h
 ·exact pholds_2 p A c r t w hp hr ht hE hx h
 ·exact pholds_3 p A c r t w hp hr ht hE hx h
 ·exact pholds_4 p A c r t w hp hr ht hE hx h
 ·exact pholds_5 p A c r t w hp hr ht hE hx h
 ·exact pholds_6 p A c r t w hp hr ht hE hx h
end Go.Proofs.YtjieebmcbpdeiaaGreatDoor
