import Derived.Test.YtjieebmcbpdeiaaGreatDoorRcae
import Derived.Test.YtjieebmcbpdeiaaGreatDoorRcac
import Derived.Test.YtjieebmcbpdeiaaGreatDoorRcad
import Derived.Lib.AppendIntMem
import Derived.Test.YtjieebmcbpdeiaaGreatDoorRcag
import Derived.Test.YtjieebmcbpdeiaaGreatDoorRcaa
import Derived.Laws.FloatArith
import Derived.Laws.BitsAllLaws
import Derived.Test.YtjieebmcbpdeiaaGreatDoorRcah
namespace Go.Proofs.YtjieebmcbpdeiaaGreatDoor
set_option maxRecDepth 100000
open Go Go.RowKit
theorem hasR_eq (r:Rng) (a:Adr) (h:ofOk a r.n=true):hasR r a=((a.v6==r.a.v6&&decide (topL a.b r.n.toNat=r.a.b))&&r.n==r.n):=by
 unfold hasR
 rw[h,Bool.true_and,beq_self_eq_true,Bool.and_true]
set_option maxHeartbeats 4000000 in
theorem ahas_any (r:Rng) (h:r.Ok) (a:Adr) (ha:a.Ok) (w:World) :
  Calls Tryz.prog 30 #[.agg (rngV r).toArray,.agg (adrV a).toArray] w fun e w'=>e=.returned (.bool (hasR r a))∧Below w.heap.size w w':=by
 have hof:=Lib.hid (fun w'=>aof_any a ha r.n w')
 have hXo:=ofR_ok a r.n h.lo h.hi
 obtain⟨R,hR⟩:∃R,R=rngV r:=⟨_,rfl⟩
 obtain⟨X,hX⟩:∃X,X=rngV (ofR a r.n):=⟨_,rfl⟩
 obtain⟨V2,hV2⟩:∃V2,V2=adrV a:=⟨_,rfl⟩
 have HR:=Lib.hid (show R=adrV r.a++[Value.int .i64 r.n] by rw[hR];rfl)
 have HRl:=Lib.hid (length_adrV h.a)
 have hzA:=Lib.hid (show (Tryz.prog.info? 26).map (·.size)=some V2.length by rw[hV2,length_adrV ha];exact size_adr)
 have hzR:=Lib.hid (show (Tryz.prog.info? 28).map (·.size)=some R.length by rw[hR,length_rngV' r h.a];exact size_rng)
 have hzX:=Lib.hid (show (Tryz.prog.info? 28).map (·.size)=some X.length by rw[hX,length_rngV' _ hXo.a];exact size_rng)
 have hzX2:=Lib.hid (show (Tryz.prog.info? 28).map (·.size)=some X.toArray.size by rw[List.size_toArray];exact hzX.out)
 have h18:=Lib.hid (show 18=X.toArray.size by rw[hX,List.size_toArray,length_rngV' _ hXo.a])
 have hX1:=Lib.hid (show X.toArray.all (·.oneCell')=true by rw[hX];exact rngV_one' _)
 obtain⟨w1,hw1⟩:∃w1,w1=(w.alloc (.cells R.toArray 28)).alloc (.cells V2.toArray 26):=⟨_,rfl⟩
 obtain⟨r1,q1,hb1,-⟩:=two_rows hw1.symm
 have HW:=Lib.hid hw1
 have hcn:=rng_n' HRl.out HR.out r1
 have hEq:ofOk a r.n=true→∀w,(Op.equalIn 10000 28 (.agg X.toArray) (.agg R.toArray)).run Tryz.prog w=.ok (hasR r a) w:=by
  intro ho w'
  rw[hX,hR,eq_rng _ _ hXo.a h.a,hasR_eq r a ho,ofR_good a r.n ho];rfl
 rw[←hX,←hV2] at hof
 rw[←hR,←hV2]
 clear hR hX hV2 hw1
 have tok1:True:=trivial
 cases ho:ofOk a r.n with
 | false =>
  have HC:=Lib.hid (show hasR r a=false by unfold hasR;rw[ho];rfl)
  rw[ho] at hof
  generalize r.n=n at *
  clear hEq ho
  go_enter Tryz.func30,Tryz.ntmps30
  go_wp2_with (first
   | (have _t:=tok1;rw[←HW.out];clear tok1;with_reducible refine wpList_load_mid rfl 26 (.tmp 3) rfl (w.heap.size+1) 0 rfl V2 _ (row_range q1) Tryz.underlying26 rfl hzA.out ?_)
   | (go_at_call 41;refine (hof.out _).mono ?_;rintro e w2 ⟨rfl,hb2⟩;have hb2:=hb1.trans (hb2.mono hb1.size))
   | (have _t:=hb2;refine wpList_store_row rfl 28 (.tmp 5) (.tmp 12) rfl w2.heap.size X.toArray rfl rfl 28 _ (heap_alloc_new w2 _) hzX2.out h18.out hX1.out ?_;refine Hid.out ?_))
  refine Lib.hid ?_
  generalize hw4:World.setRow _ _ _=w4
  obtain⟨-,hb4'⟩:=row_new_set (xs:=X) hw4
  have hb4:=hb2.trans (hb4'.mono hb2.size)
  clear hw4 hb4'
  go_wp2_with fail
  go_ret
  exact⟨by rw[HC.out];rfl,hb4⟩
 | true =>
  have hEq:=hEq ho
  rw[ho] at hof
  generalize r.n=n at *
  generalize hasR r a=D at *
  clear ho
  go_enter Tryz.func30,Tryz.ntmps30
  go_wp2_with (first
   | (have _t:=tok1;rw[←HW.out];clear tok1;with_reducible refine wpList_load_mid rfl 26 (.tmp 3) rfl (w.heap.size+1) 0 rfl V2 _ (row_range q1) Tryz.underlying26 rfl hzA.out ?_)
   | (go_at_call 41;refine (hof.out _).mono ?_;rintro e w2 ⟨rfl,hb2⟩;have r2:=r1.later hb2 r1.lt;have hb2:=hb1.trans (hb2.mono hb1.size))
   | (have _t:=hb2;refine wpList_store_row rfl 28 (.tmp 5) (.tmp 12) rfl w2.heap.size X.toArray rfl rfl 28 _ (heap_alloc_new w2 _) hzX2.out h18.out hX1.out ?_;refine Hid.out ?_))
  refine Lib.hid ?_
  generalize hw4:World.setRow _ _ _=w4
  obtain⟨x4,hb4'⟩:=row_new_set (xs:=X) hw4
  have r4:=r2.later hb4' r2.lt
  have hb4:=hb2.trans (hb4'.mono hb2.size)
  clear hw4 hb4' r1 r2 q1 hcn
  generalize w2.heap.size=g at *
  have tok2:True:=trivial
  go_wp2_with (first
   | (have _t:=tok2;refine wpList_step fun K hK=>?_;refine step_load_mid (some 16) rfl (by rfl) 28 (.tmp 5) rfl g 0 rfl X _ (row_range x4) Tryz.underlying28 rfl hzX.out ?_;refine hK _ _ ?_;clear hK tok2)
   | (refine wpList_step fun K hK=>?_;refine step_load_mid (some 17) rfl (by rfl) 28 (.tmp 2) rfl w.heap.size 0 rfl R _ (row_range r4) Tryz.underlying28 rfl hzR.out ?_;refine hK _ _ ?_;clear hK))
  go_ret
  exact⟨rfl,hb4⟩
set_option maxHeartbeats 2000000 in
theorem acheckR_any (r:Rng) (h:r.Ok) (w:World) :
  Calls Tryz.prog 110 #[.agg (rngV r).toArray] w fun e w'=>e=.returned (.bool (checkR r))∧Below w.heap.size w w':=by
 have hh:=Lib.hid (fun w'=>show Calls Tryz.prog 30 #[.agg (rngV r).toArray,.agg (adrV r.a).toArray] w' fun e w''=>e=.returned (.bool (checkR r))∧Below w'.heap.size w' w'' from ahas_any r h r.a h.a w')
 obtain⟨R,hR⟩:∃R,R=rngV r:=⟨_,rfl⟩
 obtain⟨V,hV⟩:∃V,V=adrV r.a:=⟨_,rfl⟩
 have HR:=Lib.hid (show R=V++[Value.int .i64 r.n] by rw[hR,hV];rfl)
 have hzV:=Lib.hid (show (Tryz.prog.info? 26).map (·.size)=some V.length by rw[hV,length_adrV h.a];exact size_adr)
 have hzR:=Lib.hid (show (Tryz.prog.info? 28).map (·.size)=some R.length by rw[hR,length_rngV' r h.a];exact size_rng)
 obtain⟨w1,hw1⟩:∃w1,w1=w.alloc (.cells R.toArray 28):=⟨_,rfl⟩
 have r1:Row w1 w.heap.size 28 R:=by rw[hw1];exact Row.new w _ _
 have hb1:Below w.heap.size w w1:=by rw[hw1];exact (Below.refl _ w).alloc (Nat.le_refl _) _
 have HW:=Lib.hid hw1
 rw[←hR,←hV] at hh
 rw[←hR]
 clear hR hV hw1
 generalize checkR r=D at *
 have tok1:True:=trivial
 go_enter Tryz.func110,Tryz.ntmps110
 go_wp2_with (first
  | (have _t:=tok1;rw[←HW.out];clear tok1;with_reducible refine wpList_load_mid rfl 28 (.tmp 1) rfl w.heap.size 0 rfl R _ (row_range r1) Tryz.underlying28 rfl hzR.out ?_)
  | (with_reducible refine wpList_load_mid rfl 26 (.tmp 4) rfl w.heap.size 0 rfl V _ (row_part' HR.out r1) Tryz.underlying26 rfl hzV.out ?_)
  | (go_at_call 30;refine (hh.out _).mono ?_;rintro e w2 ⟨rfl,hb2⟩;have hb2:=hb1.trans (hb2.mono hb1.size)))
 go_ret
 exact⟨rfl,hb2⟩
theorem itoa_num (n:Int) (h:0≤n):Lib.itoa n=numL 10 n.toNat:=by
 unfold Lib.itoa
 rw[if_neg (by omega),decDigits_num]
theorem aitoa_any (n:Int) (h0:0≤n) (h1:n≤9223372036854775807) (w:World) (hE:Env w) :
  Calls Tryz.prog 112 #[.int .i64 n] w fun e w'=>e=.returned (.string (bstr (numL 10 n.toNat)))∧Below w.heap.size w w':=by
 refine (Tryz.strconv_Itoa n (by omega) h1 w hE.pow).mono ?_
 rintro e w' ⟨rfl,k,os,rfl⟩
 exact⟨by rw[itoa_num n h0];rfl,Lib.below_grow _ _ (Nat.le_refl _) k os⟩
def atoiI (l:List UInt8):Int:=match Lib.atoiAll l with
 | .ok v=>v
 | .range=>Lib.atoiSat l
 | _=>0
theorem atoiI_bounds (l:List UInt8):-9223372036854775808≤atoiI l∧atoiI l≤9223372036854775807:=by
 unfold atoiI
 cases h:Lib.atoiAll l with
 | ok v =>
  have:=Lib.atoiAll_bounds h
  exact this
 | range =>
  have:=Lib.atoiSat_bounds l
  exact this
 | _=>show (-9223372036854775808:Int)≤0∧(0:Int)≤9223372036854775807;exact⟨by decide,by decide⟩
theorem bstr_data13 (l:List UInt8):(bstr l).data.toList=l:=rfl
theorem aatoi_any (l:List UInt8) (hl:l.length≤100000) (w:World) (hE:Env w) :
  Calls Tryz.prog 120 #[.string (bstr l)] w fun e w'=>∃ev,e=.returned (.tuple #[.int .i64 (atoiI l),ev])∧Below w.heap.size w w':=by
 obtain⟨-,-,-,⟨vs,hvs,hvs2⟩,⟨vr,hvr,hvr2⟩⟩:=hE
 have hz:=size_bstr l
 cases h:Lib.atoiAll l with
 | ok v =>
  have ev:atoiI l=v:=by unfold atoiI;rw[h]
  rw[ev]
  refine (Tryz.strconv_Atoi_ok (bstr l) (by omega) v (by rw[bstr_data13];exact h) w).mono ?_
  rintro e w' ⟨rfl,hw⟩
  refine⟨_,rfl,?_⟩
  rcases hw with rfl | ⟨t,rfl⟩
  ·exact Below.refl _ _
  ·exact Lib.bytesWorld_below _ _ _
 | range =>
  have ev:atoiI l=Lib.atoiSat l:=by unfold atoiI;rw[h]
  rw[ev]
  refine (Tryz.strconv_Atoi_range (bstr l) (by omega) (by rw[bstr_data13];exact h) vr w hvr hvr2).mono ?_
  rintro e w' ⟨N,rfl,-,-,hb⟩
  exact⟨_,by rw[bstr_data13],hb⟩
 | _ =>
  have ev:atoiI l=0:=by unfold atoiI;rw[h]
  rw[ev]
  refine (Tryz.strconv_Atoi_syntax (bstr l) (by omega) (by rw[bstr_data13];exact h) vs w hvs hvs2).mono ?_
  rintro e w' ⟨N,rfl,-,-,hb⟩
  exact⟨_,rfl,hb⟩
theorem atoi_num:∀n:Nat,n≤128→atoiI (numL 10 n)=(n:Int):=by
 have h:∀n:Fin 129,atoiI (numL 10 n.1)=(n.1:Int):=by decide +kernel
 intro n hn
 exact h ⟨n,by omega⟩
def cutR (s:List UInt8):List UInt8×List UInt8:=((Lib.cut s [47]).1,(Lib.cut s [47]).2.1)
theorem cutR_le (s:List UInt8):(cutR s).1.length≤s.length∧(cutR s).2.length≤s.length:=by
 unfold cutR Lib.cut
 split
 ·simp;omega
 ·simp
theorem cutR_at (t u:List UInt8) (h:(47:UInt8)∉t):cutR (t++47 :: u)=(t,u):=by
 have hocc:Lib.occAt (t++47 :: u) [47] t.length=true:=by
  unfold Lib.occAt
  rw[List.drop_left]
  simp[List.isPrefixOf]
 have hi:Lib.index (t++47 :: u) [47]=(t.length:Int):=by
  rcases Lib.index_spec (t++47 :: u) [47] with ⟨-,h2⟩ | ⟨i,h1,h2,h3,h4⟩
  ·have:=h2 t.length (by simp)
   rw[hocc] at this;cases this
  ·by_cases hlt:i < t.length
   ·exfalso
    unfold Lib.occAt at h3
    rw[List.drop_append_of_le_length (by omega),List.drop_eq_getElem_cons hlt] at h3
    simp only[List.cons_append,List.isPrefixOf,Bool.and_true,beq_iff_eq] at h3
    exact h (by rw[h3];exact List.getElem_mem hlt)
   ·by_cases hgt:t.length < i
    ·have:=h4 t.length hgt
     rw[hocc] at this;cases this
    ·rw[h1];omega
 unfold cutR Lib.cut
 rw[hi,if_pos (by omega)]
 simp
def zaL (s:List UInt8):Adr:=(parseL s).getD zeroA
theorem zaL_ok (s:List UInt8):(zaL s).Ok:=by
 unfold zaL
 cases h:parseL s with
 | none=>exact zeroA_ok
 | some a=>exact ((parseL_iff s a).1 h).1
theorem pars_za (s:List UInt8):∃b,parsV (parseL s)=.tuple #[.agg (adrV (zaL s)).toArray,.bool b]:=by
 unfold zaL
 cases h:parseL s with
 | none=>exact⟨false,rfl⟩
 | some a=>exact⟨true,rfl⟩
def readR (s:List UInt8):Rng:=⟨zaL (cutR s).1,atoiI (cutR s).2⟩
theorem readR_ok (s:List UInt8):(readR s).Ok:=⟨zaL_ok _,(atoiI_bounds _).1,(atoiI_bounds _).2⟩
theorem readR_nil:textR (readR [])≠[]:=by decide +kernel
theorem parse_readR (s:List UInt8):parseR s=if textR (readR s)=s then some (readR s) else none:=by
 by_cases h:textR (readR s)=s
 ·rw[if_pos h]
  refine (parseR_iff s (readR s)).2 ⟨(readR_ok s).a,(textR_ne _ ?_).1,h⟩
  rw[h]
  intro e
  rw[e] at h
  exact readR_nil h
 ·rw[if_neg h]
  cases hp:parseR s with
  | none=>rfl
  | some r =>
   exfalso
   apply h
   obtain⟨ho,hc,ht⟩:=(parseR_iff s r).1 hp
   obtain⟨ca,n0,n1⟩:=checkR_lim r hc
   have e:readR s=r:=by
    unfold readR
    rw[←ht,textR_ok r hc,cutR_at _ _ (textA_47 _)]
    unfold zaL
    rw[parseL_back r.a ho ca,atoi_num _ (by omega),Int.toNat_of_nonneg n0]
    rfl
   rw[e];exact ht
theorem acutR_any (s:List UInt8) (hs:s.length≤100000) (w:World) (hE:Env w) :
  Calls Tryz.prog 118 #[.string (bstr s),.string ⟨#[47]⟩] w fun e w'=>e=.returned (.tuple #[.string (bstr (cutR s).1),.string (bstr (cutR s).2),.bool (Lib.cut s [47]).2.2])∧Below w.heap.size w w':=by
 obtain⟨m,hm⟩:=hE.most
 refine (Tryz.strings_Cut (bstr s) (bstr [47]) m w (by rw[size_bstr];omega) hm).mono ?_
 rintro e w' ⟨rfl,n,rfl⟩
 exact⟨rfl,below_drewN w n⟩
set_option maxHeartbeats 2000000 in
theorem atext13_any (r:Rng) (h:r.Ok) (w:World) (hE:Env w) :
  Calls Tryz.prog 81 #[.agg (rngV r).toArray] w fun e w'=>e=.returned (.string (bstr (textR r)))∧Below w.heap.size w w':=by
 have hcr:=Lib.hid (fun w'=>acheckR_any r h w')
 have htx:=Lib.hid (fun w' hE=>atext_any r.a h.a w' hE)
 have hlim:=checkR_lim r
 obtain⟨R,hR⟩:∃R,R=rngV r:=⟨_,rfl⟩
 obtain⟨V,hV⟩:∃V,V=adrV r.a:=⟨_,rfl⟩
 have HR:=Lib.hid (show R=V++[Value.int .i64 r.n] by rw[hR,hV];rfl)
 have hVl:=Lib.hid (show V.length=17 by rw[hV];exact length_adrV h.a)
 have hzV:=Lib.hid (show (Tryz.prog.info? 26).map (·.size)=some V.length by rw[hVl.out];exact size_adr)
 have hzR:=Lib.hid (show (Tryz.prog.info? 28).map (·.size)=some R.length by rw[hR,length_rngV' r h.a];exact size_rng)
 rw[←hR] at hcr ⊢
 rw[←hV] at htx
 clear hR hV
 obtain⟨w1,hw1⟩:∃w1,w1=w.alloc (.cells R.toArray 28):=⟨_,rfl⟩
 have r1:Row w1 w.heap.size 28 R:=by rw[hw1];exact Row.new w _ _
 have hb1:Below w.heap.size w w1:=by rw[hw1];exact (Below.refl _ w).alloc (Nat.le_refl _) _
 have hE1:=hE.next hb1
 have HW:=Lib.hid hw1
 clear hw1 hE
 have tok1:True:=trivial
 cases hc:checkR r with
 | false =>
  have HX:=Lib.hid (show textR r=[] by unfold textR;rw[hc];rfl)
  rw[hc] at hcr
  clear hc hlim
  go_enter Tryz.func81,Tryz.ntmps81
  go_wp2_with (first
   | (have _t:=tok1;rw[←HW.out];clear tok1;with_reducible refine wpList_load_mid rfl 28 (.tmp 1) rfl w.heap.size 0 rfl R _ (row_range r1) Tryz.underlying28 rfl hzR.out ?_)
   | (go_at_call 110;refine (hcr.out _).mono ?_;rintro e w2 ⟨rfl,hb2⟩;have hb2:=hb1.trans (hb2.mono hb1.size)))
  go_ret
  exact⟨by rw[HX.out];rfl,hb2⟩
 | true =>
  obtain⟨-,n0,n1⟩:=hlim hc
  have HX:=Lib.hid (show textR r=(textA r.a++[47])++numL 10 r.n.toNat by rw[textR_ok r hc];simp)
  have hnm:=Lib.hid (fun w' hE=>aitoa_any r.n n0 (by omega) w' hE)
  have hl1:=textA_len r.a
  have hl2:=numL_len 10 (by omega) 2 r.n.toNat (by omega)
  rw[hc] at hcr
  generalize textA r.a=A at *
  generalize numL 10 r.n.toNat=B at *
  generalize hn:r.n=n at *
  have hs1:(bstr A).size≤39:=by rw[size_bstr];exact hl1
  have hs2:(bstr B).size≤3:=by rw[size_bstr];exact hl2
  clear hc hlim n0 n1 hl1 hl2 hn
  go_enter Tryz.func81,Tryz.ntmps81
  go_wp2_with (first
   | (have _t:=tok1;rw[←HW.out];clear tok1;with_reducible refine wpList_load_mid rfl 28 (.tmp 1) rfl w.heap.size 0 rfl R _ (row_range r1) Tryz.underlying28 rfl hzR.out ?_)
   | (go_at_call 110;refine (hcr.out _).mono ?_;rintro e w2 ⟨rfl,hb2⟩;have r2:=r1.later hb2 r1.lt;have hE2:=hE1.next hb2;have hb2:=hb1.trans (hb2.mono hb1.size)))
  refine wp_region_noPanic ?_
  refine wp_region_held_drew (S:=fun w'=>Below w2.heap.size w2 w') (by kernel_rfl) ((Below.refl _ _).drew) (fun hHeld=>?_)
  have hB:=hHeld
  refine rtake 0 _ (some 6) _ rfl rfl (by kernel_rfl) (by kernel_rfl) (by kernel_rfl) (fun _ _ _ h=>h) (by rfl) hHeld (by intro w hS;go_simp;try with_reducible rfl) ?_
  try (first | (rw[put_some];dsimp only[List.set]) | rw[put_none])
  refine rtake 1 _ (some 7) _ rfl rfl (by kernel_rfl) (by kernel_rfl) (by kernel_rfl) (fun _ _ _ h=>h) (by rfl) hHeld (by intro w hS;exact run_load_op 26 (.tmp 6) rfl _ 0 rfl V _ (row_part' HR.out (r2.later hS r2.lt)) Tryz.underlying26 rfl hzV.out) ?_
  try (first | (rw[put_some];dsimp only[List.set]) | rw[put_none])
  refine rtake 4 _ (some 10) _ rfl rfl (by kernel_rfl) (by kernel_rfl) (by kernel_rfl) (fun _ _ _ h=>h) (by rfl) hHeld (by intro w hS;go_simp;try with_reducible rfl) ?_
  try (first | (rw[put_some];dsimp only[List.set]) | rw[put_none])
  refine rtake 5 _ (some 11) _ rfl rfl (by kernel_rfl) (by kernel_rfl) (by kernel_rfl) (fun _ _ _ h=>h) (by rfl) hHeld (by intro w hS;have hcn:=rng_n' hVl.out HR.out (r2.later hS r2.lt);go_simp;try with_reducible rfl) ?_
  try (first | (rw[put_some];dsimp only[List.set]) | rw[put_none])
  refine wpAnyH_ready (rs:=[2]) (by kernel_rfl) (by simp) (AllReadyH.cons (o:=_) rfl (fun K hK=>?_) AllReadyH.nil)
  go_simp
  refine (htx.out _ (hE2.next hHeld)).mono ?_;rintro e ww22 ⟨rfl,hqw22⟩
  try go_wp2_with fail
  refine hK.out _ _ (hHeld.trans (hqw22.mono hHeld.size)) (fun hHeld'=>?_)
  clear hK K
  try (first | (rw[put_some];dsimp only[List.set]) | rw[put_none])
  have hB:=below_step hB hqw22
  have hB2:Below ww22.heap.size ww22 ww22:=Below.refl _ _
  refine wpAnyH_narrow (S':=fun w'=>Below ww22.heap.size ww22 w') (fun _ h=>(hHeld.trans (hqw22.mono hHeld.size)).trans (h.mono (hHeld.trans (hqw22.mono hHeld.size)).size)) _ _ _ _ ?_
  clear hHeld
  have hHeld:Below ww22.heap.size ww22 ww22:=Below.refl _ _
  refine rtake 3 _ (some 9) _ rfl rfl (by kernel_rfl) (by kernel_rfl) (by kernel_rfl) (fun _ _ _ h=>h) (by rfl) hHeld (by intro w hS;go_simp;rw[if_neg (by (try simp only[ByteArray.size_append]);(try simp only[show ({ data:=#[47] } : ByteArray).size=1 from rfl]);omega)]) ?_
  try (first | (rw[put_some];dsimp only[List.set]) | rw[put_none])
  refine wpAnyH_ready (rs:=[6]) (by kernel_rfl) (by simp) (AllReadyH.cons (o:=_) rfl (fun K hK=>?_) AllReadyH.nil)
  go_simp
  refine (hnm.out _ (hE2.next hB)).mono ?_;rintro e ww26 ⟨rfl,hqw26⟩
  try go_wp2_with fail
  refine hK.out _ _ (hHeld.trans (hqw26.mono hHeld.size)) (fun hHeld'=>?_)
  clear hK K
  try (first | (rw[put_some];dsimp only[List.set]) | rw[put_none])
  have hB:=below_step hB hqw26
  have hB2:=below_step hB2 hqw26
  have hB6:Below ww26.heap.size ww26 ww26:=Below.refl _ _
  refine wpAnyH_narrow (S':=fun w'=>Below ww26.heap.size ww26 w') (fun _ h=>(hHeld.trans (hqw26.mono hHeld.size)).trans (h.mono (hHeld.trans (hqw26.mono hHeld.size)).size)) _ _ _ _ ?_
  clear hHeld
  have hHeld:Below ww26.heap.size ww26 ww26:=Below.refl _ _
  refine rtake 7 _ (some 13) _ rfl rfl (by kernel_rfl) (by kernel_rfl) (by kernel_rfl) (fun _ _ _ h=>h) (by rfl) hHeld (by intro w hS;go_simp;rw[if_neg (by (try simp only[ByteArray.size_append]);(try simp only[show ({ data:=#[47] } : ByteArray).size=1 from rfl]);omega)]) ?_
  try (first | (rw[put_some];dsimp only[List.set]) | rw[put_none])
  refine rtake 8 _ (some 2) _ rfl rfl (by kernel_rfl) (by kernel_rfl) (by kernel_rfl) (fun _ _ _ h=>h) (by rfl) hHeld (by intro w hS;go_simp;try with_reducible rfl) ?_
  try (first | (rw[put_some];dsimp only[List.set]) | rw[put_none])
  refine wpAnyH_done (by kernel_rfl) ?_ _
  refine NoPanic.normal ?_
  have hbe:=hb2.trans (hB.mono hb2.size)
  clear hHeld
  go_wp2
  go_ret
  exact⟨by rw[HX.out];simp only[←bstr_cat12];rfl,hbe⟩
set_option maxHeartbeats 4000000 in
theorem aparse13_any (s:List UInt8) (hs:s.length≤100000) (w:World) (hE:Env w) :
  Calls Tryz.prog 88 #[.string (bstr s)] w fun e w'=>e=.returned (parsR (parseR s))∧Below w.heap.size w w':=by
 obtain⟨hl1,hl2⟩:=cutR_le s
 have hcut:=Lib.hid (fun w' hE=>acutR_any s hs w' hE)
 obtain⟨b,hpe⟩:=pars_za (cutR s).1
 have hpa:=Lib.hid (fun w' hE=>aparse_any (cutR s).1 (by omega) w' hE)
 rw[hpe] at hpa
 have hat:=Lib.hid (fun w' hE=>aatoi_any (cutR s).2 (by omega) w' hE)
 have hXo:=readR_ok s
 have htx:=Lib.hid (fun w' hE=>atext13_any (readR s) hXo w' hE)
 have HP:=Lib.hid (parse_readR s)
 have hzs:=bstr_beq (textR (readR s)) s
 obtain⟨Z,hZ⟩:∃Z,Z=rngV zeroR:=⟨_,rfl⟩
 obtain⟨X,hX⟩:∃X,X=rngV (readR s):=⟨_,rfl⟩
 obtain⟨V,hV⟩:∃V,V=adrV (zaL (cutR s).1):=⟨_,rfl⟩
 have hVl:=Lib.hid (show V.length=17 by rw[hV];exact length_adrV (zaL_ok _))
 have hzV:=Lib.hid (show (Tryz.prog.info? 26).map (·.size)=some V.length by rw[hVl.out];exact size_adr)
 have hzV2:=Lib.hid (show (Tryz.prog.info? 26).map (·.size)=some V.toArray.size by rw[List.size_toArray];exact hzV.out)
 have h17:=Lib.hid (show 17=V.toArray.size by rw[List.size_toArray,hVl.out])
 have hV1:=Lib.hid (show V.toArray.all (·.oneCell')=true by rw[hV];exact adrV_one' _)
 have hXl:=length_rngV' _ hXo.a
 have hzX:=Lib.hid (show (Tryz.prog.info? 28).map (·.size)=some X.length by rw[hX,hXl];exact size_rng)
 have hzX2:=Lib.hid (show (Tryz.prog.info? 28).map (·.size)=some X.toArray.size by rw[List.size_toArray];exact hzX.out)
 have h18:=Lib.hid (show 18=X.toArray.size by rw[hX,List.size_toArray,hXl])
 have hX1:=Lib.hid (show X.toArray.all (·.oneCell')=true by rw[hX];exact rngV_one' _)
 have hzZ:=Lib.hid (show (Tryz.prog.info? 28).map (·.size)=some Z.toArray.size by rw[hZ,List.size_toArray,length_rngV' _ zeroA_ok];exact size_rng)
 have hZ1:=Lib.hid (show Z.toArray.all (·.oneCell')=true by rw[hZ];exact rngV_one' _)
 have hZX:=Lib.hid (show Z.toArray.size=X.toArray.size by rw[hX,hZ,List.size_toArray,List.size_toArray,hXl,length_rngV' _ zeroA_ok])
 have hZe:=Lib.hid (hZ.trans rngV_zero)
 have HXe:=Lib.hid (show X=V++[Value.int .i64 (atoiI (cutR s).2)] by rw[hX,hV];rfl)
 have HPt:=Lib.hid (show textR (readR s)=s→parsR (parseR s)=.tuple #[.agg X.toArray,.bool true] by intro h;rw[HP.out,if_pos h,hX];rfl)
 have HPf:=Lib.hid (show textR (readR s)≠s→parsR (parseR s)=.tuple #[.agg Z.toArray,.bool false] by intro h;rw[HP.out,if_neg h,hZ];rfl)
 obtain⟨w1,hw1⟩:∃w1,w1=w.alloc (.cells Z.toArray 28):=⟨_,rfl⟩
 have q1:Row w1 w.heap.size 28 Z:=by rw[hw1];exact Row.new w _ _
 have hb1:Below w.heap.size w w1:=by rw[hw1];exact (Below.refl _ w).alloc (Nat.le_refl _) _
 have hE1:=hE.next hb1
 have HW:=Lib.hid (show w1=w.alloc (.cells #[Value.bool false,.int .u8 0,.int .u8 0,.int .u8 0,.int .u8 0,.int .u8 0,.int .u8 0,.int .u8 0,.int .u8 0,.int .u8 0,.int .u8 0,.int .u8 0,.int .u8 0,.int .u8 0,.int .u8 0,.int .u8 0,.int .u8 0,.int .i64 0] 28) by rw[hw1,hZe.out])
 rw[←hV] at hpa
 rw[←hX] at htx
 clear hw1 hV hX hZ hE hs hl1 hl2 hpe HP hXl
 generalize atoiI (cutR s).2=n at *
 generalize (Lib.cut s [47]).2.2=fd at *
 generalize bstr (cutR s).1=F at *
 generalize bstr (cutR s).2=B at *
 by_cases hT:textR (readR s)=s
 case pos =>
  have HX:=Lib.hid (HPt.out hT)
  rw[decide_eq_true hT] at hzs
  clear HPt HPf hT hXo
  generalize textR (readR s)=tx at *
  generalize bstr tx=TX at *
  generalize bstr s=S at *
  go_enter Tryz.func88,Tryz.ntmps88
  go_wp2_with (first
   | (go_at_call 118;rw[←HW.out];refine (hcut.out _ hE1).mono ?_;rintro e w2 ⟨rfl,hb2⟩;have hE2:=hE1.next hb2;have q2:=q1.later hb2 q1.lt;have hb2:=hb1.trans (hb2.mono hb1.size);clear HW q1)
   | (go_at_call 119;refine (hpa.out _ hE2).mono ?_;rintro e w3 ⟨rfl,hb3⟩;have hE3:=hE2.next hb3;have q3:=q2.later hb3 q2.lt;have hb3:=hb2.trans (hb3.mono hb2.size);clear q2)
   | (have _t:=hb3;refine wpList_store_row rfl 26 (.tmp 7) (.tmp 21) rfl w3.heap.size V.toArray rfl rfl 26 _ (heap_alloc_new w3 _) hzV2.out h17.out hV1.out ?_;refine Hid.out ?_))
  refine Lib.hid ?_
  generalize hw4:World.setRow _ _ _=w4
  obtain⟨r4,hb4'⟩:=row_new_set (xs:=V) hw4
  have hE4:=hE3.next hb4'
  have q4:=q3.later hb4' q3.lt
  have hb4:=hb3.trans (hb4'.mono hb3.size)
  clear hw4 hb4' q3
  generalize w3.heap.size=g at *
  go_wp2_with (first
   | (go_at_call 120;refine (hat.out _ hE4).mono ?_;rintro e w5 ⟨ev,rfl,hb5⟩;have hE5:=hE4.next hb5;have q5:=q4.later hb5 q4.lt;have r5:=r4.later hb5 r4.lt;have hb5:=hb4.trans (hb5.mono hb4.size);clear q4 r4)
   | (have _t:=hE5;with_reducible refine wpList_load_mid rfl 26 (.tmp 7) rfl g 0 rfl V _ (row_range r5) Tryz.underlying26 rfl hzV.out ?_)
   | (refine wpList_build2 rfl 28 0 1 (.tmp 28) (.tmp 29) rfl (.agg V.toArray) (.int .i64 n) (.agg X.toArray) rfl rfl (by rw[HXe.out];exact build_rng V n hVl.out _) ?_)
   | (have _t:=hE5;refine wpList_store_row rfl 28 (.tmp 11) (.tmp 30) rfl w5.heap.size X.toArray rfl rfl 28 _ (heap_alloc_new w5 _) hzX2.out h18.out hX1.out ?_;refine Hid.out ?_))
  refine Lib.hid ?_
  generalize hw6:World.setRow _ _ _=w6
  obtain⟨x6,hb6'⟩:=row_new_set (xs:=X) hw6
  have hE6:=hE5.next hb6'
  have q6:=q5.later hb6' q5.lt
  have hb6:=hb5.trans (hb6'.mono hb5.size)
  clear hw6 hb6' q5 r5
  generalize w5.heap.size=g2 at *
  have tok2:True:=trivial
  go_wp2_with (first
   | (have _t:=tok2;with_reducible refine wpList_load_mid rfl 28 (.tmp 11) rfl g2 0 rfl X _ (row_range x6) Tryz.underlying28 rfl hzX.out ?_;clear tok2)
   | (go_at_call 81;refine (htx.out _ hE6).mono ?_;rintro e w7 ⟨rfl,hb7⟩;have x7:=x6.later hb7 x6.lt;have Q7:=Lib.hid (show w7.heap[w.heap.size]?=some (.cells Z.toArray 28 (0,0)) from q6.later hb7 q6.lt);have hb7:=hb6.trans (hb7.mono hb6.size);clear x6 q6)
   | (with_reducible refine wpList_load_mid rfl 28 (.tmp 11) rfl g2 0 rfl X _ (row_range x7) Tryz.underlying28 rfl hzX.out ?_)
   | (with_reducible refine wpList_store_row rfl 28 (.tmp 2) (.tmp 36) rfl w.heap.size X.toArray rfl rfl 28 Z.toArray Q7.out hzX2.out hZX.out hX1.out ?_;refine Hid.out ?_))
  refine Lib.hid ?_
  generalize hw8:World.setRow _ _ _=w8
  obtain⟨r8,hg8⟩:=row_set (show Row w7 w.heap.size 28 Z from Q7.out) hw8
  have hb8:=hb7.grown hg8 hb7.size (fun k h=>by cases h;exact Nat.le_refl _)
  have R8:=Lib.hid (show w8.heap[w.heap.size]?=some (.cells X.toArray 28 (0,0)) from r8)
  clear hw8 r8 hg8 Q7
  go_wp2_with fail
  exact⟨rfl,_,results_row_tmp rfl _ _ w.heap.size 28 X.toArray (0,0) _ rfl R8.out Tryz.underlying28 rfl hzX2.out _ rfl,by rw[HX.out];rfl,hb8⟩
 case neg =>
  have HX:=Lib.hid (HPf.out hT)
  rw[decide_eq_false hT] at hzs
  clear HPt HPf hT hXo
  generalize textR (readR s)=tx at *
  generalize bstr tx=TX at *
  generalize bstr s=S at *
  go_enter Tryz.func88,Tryz.ntmps88
  go_wp2_with (first
   | (go_at_call 118;rw[←HW.out];refine (hcut.out _ hE1).mono ?_;rintro e w2 ⟨rfl,hb2⟩;have hE2:=hE1.next hb2;have q2:=q1.later hb2 q1.lt;have hb2:=hb1.trans (hb2.mono hb1.size);clear HW q1)
   | (go_at_call 119;refine (hpa.out _ hE2).mono ?_;rintro e w3 ⟨rfl,hb3⟩;have hE3:=hE2.next hb3;have q3:=q2.later hb3 q2.lt;have hb3:=hb2.trans (hb3.mono hb2.size);clear q2)
   | (have _t:=hb3;refine wpList_store_row rfl 26 (.tmp 7) (.tmp 21) rfl w3.heap.size V.toArray rfl rfl 26 _ (heap_alloc_new w3 _) hzV2.out h17.out hV1.out ?_;refine Hid.out ?_))
  refine Lib.hid ?_
  generalize hw4:World.setRow _ _ _=w4
  obtain⟨r4,hb4'⟩:=row_new_set (xs:=V) hw4
  have hE4:=hE3.next hb4'
  have q4:=q3.later hb4' q3.lt
  have hb4:=hb3.trans (hb4'.mono hb3.size)
  clear hw4 hb4' q3
  generalize w3.heap.size=g at *
  go_wp2_with (first
   | (go_at_call 120;refine (hat.out _ hE4).mono ?_;rintro e w5 ⟨ev,rfl,hb5⟩;have hE5:=hE4.next hb5;have q5:=q4.later hb5 q4.lt;have r5:=r4.later hb5 r4.lt;have hb5:=hb4.trans (hb5.mono hb4.size);clear q4 r4)
   | (have _t:=hE5;with_reducible refine wpList_load_mid rfl 26 (.tmp 7) rfl g 0 rfl V _ (row_range r5) Tryz.underlying26 rfl hzV.out ?_)
   | (refine wpList_build2 rfl 28 0 1 (.tmp 28) (.tmp 29) rfl (.agg V.toArray) (.int .i64 n) (.agg X.toArray) rfl rfl (by rw[HXe.out];exact build_rng V n hVl.out _) ?_)
   | (have _t:=hE5;refine wpList_store_row rfl 28 (.tmp 11) (.tmp 30) rfl w5.heap.size X.toArray rfl rfl 28 _ (heap_alloc_new w5 _) hzX2.out h18.out hX1.out ?_;refine Hid.out ?_))
  refine Lib.hid ?_
  generalize hw6:World.setRow _ _ _=w6
  obtain⟨x6,hb6'⟩:=row_new_set (xs:=X) hw6
  have hE6:=hE5.next hb6'
  have q6:=q5.later hb6' q5.lt
  have hb6:=hb5.trans (hb6'.mono hb5.size)
  clear hw6 hb6' q5 r5
  generalize w5.heap.size=g2 at *
  have tok2:True:=trivial
  go_wp2_with (first
   | (have _t:=tok2;with_reducible refine wpList_load_mid rfl 28 (.tmp 11) rfl g2 0 rfl X _ (row_range x6) Tryz.underlying28 rfl hzX.out ?_;clear tok2)
   | (go_at_call 81;refine (htx.out _ hE6).mono ?_;rintro e w7 ⟨rfl,hb7⟩;have x7:=x6.later hb7 x6.lt;have Q7:=Lib.hid (show w7.heap[w.heap.size]?=some (.cells Z.toArray 28 (0,0)) from q6.later hb7 q6.lt);have hb7:=hb6.trans (hb7.mono hb6.size);clear x6 q6)
   | (have _t:=Q7;refine wpList_store_row rfl 28 (.tmp 2) (.tmp 35) rfl w.heap.size Z.toArray rfl (by rw[hZe.out];rfl) 28 Z.toArray Q7.out hzZ.out rfl hZ1.out ?_;refine Hid.out ?_))
  refine Lib.hid ?_
  generalize hw8:World.setRow _ _ _=w8
  obtain⟨r8,hg8⟩:=row_set (show Row w7 w.heap.size 28 Z from Q7.out) hw8
  have hb8:=hb7.grown hg8 hb7.size (fun k h=>by cases h;exact Nat.le_refl _)
  have R8:=Lib.hid (show w8.heap[w.heap.size]?=some (.cells Z.toArray 28 (0,0)) from r8)
  clear hw8 r8 hg8 Q7
  go_wp2_with fail
  exact⟨rfl,_,results_row_tmp rfl _ _ w.heap.size 28 Z.toArray (0,0) _ rfl R8.out Tryz.underlying28 rfl hzZ.out _ rfl,by rw[HX.out];rfl,hb8⟩
def pmL (mx:Nat):Nat→List UInt8→Nat×Nat
 | n,[]=>(n,0)
 | n,c :: cs=>if 10≤dvL c.toNat then (0,2) else if mx < n*10+dvL c.toNat then (mx,1) else pmL mx (n*10+dvL c.toNat) cs
def pmA (mx:Nat) (l:List UInt8):Nat×Nat:=if l=[] then (0,2) else pmL mx 0 l
theorem pmL_at (mx n k:Nat) (l:List UInt8) (h:k < l.length):pmL mx n (l.drop k)=if 10≤dvL (l.getD k 0).toNat then (0,2) else if mx < n*10+dvL (l.getD k 0).toNat then (mx,1) else pmL mx (n*10+dvL (l.getD k 0).toNat) (l.drop (k+1)):=by
 rw[List.drop_eq_getElem_cons h,List.getD_eq_getElem?_getD,List.getElem?_eq_getElem h];rfl
theorem pmL_code (mx:Nat) (l:List UInt8):∀n,n≤mx→(pmL mx n l).1≤mx∧((pmL mx n l).2=0∨(pmL mx n l).2=1∧(pmL mx n l).1=mx∨(pmL mx n l).2=2):=by
 induction l with
 | nil=>intro n hn;exact⟨hn,.inl rfl⟩
 | cons c l ih =>
  intro n hn
  unfold pmL
  split
  ·exact⟨by simp,.inr (.inr rfl)⟩
  ·split
   ·exact⟨by simp,.inr (.inl ⟨rfl,rfl⟩)⟩
   ·exact ih _ (by omega)
theorem pmA_code (mx:Nat) (l:List UInt8):(pmA mx l).1≤mx∧((pmA mx l).2=0∨(pmA mx l).2=1∧(pmA mx l).1=mx∨(pmA mx l).2=2):=by
 unfold pmA
 split
 ·exact⟨by simp,.inr (.inr rfl)⟩
 ·exact pmL_code mx l 0 (by omega)
theorem dv_hex10:∀d:Nat,d < 10→dvL (hexD d).toNat=d:=by
 have h:∀d:Fin 10,dvL (hexD d.1).toNat=d.1:=by decide
 intro d hd
 exact h ⟨d,hd⟩
theorem foldV_le (s:List UInt8):∀n v,foldV 10 n s=some v→n≤v:=by
 induction s with
 | nil=>intro n v h;cases h;omega
 | cons c s ih =>
  intro n v h
  rw[foldV] at h
  split at h
  ·cases h
  ·have:=ih _ _ h;omega
theorem pm_fold (mx:Nat) (s:List UInt8):∀n v,foldV 10 n s=some v→v≤mx→pmL mx n s=(v,0):=by
 induction s with
 | nil=>intro n v h _;cases h;rfl
 | cons c s ih =>
  intro n v h hv
  rw[foldV] at h
  split at h
  ·cases h
  ·rename_i hd
   have hb:=digI_bd 10 c
   have hx:=digI_hex 10 c (by omega)
   have e:dvL c.toNat=(digI 10 c).toNat:=by rw[←hx,dv_hex10 _ (by omega),hx]
   have hle:=foldV_le _ _ _ h
   rw[pmL,e,if_neg (by omega),if_neg (by omega)]
   exact ih _ _ h hv
theorem pm_num (mx n:Nat) (h:n≤mx):pmA mx (numL 10 n)=(n,0):=by
 unfold pmA
 rw[if_neg (numL_ne 10 n)]
 exact pm_fold mx _ 0 n (foldV_num 10 (by omega) (by omega) n) h
set_option maxHeartbeats 4000000 in
theorem ipm53_any (l:List UInt8) (hl:l.length≤100000) (w:World) :
  Calls Tryz.prog 153 #[.string (bstr l),.int .i64 10,.int .i64 53] w fun e w'=>e=.returned (.tuple #[.int .u64 (pmA 9007199254740991 l).1,errV (pmA 9007199254740991 l).2])∧Below w.heap.size w w':=by
 by_cases h0:l=[]
 ·subst h0
  have hne:(bstr []).toList.isEmpty=true:=by rw[bstr_toList];rfl
  go_enter Tryz.func153,Tryz.ntmps153
  go_wp2
  go_ret2
  exact⟨rfl,Below.refl _ _⟩
 ·have hne:(bstr l).toList.isEmpty=false:=by
   rw[bstr_toList]
   cases l with
   | nil=>exact absurd rfl h0
   | cons _ _=>rfl
  have hP:=Lib.hid (show pmA 9007199254740991 l=pmL 9007199254740991 0 (l.drop 0) by unfold pmA;rw[if_neg h0];rfl)
  have tok1:True:=trivial
  go_enter Tryz.func153,Tryz.ntmps153
  go_wp2_with (have _t:=tok1;refine wpList_conv_string rfl (.tmp 98) rfl l rfl ?_;intro A c w1 hs hb;clear tok1)
  generalize hCe:(1844674407370955162:Int)=C
  have hC:9007199254740992≤C:=by omega
  clear hne hCe
  generalize bstr l=S at *
  go_loopw [12,13,101] (fun us n i wr=>∃k acc:Nat,k≤l.length∧us=.bool false∧i=.int .i64 k∧n=.int .u64 acc∧acc≤9007199254740991∧pmA 9007199254740991 l=pmL 9007199254740991 acc (l.drop k)∧Below w1.heap.size w1 wr) (fun _ _ i _=>l.length - (intOf i).toNat)
  case atStart=>exact⟨0,0,by omega,rfl,rfl,rfl,by omega,hP.out,Below.refl _ _⟩
  case round =>
   obtain⟨k,acc,hk,rfl,rfl,rfl,hacc,hpu,hbr⟩:=hrel
   have HP:=Lib.hid hpu
   clear hP hpu h0
   have hBe:=hb.trans (hbr.mono hb.size)
   by_cases hlt:k < l.length
   ·have hlt':(k:Int) < (l.length:Int):=by omega
    obtain⟨b',o,hA,-,-⟩:=hs.rd.get (i:=k) (by rw[length_byts];exact hlt)
    have hix:=index_bytes A b' o l.length c k hA hlt
    have hce:=byte_cell (by rw[hA] at hs;exact hs.later (Nat.le_refl _) hbr) k hlt
    clear hA
    have HQ:=Lib.hid (HP.out.trans (pmL_at 9007199254740991 acc k l hlt))
    clear HP
    have hx:=(l.getD k 0).toNat_lt
    have hac1:(acc:Int) < C:=by omega
    have hac2:(acc:Int)≤9007199254740991:=by omega
    generalize (l.getD k 0).toNat=x at *
    have hlow:=Lib.hid (fun w'=>low_any x hx w')
    have HD:=Lib.hid (show dvL x=if 48≤x∧x≤57 then x - 48 else if 97≤(x ||| 32)∧(x ||| 32)≤122 then (x ||| 32) - 87 else 255 from rfl)
    have hy:x ||| 32 < 256:=Nat.or_lt_two_pow (n:=8) hx (by omega)
    generalize x ||| 32=y at *
    cases hq:((x:Int)==95)
    all_goals
     go_wp2_with (go_at_call 179;refine (hlow.out _).mono ?_;rintro e w' ⟨rfl,rfl⟩)
     all_goals first
      | (go_ret2
         have hs:10≤dvL x:=by rw[HD.out];(repeat' split)<;>omega
         exact⟨by rw[HQ.out,if_pos hs];rfl,hBe⟩)
      | (go_ret2
         have hs:¬10≤dvL x:=by rw[HD.out];(repeat' split)<;>omega
         have ht:9007199254740991 < acc*10+dvL x:=by rw[HD.out];(repeat' split)<;>omega
         exact⟨by rw[HQ.out,if_neg hs,if_pos ht];rfl,hBe⟩)
      | (have hs : ¬ 10 ≤ dvL x := by rw [HD.out]; (repeat' split) <;> omega
         have ht:¬9007199254740991 < acc*10+dvL x:=by rw[HD.out];(repeat' split)<;>omega
         go_roundw
         case rel=>exact⟨k+1,acc*10+dvL x,by omega,rfl,by go_num,u64_eq (by rw[HD.out];(repeat' split)<;>omega),by omega,by rw[HQ.out,if_neg hs,if_neg ht],hbr⟩
         case measure=>simp[intOf];omega)
   ·obtain rfl:k=l.length:=by omega
    rw[List.drop_length] at HP
    go_wp2
    go_ret2
    exact⟨by rw[HP.out];rfl,hBe⟩
set_option maxHeartbeats 4000000 in
theorem ipm12_any (l:List UInt8) (hl:l.length≤100000) (w:World) :
  Calls Tryz.prog 153 #[.string (bstr l),.int .i64 10,.int .i64 12] w fun e w'=>e=.returned (.tuple #[.int .u64 (pmA 4095 l).1,errV (pmA 4095 l).2])∧Below w.heap.size w w':=by
 by_cases h0:l=[]
 ·subst h0
  have hne:(bstr []).toList.isEmpty=true:=by rw[bstr_toList];rfl
  go_enter Tryz.func153,Tryz.ntmps153
  go_wp2
  go_ret2
  exact⟨rfl,Below.refl _ _⟩
 ·have hne:(bstr l).toList.isEmpty=false:=by
   rw[bstr_toList]
   cases l with
   | nil=>exact absurd rfl h0
   | cons _ _=>rfl
  have hP:=Lib.hid (show pmA 4095 l=pmL 4095 0 (l.drop 0) by unfold pmA;rw[if_neg h0];rfl)
  have tok1:True:=trivial
  go_enter Tryz.func153,Tryz.ntmps153
  go_wp2_with (have _t:=tok1;refine wpList_conv_string rfl (.tmp 98) rfl l rfl ?_;intro A c w1 hs hb;clear tok1)
  generalize hCe:(1844674407370955162:Int)=C
  have hC:4096≤C:=by omega
  clear hne hCe
  generalize bstr l=S at *
  go_loopw [12,13,101] (fun us n i wr=>∃k acc:Nat,k≤l.length∧us=.bool false∧i=.int .i64 k∧n=.int .u64 acc∧acc≤4095∧pmA 4095 l=pmL 4095 acc (l.drop k)∧Below w1.heap.size w1 wr) (fun _ _ i _=>l.length - (intOf i).toNat)
  case atStart=>exact⟨0,0,by omega,rfl,rfl,rfl,by omega,hP.out,Below.refl _ _⟩
  case round =>
   obtain⟨k,acc,hk,rfl,rfl,rfl,hacc,hpu,hbr⟩:=hrel
   have HP:=Lib.hid hpu
   clear hP hpu h0
   have hBe:=hb.trans (hbr.mono hb.size)
   by_cases hlt:k < l.length
   ·have hlt':(k:Int) < (l.length:Int):=by omega
    obtain⟨b',o,hA,-,-⟩:=hs.rd.get (i:=k) (by rw[length_byts];exact hlt)
    have hix:=index_bytes A b' o l.length c k hA hlt
    have hce:=byte_cell (by rw[hA] at hs;exact hs.later (Nat.le_refl _) hbr) k hlt
    clear hA
    have HQ:=Lib.hid (HP.out.trans (pmL_at 4095 acc k l hlt))
    clear HP
    have hx:=(l.getD k 0).toNat_lt
    have hac1:(acc:Int) < C:=by omega
    have hac2:(acc:Int)≤4095:=by omega
    generalize (l.getD k 0).toNat=x at *
    have hlow:=Lib.hid (fun w'=>low_any x hx w')
    have HD:=Lib.hid (show dvL x=if 48≤x∧x≤57 then x - 48 else if 97≤(x ||| 32)∧(x ||| 32)≤122 then (x ||| 32) - 87 else 255 from rfl)
    have hy:x ||| 32 < 256:=Nat.or_lt_two_pow (n:=8) hx (by omega)
    generalize x ||| 32=y at *
    cases hq:((x:Int)==95)
    all_goals
     go_wp2_with (go_at_call 179;refine (hlow.out _).mono ?_;rintro e w' ⟨rfl,rfl⟩)
     all_goals first
      | (go_ret2
         have hs:10≤dvL x:=by rw[HD.out];(repeat' split)<;>omega
         exact⟨by rw[HQ.out,if_pos hs];rfl,hBe⟩)
      | (go_ret2
         have hs:¬10≤dvL x:=by rw[HD.out];(repeat' split)<;>omega
         have ht:4095 < acc*10+dvL x:=by rw[HD.out];(repeat' split)<;>omega
         exact⟨by rw[HQ.out,if_neg hs,if_pos ht];rfl,hBe⟩)
      | (have hs : ¬ 10 ≤ dvL x := by rw [HD.out]; (repeat' split) <;> omega
         have ht:¬4095 < acc*10+dvL x:=by rw[HD.out];(repeat' split)<;>omega
         go_roundw
         case rel=>exact⟨k+1,acc*10+dvL x,by omega,rfl,by go_num,u64_eq (by rw[HD.out];(repeat' split)<;>omega),by omega,by rw[HQ.out,if_neg hs,if_neg ht],hbr⟩
         case measure=>simp[intOf];omega)
   ·obtain rfl:k=l.length:=by omega
    rw[List.drop_length] at HP
    go_wp2
    go_ret2
    exact⟨by rw[HP.out];rfl,hBe⟩
theorem and_pow (x i:Nat):x &&& 2^i=if x.testBit i then 2^i else 0:=by
 apply Nat.eq_of_testBit_eq
 intro j
 rw[Nat.testBit_and,Nat.testBit_two_pow]
 by_cases h:i=j
 ·subst h
  cases hx:x.testBit i<;>simp
 ·cases hx:x.testBit i<;>simp[h]
theorem bits_abs (b:Nat) (hb:b < 2^64):bits .andNot .u64 (b:Int) 9223372036854775808=((magC b:Nat):Int):=by
 refine (u64_andNot_nat b 9223372036854775808 (by omega) (by omega)).trans ?_
 rw[show 18446744073709551615 - 9223372036854775808=2^63 - 1 from rfl,Nat.and_two_pow_sub_one_eq_mod];rfl
theorem bits_sgn (b:Nat) (hb:b < 2^64):bits .and .u64 (b:Int) 9223372036854775808=((if negC b then 2^63 else 0:Nat):Int):=by
 refine (u64_and_nat b 9223372036854775808 (by omega) (by omega)).trans ?_
 rw[show 9223372036854775808=2^63 from rfl,and_pow]
 have:b.testBit 63=negC b:=by
  rw[Nat.testBit_eq_decide_div_mod_eq]
  unfold negC
  rw[show b/2^63%2=b/2^63 by omega]
 rw[this]
theorem and_frac (x:Nat) (hx:x < 2^63):x &&& 9227875636482146303=x%2^52:=by
 have e:9227875636482146303=2^63 ||| (2^52 - 1):=by decide
 rw[e,Nat.and_or_distrib_left,and_pow,Nat.testBit_lt_two_pow hx,Nat.and_two_pow_sub_one_eq_mod]
 simp
theorem bits_frac (x:Nat) (hx:x < 2^63):bits .andNot .u64 (x:Int) 9218868437227405312=((x%2^52:Nat):Int):=by
 refine (u64_andNot_nat x 9218868437227405312 (by omega) (by omega)).trans ?_
 rw[show 18446744073709551615 - 9218868437227405312=9227875636482146303 from rfl,and_frac x hx]
theorem or_exp (r E:Nat) (hr:r < 2^52):r ||| E*2^52=E*2^52+r:=by
 rw[Nat.or_comm,Nat.mul_comm,Nat.two_pow_add_eq_or_of_lt hr]
theorem bits_lay (r E:Nat) (hr:r < 2^52) (hE:E < 2048):bits .or .u64 (r:Int) ((E*2^52:Nat):Int)=((E*2^52+r:Nat):Int):=by
 refine (u64_or_nat r (E*2^52) (by omega) (by omega)).trans ?_
 rw[or_exp r E hr]
theorem bits_exp (E:Nat) (hE:E < 2048):bits .and .u64 (E:Int) 2047=(E:Int):=by
 refine (u64_and_nat E 2047 (by omega) (by omega)).trans ?_
 rw[show 2047=2^11 - 1 from rfl,Nat.and_two_pow_sub_one_eq_mod,Nat.mod_eq_of_lt (by omega)]
theorem pack_div (E r:Nat) (hr:r < 2^52):(E*2^52+r)/2^52=E:=by omega
theorem pack_mod (E r:Nat) (hr:r < 2^52):(E*2^52+r)%2^52=r:=by omega
theorem pack_mag (E r:Nat) (hE:E < 2048) (hr:r < 2^52):magC (E*2^52+r)=E*2^52+r:=by unfold magC;omega
theorem pack_neg (E r:Nat) (hE:E < 2048) (hr:r < 2^52):negC (E*2^52+r)=false:=by unfold negC;rw[decide_eq_false_iff_not];omega
theorem pack_sig (E r:Nat) (h1:1≤E) (hr:r < 2^52):sigC (E*2^52+r)=2^52+r:=by
 unfold sigC;rw[pack_div E r hr,pack_mod E r hr,if_pos (by omega)];omega
theorem pack_pow (E r:Nat) (h1:1≤E) (hr:r < 2^52):powC (E*2^52+r)=(E:Int) - 1075:=by
 unfold powC;rw[pack_div E r hr,if_pos (by omega)]
theorem pack_fin (E r:Nat) (h1:1≤E) (h2:E≤2046) (hr:r < 2^52):FinC (E*2^52+r):=by unfold FinC;omega
theorem pack_read (E r:Nat) (h1:1≤E) (h2:E≤2046) (hr:r < 2^52):Ieee.double.read (E*2^52+r)=.number false (2^52+r) ((E:Int) - 1075):=by
 rw[read_fin _ (by omega) (by rw[pack_mag E r (by omega) hr];omega),pack_neg E r (by omega) hr,pack_mag E r (by omega) hr,pack_sig E r h1 hr,pack_pow E r h1 hr]
theorem pack_bits (E r:Nat) (h1:1≤E) (hr:r < 2^52):bitsC (2^52+r) ((E:Int) - 1075)=E*2^52+r:=by
 unfold bitsC
 rw[if_neg (by omega),show ((E:Int) - 1075+1075).toNat=E by omega];omega
theorem pack_fit (E r:Nat) (h1:1≤E) (h2:E≤2046) (hr:r < 2^52):FitC (2^52+r) ((E:Int) - 1075):=.inr ⟨by omega,by omega,by omega,by omega⟩
theorem pack_of (a:Nat) (h:2^52≤a) (h2:a < 2047*2^52):∃E r,1≤E∧E≤2046∧r < 2^52∧a=E*2^52+r:=⟨a/2^52,a%2^52,by omega,by omega,by omega,by omega⟩
theorem order_small (a b:Nat) (ha:a≤2047*2^52) (hb:b≤2047*2^52):FloatKind.f64.format.order a b=some (compare (a:Int) (b:Int)):=by
 have na:nanC a=false:=by unfold nanC magC;rw[decide_eq_false_iff_not];omega
 have nb:nanC b=false:=by unfold nanC magC;rw[decide_eq_false_iff_not];omega
 have ga:negC a=false:=by unfold negC;rw[decide_eq_false_iff_not];omega
 have gb:negC b=false:=by unfold negC;rw[decide_eq_false_iff_not];omega
 have e:FloatKind.f64.format.order a b=if nanC a=true∨nanC b=true then none else some (compare (rankC a) (rankC b)):=order_rank a b (by omega) (by omega)
 rw[e,if_neg (by rw[na,nb];simp)]
 unfold rankC
 rw[ga,gb,show magC a=a by unfold magC;omega,show magC b=b by unfold magC;omega];rfl
theorem order_lt (a b:Nat) (ha:a≤2047*2^52) (hb:b≤2047*2^52) (h:a < b):FloatKind.f64.format.order a b=some .lt:=by
 rw[order_small a b ha hb,cmp_lt (by omega)]
theorem order_gt (a b:Nat) (ha:a≤2047*2^52) (hb:b≤2047*2^52) (h:b < a):FloatKind.f64.format.order a b=some .gt:=by
 rw[order_small a b ha hb,cmp_gt (by omega)]
theorem order_nan_left (a b:Nat) (ha:a < 2^64) (hb:b < 2^64) (h:nanC a=true):FloatKind.f64.format.order a b=none:=by
 have e:FloatKind.f64.format.order a b=if nanC a=true∨nanC b=true then none else some (compare (rankC a) (rankC b)):=order_rank a b ha hb
 rw[e,if_pos (.inl h)]
theorem up_53 (m:Nat) (h0:0 < m) (h:m < 2^53):∃k r:Nat,k≤52∧r < 2^52∧m*2^k=2^52+r:=by
 have h1:=Nat.log2_self_le (n:=m) (by omega)
 have h2:m < 2^(m.log2+1):=(Nat.log2_lt (by omega)).1 (Nat.lt_succ_self _)
 have h3:m.log2 < 53:=(Nat.log2_lt (by omega)).2 h
 have e:2^52=2^m.log2*2^(52 - m.log2):=by rw[←Nat.pow_add,show m.log2+(52 - m.log2)=52 by omega]
 have hlo:2^52≤m*2^(52 - m.log2):=by
  calc 2^52=2^m.log2*2^(52 - m.log2):=e
   _≤m*2^(52 - m.log2):=Nat.mul_le_mul_right _ h1
 have hhi:m*2^(52 - m.log2) < 2^53:=by
  calc m*2^(52 - m.log2) < 2^(m.log2+1)*2^(52 - m.log2):=Nat.mul_lt_mul_of_pos_right h2 (Nat.pow_pos (by omega))
   _=2^53:=by rw[←Nat.pow_add,show m.log2+1+(52 - m.log2)=53 by omega]
 exact⟨52 - m.log2,m*2^(52 - m.log2) - 2^52,by omega,by omega,by omega⟩
theorem odd_shift (m k:Nat) (h:m≠0):oddC (m*2^k)=oddC m∧twosC (m*2^k)=twosC m+k:=by
 obtain⟨o1,o2⟩:=odd_twos m h
 have e:m*2^k=oddC m*2^(twosC m+k):=by rw[Nat.pow_add,←Nat.mul_assoc,←o2]
 obtain⟨p1,p2⟩:=odd_of (oddC m) o1 (twosC m+k)
 rw[e]
 exact⟨p1,p2⟩
theorem shift_le (m k:Nat) (h1:2^52≤m*2^k) (h2:m*2^k < 2^53):k≤52:=by
 by_cases h:k≤52
 ·exact h
 ·exfalso
  have h3:2^53≤2^k:=Nat.pow_le_pow_right (by omega) (by omega)
  have h4:0 < m:=by
   rcases Nat.eq_zero_or_pos m with h0 | h0
   ·rw[h0,Nat.zero_mul] at h1;omega
   ·exact h0
  have h5:2^k≤m*2^k:=Nat.le_mul_of_pos_left _ h4
  omega
theorem shift_one (m a b:Nat) (h1:2^52≤m*2^a) (h2:m*2^a < 2^53) (h3:2^52≤m*2^b) (h4:m*2^b < 2^53):a=b:=by
 have ha:=shift_le m a h1 h2
 have hb:=shift_le m b h3 h4
 exact fit_one m a b 0 (.inr ⟨h1,h2,by omega,by omega⟩) (.inr ⟨h3,h4,by omega,by omega⟩)
theorem mul_of (x y:Nat) (s t:Bool) (m n:Nat) (i j:Int) (hx:Ieee.double.read x=.number s m i) (hy:Ieee.double.read y=.number t n j):Ieee.double.mul x y=some (Ieee.double.nearest (s ^^ t) (m*n) (i+j)):=by
 unfold Ieee.Format.mul
 rw[hx,hy];rfl
theorem read_small (a:Nat) (h:a < 2^52):Ieee.double.read a=.number false a (-1074):=by
 rw[read_fin a (by omega) (by unfold magC;omega)]
 have hm:magC a=a:=by unfold magC;omega
 have hg:negC a=false:=by unfold negC;rw[decide_eq_false_iff_not];omega
 rw[hm,hg]
 unfold sigC powC
 rw[if_neg (by omega),if_neg (by omega),Nat.mod_eq_of_lt h]
theorem mul_small (a k r:Nat) (h:a < 2^52) (hk:k≤52) (hr:r < 2^52) (e:a*2^k=2^52+r):floatBits .mul .f64 a 4841369599423283200=some ((53 - k)*2^52+r):=by
 show Ieee.double.mul a 4841369599423283200=_
 have h2:Ieee.double.read 4841369599423283200=.number false (2^52) 0:=by decide +kernel
 rw[mul_of _ _ _ _ _ _ _ _ (read_small a h) h2]
 rw[nearest_fit _ _ _ (2^52+r) (((53 - k:Nat):Int) - 1075) (pack_fit _ r (by omega) (by omega) hr) ?_,pack_bits _ r (by omega) hr]
 ·rfl
 ·by_cases hk0:((53 - k:Nat):Int) - 1075 < -1074+0
  ·refine .inr ⟨hk0,?_⟩
   rw[←e,show ((-1074:Int)+0 - (((53 - k:Nat):Int) - 1075)).toNat=k - 52 by omega]
   have:k=52:=by omega
   subst this
   exact absurd hk0 (by decide)
  ·refine .inl ⟨by omega,?_⟩
   rw[←e,show (((53 - k:Nat):Int) - 1075 - (-1074+0)).toNat=52 - k by omega,Nat.mul_assoc,←Nat.pow_add,show k+(52 - k)=52 by omega]
theorem mul_part (r:Nat) (hr:r < 2^52):floatBits .mul .f64 (1022*2^52+r) 4845873199050653696=some (1075*2^52+r):=by
 show Ieee.double.mul (1022*2^52+r) 4845873199050653696=_
 have h2:Ieee.double.read 4845873199050653696=.number false (2^52) 1:=by decide +kernel
 rw[mul_of _ _ _ _ _ _ _ _ (pack_read 1022 r (by omega) (by omega) hr) h2]
 rw[nearest_fit _ _ _ (2^52+r) (((1075:Nat):Int) - 1075) (pack_fit _ r (by omega) (by omega) hr) (.inl ⟨by omega,by rw[show (((1075:Nat):Int) - 1075 - (((1022:Nat):Int) - 1075+1)).toNat=52 by decide]⟩),pack_bits _ r (by omega) hr]
 rfl
theorem to_int (r:Nat) (hr:r < 2^52):floatToIntVal .f64 (1075*2^52+r) .u64=some ((2^52+r:Nat):Int):=by
 have h1:FloatKind.f64.decode (1075*2^52+r)=.number false (2^52+r) 0:=(pack_read 1075 r (by omega) (by omega) hr).trans (by rfl)
 have h2:(FloatKind.f64.decode (1075*2^52+r)).toInt .zero=some ((2^52+r:Nat):Int):=by
  rw[h1]
  show some (Ieee.signed false (Ieee.Toward.zero.cut false ((2^52+r) <<< 0) 0) 0)=_
  have hc:Ieee.Toward.zero.cut false ((2^52+r) <<< 0) 0=2^52+r:=by
   unfold Ieee.Toward.cut
   simp
  rw[hc]
  unfold Ieee.signed
  simp
 unfold floatToIntVal
 rw[h2]
 have a1:IntKind.u64.min=0:=rfl
 have a2:IntKind.u64.max=18446744073709551615:=rfl
 simp only
 rw[if_pos (by rw[a1,a2];omega)]
theorem of_int (m k r:Nat) (hm:0 < m) (hk:k≤52) (hr:r < 2^52) (e:m*2^k=2^52+r):floatOfInt .f64 (m:Int)=(1075 - k)*2^52+r:=by
 have h:floatOfInt .f64 (m:Int)=Ieee.double.nearest false m 0:=by
  show Ieee.double.nearest (decide ((m:Int) < 0)) (m:Int).natAbs 0=_
  rw[decide_eq_false (by omega)];rfl
 rw[h,nearest_fit false m 0 (2^52+r) (((1075 - k:Nat):Int) - 1075) (pack_fit _ r (by omega) (by omega) hr) ?_,pack_bits _ r (by omega) hr]
 ·rfl
 ·by_cases hk0:k=0
  ·subst hk0
   rw[Nat.pow_zero,Nat.mul_one] at e
   exact .inl ⟨by omega,by rw[e,show (((1075 - 0:Nat):Int) - 1075 - 0).toNat=0 by decide,Nat.pow_zero,Nat.mul_one]⟩
  ·exact .inr ⟨by omega,by rw[←e,show ((0:Int) - (((1075 - k:Nat):Int) - 1075)).toNat=k by omega]⟩
theorem of_zero:floatOfInt .f64 0=0:=by decide +kernel
theorem mul_one_pack (E r:Nat) (h1:1≤E) (h2:E≤2046) (hr:r < 2^52):floatBits .mul .f64 4607182418800017408 (E*2^52+r)=some (E*2^52+r):=by
 have hm:=pack_mag E r (by omega) hr
 have h:=mul_unit false 4607182418800017408 (E*2^52+r) read_one (by omega) (by rw[hm];exact pack_fin E r h1 h2 hr)
 rw[hm,pack_neg E r (by omega) hr] at h
 exact h
def lowC (E r:Nat):Nat:=Ieee.double.nearest false (2^52*(2^52+r)) (-105+((E:Int) - 1075))
theorem mul_low (E r:Nat) (h1:1≤E) (h2:E≤2046) (hr:r < 2^52):floatBits .mul .f64 4368491638549381120 (E*2^52+r)=some (lowC E r):=by
 show Ieee.double.mul 4368491638549381120 (E*2^52+r)=_
 have hx:Ieee.double.read 4368491638549381120=.number false (2^52) (-105):=by decide +kernel
 rw[mul_of _ _ _ _ _ _ _ _ hx (pack_read E r h1 h2 hr)];rfl
theorem low_lt (E r:Nat):lowC E r < 2^64:=Ieee.Format.nearest_lt Ieee.double false _ _
def ldC (k r:Nat) (p:Int):Nat :=
 if p+52 - k < -1075 then 0
 else if 1023 < p+52 - k then 2047*2^52
 else if p+52 - k < -1022 then lowC (p+52 - k+1076).toNat r
 else (p+52 - k+1023).toNat*2^52+r
theorem ld_lt (k r:Nat) (p:Int) (hr:r < 2^52):ldC k r p < 2^64:=by
 unfold ldC
 split
 ·omega
 ·split
  ·omega
  ·split
   ·exact low_lt _ _
   ·omega
theorem ld_right (m k r a:Nat) (p:Int) (hk:k≤52) (hr:r < 2^52) (e:m*2^k=2^52+r) (hf:FinC a) (ho:oddC (sigC a)=m) (hp:powC a+twosC (sigC a)=p):ldC k r p=a:=by
 obtain⟨g1,g2⟩:=fit_of a hf
 obtain⟨o1,o2⟩:=odd_twos (sigC a) (by have:=sig_pos a hf;omega)
 rw[ho] at o1 o2
 generalize ht:twosC (sigC a)=t at *
 unfold ldC
 rcases g1 with ⟨h1,h2,h3⟩ | ⟨h1,h2,h3,h4⟩
 ·have hkt:t < k:=by
   by_cases hle:t < k
   ·exact hle
   ·exfalso
    have e2:m*2^t=m*2^k*2^(t - k):=by rw[Nat.mul_assoc,←Nat.pow_add,show k+(t - k)=t by omega]
    have:m*2^k≤m*2^k*2^(t - k):=Nat.le_mul_of_pos_right _ (Nat.pow_pos (by omega))
    omega
  rw[if_neg (by omega),if_neg (by omega),if_pos (by omega)]
  unfold lowC
  rw[nearest_fit false _ _ (sigC a) (powC a) (.inl ⟨h1,h2,h3⟩) (.inl ⟨by omega,?_⟩),g2]
  ·rfl
  ·rw[h3,show ((-1074:Int) - (-105+(((p+52 - k+1076).toNat:Nat) - 1075))).toNat=52+(k - t) by omega,←e,o2,Nat.mul_comm,Nat.mul_assoc,←Nat.pow_add,Nat.mul_assoc,←Nat.pow_add,show k+52=t+(52+(k - t)) by omega]
 ·rw[o2] at h1 h2
  obtain rfl:=shift_one m k t (by omega) (by omega) h1 h2
  rw[if_neg (by omega),if_neg (by omega),if_neg (by omega)]
  have hs:sigC a=2^52+r:=by rw[o2,e]
  rw[←g2,hs]
  have hq:=pack_bits (p+52 - k+1023).toNat r (by omega) hr
  rw[←hq]
  congr 1
  omega
end Go.Proofs.YtjieebmcbpdeiaaGreatDoor
