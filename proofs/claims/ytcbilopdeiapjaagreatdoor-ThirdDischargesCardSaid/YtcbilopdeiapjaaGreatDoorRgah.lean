import Derived.Test.YtcbilopdeiapjaaGreatDoorRgag
import Derived.Deep.DeepCutAuto
set_option maxHeartbeats 16000000
set_option maxRecDepth 100000
open Go.Proofs.Tryz
namespace Go.Proofs.YtcbilopdeiapjaaGreatDoor
open Go Go.RowKit
theorem j0H {P:Program} {w:World} {ops:Array Oper} {o:Oper} {a:Act} {K:Act→World→Prop} {Q:Exit→Act→World→Prop} {E:Prop} (dst:Option Tmp) (hdst:o.dst=dst) (hgd:Region.wanted o (yielded ops a.tmps)=true) (v:Value)
  (hrun:(execOp a.eval o).run P w=.ok (.value v) w) (h:K (a.put dst v) w):if Region.wanted o (yielded ops a.tmps)=true then Oper.wp P o a w K Q else E:=by
 subst hdst
 rw[if_pos hgd]
 unfold Oper.wp
 rw[hrun]
 exact h
theorem k0U (x:List UInt8) (w:World):(Instr.buildSlice 24 1 #[(0,.string (bstr x))]).run prog w=.ok (.slice (some ⟨w.heap.size,0,none⟩) 1 1) (w.alloc (.cells (a0F [x]).toArray 9)):=by go_simp;rfl
theorem k0V (x y:List UInt8) (w:World):(Instr.buildSlice 24 2 #[(0,.string (bstr x)),(1,.string (bstr y))]).run prog w=.ok (.slice (some ⟨w.heap.size,0,none⟩) 2 2) (w.alloc (.cells (a0F [x,y]).toArray 9)):=by go_simp;rfl
theorem i0m {w:World} {ops:Array Oper} {o:Oper} {a:Act} {K:Act→World→Prop} {Q:Exit→Act→World→Prop} {E:Prop} (dst:Option Tmp) (hdst:o.dst=dst) (hgd:Region.wanted o (yielded ops a.tmps)=true) (v:Value) (l:List (List UInt8))
  (hrun:(execOp a.eval o).run prog w=.ok (.value v) (w.alloc (.cells (a0F l).toArray 9))) (hv:v=.slice (some ⟨w.heap.size,0,none⟩) l.length l.length)
  (h:∀w',Sl w' (some ⟨w.heap.size,0,none⟩) l.length (a0F l)→Below w.heap.size w w'→K (a.put dst (.slice (some ⟨w.heap.size,0,none⟩) l.length l.length)) w'):if Region.wanted o (yielded ops a.tmps)=true then Oper.wp prog o a w K Q else E:=by
 subst hdst hv
 rw[if_pos hgd]
 unfold Oper.wp
 rw[hrun]
 refine h _ ?_ ((Below.refl _ w).alloc (f1F _) _)
 have hr:=Row.new w 9 (a0F l)
 exact⟨Rd.row (ys:=[]) (by rw[List.append_nil];exact hr),by rw[a0w];exact f1F _,fun h=>by cases h⟩
theorem a0U (k:List UInt8) (hk:k.length=32):(byts k).length=32:=by rw[a0b];exact hk
theorem c0V {w w1:World} {A B:List Value} {t u:TypeId} (h:(w.alloc (.cells A.toArray t)).alloc (.cells B.toArray u)=w1):Row w1 w.heap.size t A∧Row w1 (w.heap.size+1) u B∧Below w.heap.size w w1:=by
 subst h
 have h1:Row (w.alloc (.cells A.toArray t)) w.heap.size t A:=Row.new w _ _
 have hb1:Below w.heap.size w (w.alloc (.cells A.toArray t)):=(Below.refl _ w).alloc (f1F _) _
 have hb2:Below (w.alloc (.cells A.toArray t)).heap.size (w.alloc (.cells A.toArray t)) ((w.alloc (.cells A.toArray t)).alloc (.cells B.toArray u)):=(Below.refl _ _).alloc (f1F _) _
 have h2:Row ((w.alloc (.cells A.toArray t)).alloc (.cells B.toArray u)) (w.alloc (.cells A.toArray t)).heap.size u B:=Row.new _ _ _
 rw[World.size_alloc] at h2
 exact⟨h1.later hb2 h1.lt,h2,hb1.trans (hb2.mono hb1.size)⟩
theorem p0m (key:List UInt8) (hk:key.length=32) (n:Nat) (hn:n < 18446744073709551616) (id:List UInt8) (hi:id.length≤100000000) (w:World) :
  Calls prog 27 #[.agg (byts key).toArray,.int .u64 (n:Int),.string (bstr id)] w fun e w'=>e=.returned (.agg (byts (c0D key n id)).toArray)∧Below w.heap.size w w':=by
 have hKl:=a0U key hk
 have hkz:=f1D (show (prog.info? 23).map (·.size)=some (byts key).length by rw[a0t,hKl])
 obtain⟨V,hV⟩:∃V,V=byts (c0D key n id):=⟨_,rfl⟩
 have hVl:V.length=32:=by rw[hV];exact a0U _ (b0H _ _ _)
 have hone:=f1D (show ∀v∈V,v.oneCell'=true by rw[hV];exact a0o _)
 have hszl:=f1D (show (prog.info? 23).map (·.size)=some V.length by rw[a0t,hVl])
 have hsz2:=f1D (show (prog.info? 23).map (·.size)=some V.toArray.size by rw[a0t,List.size_toArray,hVl])
 have hfit:=f1D (show 0+V.length≤(List.replicate 32 (Value.int .u8 0)).length by rw[hVl,List.length_replicate];decide)
 have HVr:=f1D (show splice (List.replicate 32 (Value.int .u8 0)) 0 V=V by
  unfold splice
  rw[List.take_zero,List.nil_append,Nat.zero_add,hVl,List.drop_eq_nil_of_le (by simp),List.append_nil])
 have HV:=f1D hV
 clear hV hVl hKl
 go_enter func27,ntmps27
 go_upto_region 1 with fail
 generalize hw1:World.alloc (World.alloc _ _) _=w1
 obtain⟨r1,r2,hb1⟩:=c0V (B:=List.replicate 32 (Value.int .u8 0)) hw1
 clear hw1
 refine wp_region_noPanic ?_
 refine wp_region_held_drew (S:=fun w'=>Row w' w.heap.size 23 (byts key)) (by kernel_rfl) (r1.later ((Below.refl _ _).drew) r1.lt) (fun hHeld=>?_)
 have hB:Below w1.heap.size w1 w1.drew:=(Below.refl _ _).drew
 refine rt 0 7 hHeld ?_ (hy:=by intro w hS;exact a0s 23 (.tmp 3) rfl _ 0 rfl (byts key) _ (a0i hS) underlying23 rfl hkz.out)
 refine rt 1 8 hHeld ?_
 refine rt 4 11 hHeld ?_
 refine rc1 2 fun K hK=>?_
 go_simp
 refine (k0L n hn _).mono ?_;rintro e ww12 ⟨v2,rfl,ho2,hqw12⟩;obtain⟨A2,c2,rfl,-,s2⟩:=Sl.of_own ho2
 try go_wp2_with fail
 refine hK.out _ _ (hHeld.later hqw12 hHeld.lt) (fun hHeld=>?_)
 clear hK K
 have hB:=a0a hB hqw12
 have hB2:Below ww12.heap.size ww12 ww12:=Below.refl _ _
 refine rc1 3 fun K hK=>?_
 refine j0H (some 10) rfl (by rfl) (.string (bstr (b0j n))) (by have hcv:=b0o s2 _ rfl;go_simp) ?_
 refine rk hK hHeld fun hHeld=>?_
 clear hK K
 refine rc1 5 fun K hK=>?_
 refine i0m (some 12) rfl (by rfl) _ [b0j n,id] (by have hss:=k0V (b0j n) id ww12;go_simp;rfl) rfl ?_;intro ww15 s5 hqw15
 refine rk hK (hHeld.later hqw15 hHeld.lt) fun hHeld=>?_
 clear hK K
 have hB:=a0a hB hqw15
 have hB2:=a0a hB2 hqw15
 have hB5:Below ww15.heap.size ww15 ww15:=Below.refl _ _
 refine rc1 6 fun K hK=>?_
 go_simp
 refine (s0g key hk [109,105,110,116] _ 2 2 [b0j n,id] _ s5 rfl (by show (4+1)+(((b0j n).length+1)+((id.length+1)+0))≤_;rw[b0a];omega)).mono ?_;rintro e ww16 ⟨rfl,hqw16⟩;rw[show keyD key [109,105,110,116] [b0j n,id]=c0D key n id from rfl,←HV.out]
 try go_wp2_with fail
 refine hK.out _ _ (hHeld.later hqw16 hHeld.lt) (fun hHeld=>?_)
 clear hK K
 have hB:=a0a hB hqw16
 have hB2:=a0a hB2 hqw16
 have hB5:=a0a hB5 hqw16
 have hB6:Below ww16.heap.size ww16 ww16:=Below.refl _ _
 refine rc1 7 fun K hK=>?_
 refine a0R none rfl (by rfl) 23 (.tmp 6) (.tmp 13) rfl _ 0 23 _ V rfl rfl (r2.later hB r2.lt) hfit.out hszl.out hone.out ?_;intro wf rf hgf;have hBz:=hB
 refine hK.out _ _ (hHeld.grown hgf (by omega)) (fun hHeld=>?_)
 clear hK K
 rw[a0u]
 refine wpAnyH_done (by kernel_rfl) ?_ _
 refine NoPanic.normal ?_
 have r9:Row wf (w.heap.size+1) 23 V:=by rw[HVr.out] at rf;exact rf
 have hb9:=(hb1.trans (hBz.mono hb1.size)).grown hgf (Nat.le_trans hb1.size hBz.size) (fun k h=>by cases h;omega)
 have R9:=f1D (show wf.heap[(w.heap.size+1:Nat)]?=some (.cells V.toArray 23 (0,0)) from r9)
 clear r9 hgf rf hBz hHeld hb1
 go_wp2_with (with_reducible refine bodyPost_ret (results_cell_row rfl _ _ (w.heap.size+1) 23 V.toArray (0,0) (.array 32 5) rfl R9.out underlying23 rfl hsz2.out) rfl ?_)
 exact⟨by rw[HV.out],hb9⟩
theorem x0F (key:List UInt8) (hk:key.length=32) (c:Cav) (hp:c.party < 18446744073709551616) (hc:(capB c).length≤1000000) (w:World) :
  Calls prog 52 #[.agg (byts key).toArray,.agg (cavV c).toArray] w fun e w'=>e=.returned (.agg (byts (d0U key c)).toArray)∧Below w.heap.size w w':=by
 have hKl:=a0U key hk
 have hkz:=f1D (show (prog.info? 23).map (·.size)=some (byts key).length by rw[a0t,hKl])
 obtain⟨V,hV⟩:∃V,V=byts (d0U key c):=⟨_,rfl⟩
 have hVl:V.length=32:=by rw[hV];exact a0U _ (b0H _ _ _)
 have hone:=f1D (show ∀v∈V,v.oneCell'=true by rw[hV];exact a0o _)
 have hszl:=f1D (show (prog.info? 23).map (·.size)=some V.length by rw[a0t,hVl])
 have hsz2:=f1D (show (prog.info? 23).map (·.size)=some V.toArray.size by rw[a0t,List.size_toArray,hVl])
 have hfit:=f1D (show 0+V.length≤(List.replicate 32 (Value.int .u8 0)).length by rw[hVl,List.length_replicate];decide)
 have HVr:=f1D (show splice (List.replicate 32 (Value.int .u8 0)) 0 V=V by
  unfold splice
  rw[List.take_zero,List.nil_append,Nat.zero_add,hVl,List.drop_eq_nil_of_le (by simp),List.append_nil])
 have HV:=f1D hV
 clear hV hVl hKl
 go_enter func52,ntmps52
 go_upto_region 1 with fail
 generalize hw1:World.alloc (World.alloc (World.alloc _ _) _) _=w1
 obtain⟨r1,r2,r3,hb1,-⟩:=i0i (C:=List.replicate 32 (Value.int .u8 0)) hw1
 clear hw1
 refine wp_region_noPanic ?_
 refine wp_region_held_drew (S:=fun w'=>Row w' w.heap.size 23 (byts key)∧Row w' (w.heap.size+1) 43 (cavV c)) (by kernel_rfl) (⟨r1.later ((Below.refl _ _).drew) r1.lt,r2.later ((Below.refl _ _).drew) r2.lt⟩) (fun hHeld=>?_)
 have hB:Below w1.heap.size w1 w1.drew:=(Below.refl _ _).drew
 refine rt 0 5 hHeld ?_ (hy:=by intro w hS;exact a0s 23 (.tmp 2) rfl _ 0 rfl (byts key) _ (a0i hS.1) underlying23 rfl hkz.out)
 refine rt 1 6 hHeld ?_ (hy:=by intro w hS;exact a0s 43 (.tmp 3) rfl _ 0 rfl (cavV c) _ (a0i hS.2) underlying43 rfl c0C)
 refine rc1 2 fun K hK=>?_
 go_simp
 refine (a1C c hp _).mono ?_;rintro e ww12 ⟨A2,d2,rfl,s2,hqw12⟩
 try go_wp2_with fail
 refine hK.out _ _ ⟨hHeld.1.later hqw12 hHeld.1.lt,hHeld.2.later hqw12 hHeld.2.lt⟩ (fun hHeld=>?_)
 clear hK K
 have hB:=a0a hB hqw12
 have hB2:Below ww12.heap.size ww12 ww12:=Below.refl _ _
 refine rc1 3 fun K hK=>?_
 go_simp
 refine (x0B A2 _ d2 (cavF c) _ s2 rfl (by show (capB c).length≤_;omega)).mono ?_;rintro e ww13 ⟨v3,rfl,ho3,hqw13⟩;obtain⟨A3,c3,rfl,-,s3⟩:=Sl.of_own ho3
 try go_wp2_with fail
 refine hK.out _ _ ⟨hHeld.1.later hqw13 hHeld.1.lt,hHeld.2.later hqw13 hHeld.2.lt⟩ (fun hHeld=>?_)
 clear hK K
 have hB:=a0a hB hqw13
 have hB2:=a0a hB2 hqw13
 have hB3:Below ww13.heap.size ww13 ww13:=Below.refl _ _
 refine rc1 4 fun K hK=>?_
 refine j0H (some 9) rfl (by rfl) (.string (bstr (capB c))) (by have hcv:=b0o s3 _ rfl;unfold capB;go_simp) ?_
 refine rk hK hHeld fun hHeld=>?_
 clear hK K
 refine rc1 5 fun K hK=>?_
 refine i0m (some 10) rfl (by rfl) _ [capB c] (by have hss:=k0U (capB c) ww13;go_simp;rfl) rfl ?_;intro ww15 s5 hqw15
 refine rk hK ⟨hHeld.1.later hqw15 hHeld.1.lt,hHeld.2.later hqw15 hHeld.2.lt⟩ fun hHeld=>?_
 clear hK K
 have hB:=a0a hB hqw15
 have hB2:=a0a hB2 hqw15
 have hB3:=a0a hB3 hqw15
 have hB5:Below ww15.heap.size ww15 ww15:=Below.refl _ _
 refine rc1 6 fun K hK=>?_
 go_simp
 refine (s0g key hk [99,97,118,101,97,116] _ 1 1 [capB c] _ s5 rfl (by show (6+1)+(((capB c).length+1)+0)≤_;omega)).mono ?_;rintro e ww16 ⟨rfl,hqw16⟩;rw[show keyD key [99,97,118,101,97,116] [capB c]=d0U key c from rfl,←HV.out]
 try go_wp2_with fail
 refine hK.out _ _ ⟨hHeld.1.later hqw16 hHeld.1.lt,hHeld.2.later hqw16 hHeld.2.lt⟩ (fun hHeld=>?_)
 clear hK K
 have hB:=a0a hB hqw16
 have hB2:=a0a hB2 hqw16
 have hB3:=a0a hB3 hqw16
 have hB5:=a0a hB5 hqw16
 have hB6:Below ww16.heap.size ww16 ww16:=Below.refl _ _
 refine rc1 7 fun K hK=>?_
 refine a0R none rfl (by rfl) 23 (.tmp 4) (.tmp 11) rfl _ 0 23 _ V rfl rfl (r3.later hB r3.lt) hfit.out hszl.out hone.out ?_;intro wf rf hgf;have hBz:=hB
 refine hK.out _ _ ⟨hHeld.1.grown hgf (by omega),hHeld.2.grown hgf (by omega)⟩ (fun hHeld=>?_)
 clear hK K
 rw[a0u]
 refine wpAnyH_done (by kernel_rfl) ?_ _
 refine NoPanic.normal ?_
 have r9:Row wf (w.heap.size+1+1) 23 V:=by rw[HVr.out] at rf;exact rf
 have hb9:=(hb1.trans (hBz.mono hb1.size)).grown hgf (Nat.le_trans hb1.size hBz.size) (fun k h=>by cases h;omega)
 have R9:=f1D (show wf.heap[(w.heap.size+1+1:Nat)]?=some (.cells V.toArray 23 (0,0)) from r9)
 clear r9 hgf rf hBz hHeld hb1
 go_wp2_with (with_reducible refine bodyPost_ret (results_cell_row rfl _ _ (w.heap.size+1+1) 23 V.toArray (0,0) (.array 32 5) rfl R9.out underlying23 rfl hsz2.out) rfl ?_)
 exact⟨by rw[HV.out],hb9⟩
theorem i0I {w w':World} {base t k n g:Nat} {v:Value} {xs:List Value} (h:w.ownsRow base t k v n xs) (hg:w.grownBy w' (some g)) (hlt:g < base):w'.ownsRow base t k v n xs:=by
 refine⟨h.1,?_⟩
 rcases h.2 with hn | ⟨g',cap,cur,rfl,hbg,hcur,rest⟩
 ·exact .inl hn
 ·exact .inr ⟨g',cap,cur,rfl,hbg,(hg.block g' (Array.getElem?_eq_some_iff.1 hcur).1 (fun e=>by have:=Option.some.inj e;omega)).trans hcur,rest⟩
theorem t0L {w:World} {base t k n c:Nat} {A:Option Addr} {xs:List Value} (h:w.ownsRow base t k (.slice A n c) n xs):∀a,A=some a→base≤a.block:=by
 intro a ha
 subst ha
 rcases h.2 with ⟨h1,_⟩ | ⟨g,cap,cur,hv,hbg,_⟩
 ·cases h1
 ·injection hv with e1
  injection e1 with e1
  subst e1
  exact hbg
theorem y0B {w:World} {g:Nat} {t:Tok} {A:Option Addr} {c:Nat} (ht:t.Ok) (h:Row w g 29 (tokV t A c)):Sl w (some ⟨g,4,none⟩) 32 (byts t.tag):=by
 refine⟨.inr ⟨g,4,rfl,h.lt,fun i hi=>?_⟩,by rw[a0b,ht.tag];exact f1F _,fun h=>by cases h⟩
 rw[h.cell]
 unfold tokV
 rw[List.getElem?_append_right (by show 4≤4+i;omega)]
 show (byts t.tag)[4+i - 4]?=_
 rw[Nat.add_sub_cancel_left]
theorem z0k (c:Cav):(cavF c).length≤3:=by unfold cavF;split<;>simp
theorem k0g (n:Nat):∀(fs:List Fd),(∀f∈fs,f.2.length≤n)→(c0F fs).length≤fs.length*(n+11)
 | [],_=>by simp[c0F]
 | f :: fs,h=>by
  have h1:=k0g n fs (fun g hg=>h g (List.mem_cons_of_mem _ hg))
  have h2:=h f List.mem_cons_self
  have h3:=d0o f
  have h4:=c0j f.2.length
  have e:c0F (f :: fs)=c0X f++c0F fs:=by unfold c0F;rw[List.flatMap_cons]
  rw[e,List.length_append,List.length_cons,Nat.succ_mul];omega
theorem c1d:(prog.info? 43).map (fun i=>(i.zero,i.size,i.bytes))=some (some (.agg (cavV ⟨false,[],0,[],[]⟩).toArray),5,64):=by kernel_rfl
theorem m0K:∃i,prog.info? 43=some i∧i.zero=some (.agg (cavV ⟨false,[],0,[],[]⟩).toArray)∧i.size=5∧i.bytes=64:=by
 have h:=c1d
 cases hq:prog.info? 43 with
 | none=>rw[hq] at h;cases h
 | some i =>
  rw[hq] at h
  simp only[Option.map_some,Option.some.injEq,Prod.mk.injEq] at h
  exact⟨i,rfl,h.1,h.2.1,h.2.2⟩
theorem Row.kept {w w':World} {g t:Nat} {xs:List Value} {row:Option Nat} (h:Row w g t xs) (hg:w.grownBy w' row) (hne:∀k,row=some k→g≠k):Row w' g t xs:=by
 have hl:=h.lt
 unfold Row at h ⊢
 rw[hg.block g hl (fun e=>hne g e.symm rfl)];exact h
section
variable {wL w:World} {g:Nat} {t:Tok} {A:Option Addr} {c:Nat}
end
theorem ztok:tokV b0l none 0=[Value.int .u64 0,.string { data:=#[] },.slice none 0 0,.bool false,.int .u8 0,.int .u8 0,.int .u8 0,.int .u8 0,.int .u8 0,.int .u8 0,.int .u8 0,.int .u8 0,.int .u8 0,.int .u8 0,.int .u8 0,.int .u8 0,.int .u8 0,.int .u8 0,.int .u8 0,.int .u8 0,.int .u8 0,.int .u8 0,.int .u8 0,.int .u8 0,.int .u8 0,.int .u8 0,.int .u8 0,.int .u8 0,.int .u8 0,.int .u8 0,.int .u8 0,.int .u8 0,.int .u8 0,.int .u8 0,.int .u8 0,.int .u8 0]:=by kernel_rfl
def hexD (n:Nat):UInt8:=if n < 10 then UInt8.ofNat (48+n) else UInt8.ofNat (87+n)
theorem x0S (X rest:List Value) (n:Nat) (hn:X.length=n) (y z a b:Value):((X++y :: z :: rest).set n a).set (n+1) b=(X++[a,b])++rest:=by
 subst hn
 rw[List.set_append_right _ _ (f1F _),Nat.sub_self,List.set_cons_zero,List.set_append_right _ _ (by omega),show X.length+1 - X.length=1 by omega,List.set_cons_succ,List.set_cons_zero,List.append_assoc]
 rfl
def numF:Nat→Nat→Nat→List UInt8
 | 0,_,n=>[hexD n]
 | k+1,b,n=>if n < b then [hexD n] else numF k b (n/b)++[hexD (n%b)]
def numL (b n:Nat):List UInt8:=numF n b n
theorem w0U (b:Nat) (hb:2≤b):∀(k n:Nat),n≤k→numF k b n=numL b n:=by
 intro k
 induction k using Nat.strongRecOn with
 | _ k ih =>
  intro n hk
  cases k with
  | zero => obtain rfl : n = 0 := by omega
            rfl
  | succ k =>
   unfold numL
   cases n with
   | zero=>show (if 0 < b then [hexD 0] else _)=[hexD 0];rw[if_pos (by omega)]
   | succ n =>
    rw[numF,numF]
    by_cases h:n+1 < b
    ·rw[if_pos h,if_pos h]
    ·rw[if_neg h,if_neg h]
     have hd:(n+1)/b≤n:=by
      have:(n+1)/b < n+1:=Nat.div_lt_self (by omega) (by omega)
      omega
     rw[ih k (by omega) _ (by omega),ih n (by omega) _ hd]
theorem a0S (b n:Nat) (h:n < b):numL b n=[hexD n]:=by
 unfold numL
 cases n with
 | zero=>rfl
 | succ n=>rw[numF,if_pos h]
theorem b0p (b n:Nat) (hb:2≤b) (h:b≤n):numL b n=numL b (n/b)++[hexD (n%b)]:=by
 have hn:n=(n - 1)+1:=by omega
 have hd:n/b < n:=Nat.div_lt_self (by omega) (by omega)
 unfold numL
 rw[hn,numF,if_neg (by omega),←hn,w0U b hb (n - 1) (n/b) (by omega)]
 rfl
theorem f0W (b n:Nat):numL b n≠[]:=by
 unfold numL
 cases n with
 | zero=>simp[numF]
 | succ n=>rw[numF];split<;>simp
theorem z0Y (b n:Nat):0 < (numL b n).length:=List.length_pos_iff.2 (f0W b n)
theorem b0k (b:Nat) (hb:2≤b):∀(k n:Nat),n < b^(k+1)→(numL b n).length≤k+1:=by
 intro k
 induction k with
 | zero=>intro n h;rw[a0S b n (by simpa using h)];simp
 | succ k ih =>
  intro n h
  by_cases hs:n < b
  ·rw[a0S b n hs];simp
  ·rw[b0p b n hb (by omega),List.length_append]
   have:n/b < b^(k+1):=Nat.div_lt_of_lt_mul (by rw[Nat.pow_succ] at h;rwa [Nat.mul_comm])
   have:=ih _ this
   simp;omega
def a0W:List Nat→Nat
 | []=>0
 | n :: l=>if n=0 then a0W l+1 else 0
theorem p0M (l:List Nat):a0W l≤l.length:=by
 induction l with
 | nil=>exact f1F _
 | cons n l ih=>rw[a0W];split<;>simp<;>omega
def b0S:List Nat→List UInt8
 | []=>[]
 | [n]=>numL 16 n
 | n :: m :: l=>numL 16 n++58 :: b0S (m :: l)
theorem t0r (l:List Nat) (n:Nat):b0S (l++[n])=(if l=[] then numL 16 n else b0S l++58 :: numL 16 n):=by
 induction l with
 | nil=>rfl
 | cons m l ih =>
  cases l with
  | nil=>rfl
  | cons q l =>
   rw[if_neg (by simp)] at ih ⊢
   show numL 16 m++58 :: b0S ((q :: l)++[n])=_
   rw[ih]
   show _=(numL 16 m++58 :: b0S (q :: l))++58 :: numL 16 n
   simp
structure Adr where
 v6:Bool
 b:List UInt8
def Adr.Ok (a:Adr):Prop:=a.b.length=16
def adrV (a:Adr):List Value:=.bool a.v6 :: byts a.b
theorem a0m {a:Adr} (h:a.Ok):(adrV a).length=17:=by unfold adrV;rw[List.length_cons,a0b,h]
theorem c0O (a:Adr):∀v∈adrV a,v.oneCell'=true:=by
 intro v hv
 rcases List.mem_cons.1 hv with rfl | hv
 ·rfl
 ·obtain⟨_,_,rfl⟩:=List.mem_map.1 hv;rfl
def b0h (a:Adr):Bool:=a.v6||(a.b.drop 4).all (·==0)
def c0m (a:Adr):List Nat:=(List.range 8).map fun i=>(a.b.getD (2*i) 0).toNat*256+(a.b.getD (2*i+1) 0).toNat
def d0K (l:List Nat):Nat:=(List.range l.length).foldl (fun best i=>if a0W (l.drop i) > a0W (l.drop best) then i else best) 0
def d0M (l:List Nat):List UInt8 :=
 let best:=d0K l
 let n:=a0W (l.drop best)
 if n < 2 then b0S l else b0S (l.take best)++58 :: 58 :: b0S (l.drop (best+n))
def a0Y (a:Adr):List UInt8 :=
 if b0h a then
  if a.v6 then d0M (c0m a)
  else numL 10 (a.b.getD 0 0).toNat++46 :: numL 10 (a.b.getD 1 0).toNat++46 :: numL 10 (a.b.getD 2 0).toNat++46 :: numL 10 (a.b.getD 3 0).toNat
 else []
theorem g0T (h:Nat) (hh:h < 16) (w:World):(Instr.index 9 (.string { data:=#[48,49,50,51,52,53,54,55,56,57,97,98,99,100,101,102] }) (.int .i64 (h:Int))).run prog w=.ok (.int .u8 ((hexD h).toNat:Int)) w:=by
 have:h=0∨h=1∨h=2∨h=3∨h=4∨h=5∨h=6∨h=7∨h=8∨h=9∨h=10∨h=11∨h=12∨h=13∨h=14∨h=15:=by omega
 clear hh
 rcases this with rfl | rfl | rfl | rfl | rfl | rfl | rfl | rfl | rfl | rfl | rfl | rfl | rfl | rfl | rfl | rfl<;>rfl
theorem f0K (k:Nat):∀(n:Nat) (w:World),n≤k→n≤9223372036854775807 →
  Calls prog 162 #[.int .i64 n,.int .i64 10] w fun e w'=>e=.returned (.string (bstr (numL 10 n)))∧Below w.heap.size w w':=by
 induction k using Nat.strongRecOn with
 | _ k ih =>
  intro n w hk hm
  by_cases hlt:n < 10
  ·have hN:=f1D (a0S 10 n hlt)
   have hlt':(n:Int) < 10:=by omega
   have hd:=g0T n (by omega)
   generalize hexD n=x at *
   have hsl:=k0T w [x] #[.int .u8 (x.toNat:Int)] (0,0) rfl 1 rfl
   have hcv:=b0o hsl 1 rfl
   have hb:Below w.heap.size w (w.alloc (.cells #[.int .u8 (x.toNat:Int)] 5 (0,0))):=(Below.refl _ w).alloc (f1F _) _
   clear hsl ih
   go_enter func162,ntmps162
   go_wp2_with fail
   go_ret
   exact⟨by rw[hN.out];rfl,hb⟩
  ·have hge:(10:Int)≤(n:Int):=by omega
   have hN:=f1D (b0p 10 n (by omega) (by omega))
   have hq:=f1D (show ∀w',Calls prog 162 #[.int .i64 ((n:Int)/10),.int .i64 10] w' fun e w''=>e=.returned (.string (bstr (numL 10 (n/10))))∧Below w'.heap.size w' w'' from fun w'=>ih (n/10) (by omega) (n/10) w' (f1F _) (by omega))
   have hr:=f1D (show ∀w',Calls prog 162 #[.int .i64 ((n:Int)%10),.int .i64 10] w' fun e w''=>e=.returned (.string (bstr [hexD (n%10)]))∧Below w'.heap.size w' w'' from by
    rw[←a0S 10 (n%10) (by omega)];exact fun w'=>ih (n%10) (by omega) (n%10) w' (f1F _) (by omega))
   have hY:=b0k 10 (by omega) 62 (n/10) (by omega)
   generalize hXn:numL 10 n=X at *
   generalize numL 10 (n/10)=Y at *
   have hZ:[hexD (n%10)].length=1:=rfl
   generalize [hexD (n%10)]=Z at *
   have hl1:(bstr Y).size+(bstr Z).size≤9223372036854775807:=by rw[a0c,a0c];omega
   have hw1:IntKind.i64.wrap ((n:Int)/10)=(n:Int)/10:=by rw[IntKind.wrap_i64];omega
   have hw2:((n:Int)).tmod 10=(n:Int)%10:=Int.tmod_eq_emod_of_nonneg (by omega)
   clear ih hXn
   obtain⟨w3,rfl⟩:∃w3:World,w3=w:=⟨_,rfl⟩
   go_enter func162,ntmps162
   go_wp2_with fail
   refine wp_region_noPanic ?_
   refine wp_region_held_drew (S:=fun w'=>Below w3.heap.size w3 w') (by kernel_rfl) ((Below.refl _ _).drew) (fun hHeld=>?_)
   have hB:=hHeld
   refine rt 0 12 hHeld ?_
   refine rt 1 13 hHeld ?_
   refine rt 2 14 hHeld ?_
   refine rt 3 15 hHeld ?_
   refine rt 5 17 hHeld ?_
   refine rt 6 18 hHeld ?_
   refine rt 7 19 hHeld ?_
   refine rt 8 20 hHeld ?_
   refine rc1 4 fun K hK=>?_
   go_simp
   refine (hq.out _).mono ?_;rintro e ww34 ⟨rfl,hqw34⟩
   try go_wp2_with fail
   refine hK.out _ _ (hHeld.trans (hqw34.mono hHeld.size)) (fun hHeld'=>?_)
   clear hK K
   have hB:=a0a hB hqw34
   have hB4:Below ww34.heap.size ww34 ww34:=Below.refl _ _
   refine a0f (S':=fun w'=>Below ww34.heap.size ww34 w') (fun _ h=>(hHeld.trans (hqw34.mono hHeld.size)).trans (h.mono (hHeld.trans (hqw34.mono hHeld.size)).size)) _ _ _ _ ?_
   clear hHeld
   have hHeld:Below ww34.heap.size ww34 ww34:=Below.refl _ _
   refine rc1 9 fun K hK=>?_
   go_simp
   refine (hr.out _).mono ?_;rintro e ww39 ⟨rfl,hqw39⟩
   try go_wp2_with fail
   refine hK.out _ _ (hHeld.trans (hqw39.mono hHeld.size)) (fun hHeld'=>?_)
   clear hK K
   have hB:=a0a hB hqw39
   have hB4:=a0a hB4 hqw39
   have hB9:Below ww39.heap.size ww39 ww39:=Below.refl _ _
   refine a0f (S':=fun w'=>Below ww39.heap.size ww39 w') (fun _ h=>(hHeld.trans (hqw39.mono hHeld.size)).trans (h.mono (hHeld.trans (hqw39.mono hHeld.size)).size)) _ _ _ _ ?_
   clear hHeld
   have hHeld:Below ww39.heap.size ww39 ww39:=Below.refl _ _
   refine rt 10 22 hHeld ?_ (hy:=by intro w hS;go_simp;rw[if_neg (Nat.not_lt.2 hl1)])
   refine rt 11 4 hHeld ?_
   refine wpAnyH_done (by kernel_rfl) ?_ _
   refine NoPanic.normal ?_
   have hBe:=hB
   go_wp2
   go_ret
   exact⟨by rw[hN.out,←a0x];rfl,hBe⟩
theorem m0a (k:Nat):∀(n:Nat) (w:World),n≤k→n≤9223372036854775807 →
  Calls prog 162 #[.int .i64 n,.int .i64 16] w fun e w'=>e=.returned (.string (bstr (numL 16 n)))∧Below w.heap.size w w':=by
 induction k using Nat.strongRecOn with
 | _ k ih =>
  intro n w hk hm
  by_cases hlt:n < 16
  ·have hN:=f1D (a0S 16 n hlt)
   have hlt':(n:Int) < 16:=by omega
   have hd:=g0T n (by omega)
   generalize hexD n=x at *
   have hsl:=k0T w [x] #[.int .u8 (x.toNat:Int)] (0,0) rfl 1 rfl
   have hcv:=b0o hsl 1 rfl
   have hb:Below w.heap.size w (w.alloc (.cells #[.int .u8 (x.toNat:Int)] 5 (0,0))):=(Below.refl _ w).alloc (f1F _) _
   clear hsl ih
   go_enter func162,ntmps162
   go_wp2_with fail
   go_ret
   exact⟨by rw[hN.out];rfl,hb⟩
  ·have hge:(16:Int)≤(n:Int):=by omega
   have hN:=f1D (b0p 16 n (by omega) (by omega))
   have hq:=f1D (show ∀w',Calls prog 162 #[.int .i64 ((n:Int)/16),.int .i64 16] w' fun e w''=>e=.returned (.string (bstr (numL 16 (n/16))))∧Below w'.heap.size w' w'' from fun w'=>ih (n/16) (by omega) (n/16) w' (f1F _) (by omega))
   have hr:=f1D (show ∀w',Calls prog 162 #[.int .i64 ((n:Int)%16),.int .i64 16] w' fun e w''=>e=.returned (.string (bstr [hexD (n%16)]))∧Below w'.heap.size w' w'' from by
    rw[←a0S 16 (n%16) (by omega)];exact fun w'=>ih (n%16) (by omega) (n%16) w' (f1F _) (by omega))
   have hY:=b0k 16 (by omega) 62 (n/16) (by omega)
   generalize hXn:numL 16 n=X at *
   generalize numL 16 (n/16)=Y at *
   have hZ:[hexD (n%16)].length=1:=rfl
   generalize [hexD (n%16)]=Z at *
   have hl1:(bstr Y).size+(bstr Z).size≤9223372036854775807:=by rw[a0c,a0c];omega
   have hw1:IntKind.i64.wrap ((n:Int)/16)=(n:Int)/16:=by rw[IntKind.wrap_i64];omega
   have hw2:((n:Int)).tmod 16=(n:Int)%16:=Int.tmod_eq_emod_of_nonneg (by omega)
   clear ih hXn
   obtain⟨w3,rfl⟩:∃w3:World,w3=w:=⟨_,rfl⟩
   go_enter func162,ntmps162
   go_wp2_with fail
   refine wp_region_noPanic ?_
   refine wp_region_held_drew (S:=fun w'=>Below w3.heap.size w3 w') (by kernel_rfl) ((Below.refl _ _).drew) (fun hHeld=>?_)
   have hB:=hHeld
   refine rt 0 12 hHeld ?_
   refine rt 1 13 hHeld ?_
   refine rt 2 14 hHeld ?_
   refine rt 3 15 hHeld ?_
   refine rt 5 17 hHeld ?_
   refine rt 6 18 hHeld ?_
   refine rt 7 19 hHeld ?_
   refine rt 8 20 hHeld ?_
   refine rc1 4 fun K hK=>?_
   go_simp
   refine (hq.out _).mono ?_;rintro e ww34 ⟨rfl,hqw34⟩
   try go_wp2_with fail
   refine hK.out _ _ (hHeld.trans (hqw34.mono hHeld.size)) (fun hHeld'=>?_)
   clear hK K
   have hB:=a0a hB hqw34
   have hB4:Below ww34.heap.size ww34 ww34:=Below.refl _ _
   refine a0f (S':=fun w'=>Below ww34.heap.size ww34 w') (fun _ h=>(hHeld.trans (hqw34.mono hHeld.size)).trans (h.mono (hHeld.trans (hqw34.mono hHeld.size)).size)) _ _ _ _ ?_
   clear hHeld
   have hHeld:Below ww34.heap.size ww34 ww34:=Below.refl _ _
   refine rc1 9 fun K hK=>?_
   go_simp
   refine (hr.out _).mono ?_;rintro e ww39 ⟨rfl,hqw39⟩
   try go_wp2_with fail
   refine hK.out _ _ (hHeld.trans (hqw39.mono hHeld.size)) (fun hHeld'=>?_)
   clear hK K
   have hB:=a0a hB hqw39
   have hB4:=a0a hB4 hqw39
   have hB9:Below ww39.heap.size ww39 ww39:=Below.refl _ _
   refine a0f (S':=fun w'=>Below ww39.heap.size ww39 w') (fun _ h=>(hHeld.trans (hqw39.mono hHeld.size)).trans (h.mono (hHeld.trans (hqw39.mono hHeld.size)).size)) _ _ _ _ ?_
   clear hHeld
   have hHeld:Below ww39.heap.size ww39 ww39:=Below.refl _ _
   refine rt 10 22 hHeld ?_ (hy:=by intro w hS;go_simp;rw[if_neg (Nat.not_lt.2 hl1)])
   refine rt 11 4 hHeld ?_
   refine wpAnyH_done (by kernel_rfl) ?_ _
   refine NoPanic.normal ?_
   have hBe:=hB
   go_wp2
   go_ret
   exact⟨by rw[hN.out,←a0x];rfl,hBe⟩
def b0n (l:List Nat):List Value:=l.map fun n:Nat=>.int .i64 (n:Int)
theorem b0Q (l:List Nat):(b0n l).length=l.length:=by unfold b0n;simp
theorem w0j (l:List Nat) (i:Nat) (h:i < l.length):(b0n l)[i]?=some (.int .i64 (l.getD i 0:Nat)):=by unfold b0n;simp[h]
theorem d0D (l m:List Nat):b0n (l++m)=b0n l++b0n m:=by unfold b0n;simp
theorem t0n (l:List Nat) (k:Nat):b0n (l.drop k)=(b0n l).drop k:=by unfold b0n;rw[List.map_drop]
theorem t0o (l:List Nat) (k:Nat):b0n (l.take k)=(b0n l).take k:=by unfold b0n;rw[List.map_take]
theorem g0z (l:List Nat):∀v∈b0n l,v.oneCell'=true:=by
 intro v hv
 obtain⟨_,_,rfl⟩:=List.mem_map.1 hv
 rfl
theorem i0B (A:Option Addr) (b o n c k:Nat) (hA:A=some ⟨b,o,none⟩) (hk:k < n) (w:World) :
  (Instr.indexAt 166 (.slice A n c) (.int .i64 k)).run prog w=.ok (.pointer (some ⟨b,o+k,none⟩)) w:=by
 subst hA
 have h:(k:Int) < (n:Int):=by omega
 go_simp
theorem f0g {w:World} {b o c:Nat} {l:List Nat} (h:Sl w (some ⟨b,o,none⟩) c (b0n l)) (k:Nat) (hk:k < l.length):w.cell? ⟨b,o+k,none⟩=some (.int .i64 (l.getD k 0:Nat)):=by
 obtain⟨b',o',hA,_,hc⟩:=h.rd.get (i:=k) (by rw[b0Q];exact hk)
 cases hA
 rw[hc,w0j _ _ hk]
theorem y0N (l:List Nat) (k:Nat) (h:k < l.length):a0W (l.drop k)=if l.getD k 0=0 then a0W (l.drop (k+1))+1 else 0:=by
 rw[List.drop_eq_getElem_cons h,a0W,List.getD_eq_getElem?_getD,List.getElem?_eq_getElem h];rfl
theorem u0s (l:List Nat) (p:Nat) (hp:p≤l.length) (hl:l.length≤1000000) (A:Option Addr) (c:Nat) (w:World) (hs:Sl w A c (b0n l)) :
  Calls prog 163 #[.slice A l.length c,.int .i64 p] w fun e w'=>e=.returned (.int .i64 (a0W (l.drop p):Nat))∧w=w':=by
 go_enter func163,ntmps163
 go_wp2
 go_loop [5] (fun i=>∃k:Nat,p+k≤l.length∧i=.int .i64 k∧k+a0W (l.drop (p+k))=a0W (l.drop p)) (fun i=>1000001 - (intOf i).toNat)
 case atStart=>exact⟨0,by omega,rfl,by simp⟩
 case round =>
  obtain⟨k,hk,rfl,hz⟩:=hrel
  have hw1:IntKind.i64.wrap ((p:Int)+(k:Int))=((p+k:Nat):Int):=by rw[IntKind.wrap_i64];omega
  by_cases hlt:p+k < l.length
  ·have hlt':((p+k:Nat):Int) < (l.length:Int):=by omega
   obtain⟨b,o,hA,-,-⟩:=hs.rd.get (i:=p+k) (by rw[b0Q];exact hlt)
   have hix:=i0B A b o l.length c (p+k) hA hlt w
   have hce:=f0g (by rw[hA] at hs;exact hs) (p+k) hlt
   have hzk:=y0N l (p+k) hlt
   by_cases h0:l.getD (p+k) 0=0
   ·rw[if_pos h0] at hzk
    rw[h0] at hce
    have HZ:=f1D hz
    have HK:=f1D hzk
    generalize hq:p+k=q at *
    clear hz hzk h0 hs
    go_wp2
    go_round
    case rel=>exact⟨k+1,by omega,by go_num,by rw[show p+(k+1)=q+1 by omega,←HZ.out,HK.out];omega⟩
    case measure=>simp[intOf];omega
   ·rw[if_neg h0] at hzk
    have HZ:=f1D hz
    have HK:=f1D hzk
    have h0':((l.getD (p+k) 0:Nat):Int)≠0:=by omega
    generalize l.getD (p+k) 0=x at *
    generalize hq:p+k=q at *
    clear hz hzk h0 hs
    go_wp2
    go_ret
    exact⟨by rw[←HZ.out,HK.out];rfl,rfl⟩
  ·have hge:(l.length:Int)≤((p+k:Nat):Int):=by omega
   have HZ:=f1D hz
   clear hz
   go_wp2
   go_ret
   exact⟨by rw[←HZ.out,List.drop_of_length_le (by omega)];rfl,rfl⟩
theorem k0n (l:List Nat) (h:∀n∈l,n≤65535):(b0S l).length≤5*l.length:=by
 induction l with
 | nil=>exact f1F _
 | cons n l ih =>
  have hn:=b0k 16 (by omega) 3 n (by have:=h n (List.mem_cons_self ..);omega)
  cases l with
  | nil=>show (numL 16 n).length≤_;simp;omega
  | cons m l =>
   have:=ih (fun q hq=>h q (List.mem_cons_of_mem _ hq))
   show (numL 16 n++58 :: b0S (m :: l)).length≤_
   simp only[List.length_append,List.length_cons] at this ⊢
   omega
theorem t0s (l:List Nat) (k:Nat) (h:k < l.length):b0S (l.take (k+1))=if k=0 then numL 16 (l.getD k 0) else b0S (l.take k)++[58]++numL 16 (l.getD k 0):=by
 have e:l.take (k+1)=l.take k++[l.getD k 0]:=by rw[List.take_add_one];simp[h]
 rw[e,t0r]
 by_cases hk:k=0
 ·rw[if_pos hk,if_pos (by rw[hk];rfl)]
 ·rw[if_neg hk,if_neg (by intro h0;have:=congrArg List.length h0;rw[List.length_take,List.length_nil] at this;omega)]
  simp
theorem h0F (l:List Nat) (hm:∀n∈l,n≤65535) (hl:l.length≤1000000) (A:Option Addr) (c:Nat) (w:World) (hs:Sl w A c (b0n l)) :
  Calls prog 164 #[.slice A l.length c] w fun e w'=>e=.returned (.string (bstr (b0S l)))∧Below w.heap.size w w':=by
 go_enter func164,ntmps164
 go_wp2
 go_loopw [3,8] (fun v i wr=>∃k:Nat,k≤l.length∧i=.int .i64 k∧v=.string (bstr (b0S (l.take k)))∧Below w.heap.size w wr) (fun _ i _=>l.length - (intOf i).toNat)
 case atStart=>exact⟨0,by omega,rfl,rfl,Below.refl _ _⟩
 case round =>
  obtain⟨k,hk,rfl,rfl,hb⟩:=hrel
  by_cases hlt:k < l.length
  ·have hlt':(k:Int) < (l.length:Int):=by omega
   obtain⟨b,o,hA,-,-⟩:=hs.rd.get (i:=k) (by rw[b0Q];exact hlt)
   have hix:=i0B A b o l.length c k hA hlt
   have hce:=f0g (by rw[hA] at hs;exact hs.later (f1F _) hb) k hlt
   have hJ:=t0s l k hlt
   have hx:l.getD k 0≤65535:=hm _ (by rw[List.getD_eq_getElem?_getD,List.getElem?_eq_getElem hlt];exact List.getElem_mem hlt)
   have hn:=f1D (fun w'=>m0a (l.getD k 0) (l.getD k 0) w' (f1F _) (by omega))
   have hnl:=b0k 16 (by omega) 3 (l.getD k 0) (by omega)
   have hjl:=k0n (l.take k) (fun n hn=>hm n (List.mem_of_mem_take hn))
   rw[List.length_take] at hjl
   generalize l.getD k 0=x at *
   generalize numL 16 x=X at *
   have hz:(bstr (b0S (l.take k))).size=(b0S (l.take k)).length:=a0c _
   by_cases h0:k=0
   ·rw[if_pos h0] at hJ
    have hce0:wr.cell? ⟨b,o,none⟩=some (.int .i64 (x:Nat)):=by rw[h0] at hce;exact hce
    have hpos:0 < l.length:=by omega
    have hix0:∀w,(Instr.indexAt 166 (.slice A l.length c) (.int .i64 0)).run prog w=.ok (.pointer (some ⟨b,o,none⟩)) w:=by rw[h0] at hix;exact hix
    have HJ:=f1D (show b0S (l.take (k+1))=b0S (l.take k)++X by rw[hJ,h0];rfl)
    generalize b0S (l.take k)=J at *
    have hzX:(bstr X).size=X.length:=a0c _
    clear hJ hs hA
    go_wp2_with (go_at_call 162;refine (hn.out _).mono ?_;rintro e w1 ⟨rfl,hb1⟩)
    go_roundw
    case rel=>exact⟨k+1,by omega,by rw[h0];go_num,by rw[HJ.out,←a0x],hb.trans (hb1.mono hb.size)⟩
    case measure=>simp[intOf];omega
   ·rw[if_neg h0] at hJ
    have h0':(0:Int) < (k:Int):=by omega
    have HJ:=f1D hJ
    generalize b0S (l.take k)=J at *
    have hzX:(bstr X).size=X.length:=a0c _
    clear hJ hs hA
    go_wp2_with (go_at_call 162;refine (hn.out _).mono ?_;rintro e w1 ⟨rfl,hb1⟩)
    go_roundw
    case rel=>exact⟨k+1,by omega,by go_num,by rw[HJ.out,←a0x,←a0x];rfl,hb.trans (hb1.mono hb.size)⟩
    case measure=>simp[intOf];omega
  ·obtain rfl:k=l.length:=by omega
   go_wp2
   go_ret
   exact⟨by rw[List.take_length];rfl,hb⟩
theorem b0b:(prog.info? 67).map (·.size)=some 17:=by kernel_rfl
theorem c0P {w:World} {g:Nat} {a:Adr} (h:a.Ok) (hr:Row w g 67 (adrV a)) (k:Nat) (hk:k < 16):w.cell? ⟨g,1+k,none⟩=some (.int .u8 ((a.b.getD k 0).toNat:Int)):=by
 rw[hr.cell,Nat.add_comm]
 show (byts a.b)[k]?=_
 rw[c0d _ _ (by rw[h];exact hk)]
theorem j0R {w:World} {g:Nat} {a:Adr} (hr:Row w g 67 (adrV a)):w.cell? ⟨g,0,none⟩=some (.bool a.v6):=by rw[hr.cell];rfl
theorem s0M (a:Adr) (h:a.Ok) (h6:a.v6=false) (k:Nat) (h4:4≤k) (hk:k < 16) (hb:a.b.getD k 0≠0):b0h a=false:=by
 unfold b0h
 rw[h6,Bool.false_or]
 rw[List.all_eq_false]
 refine⟨a.b.getD k 0,?_,by simpa using hb⟩
 have hl:k < a.b.length:=by rw[h];exact hk
 have e:(a.b.drop 4)[k - 4]?=some (a.b.getD k 0):=by rw[List.getElem?_drop,show 4+(k - 4)=k by omega,List.getElem?_eq_getElem hl,List.getD_eq_getElem?_getD,List.getElem?_eq_getElem hl];rfl
 exact List.mem_of_getElem? e
theorem q0a (a:Adr) (h:a.Ok) (hz:∀k,4≤k→k < 16→a.b.getD k 0=0):b0h a=true:=by
 unfold b0h
 rw[Bool.or_eq_true]
 right
 rw[List.all_eq_true]
 intro x hx
 obtain⟨k,hk⟩:=List.getElem?_of_mem hx
 rw[List.getElem?_drop] at hk
 have hl:4+k < a.b.length:=(List.getElem?_eq_some_iff.1 hk).1
 have:=hz (4+k) (by omega) (by rw[h] at hl;exact hl)
 rw[List.getD_eq_getElem?_getD,hk] at this
 simpa using this
theorem f0Z (a:Adr) (h:a.Ok) (w:World) :
  Calls prog 161 #[.agg (adrV a).toArray] w fun e w'=>e=.returned (.bool (b0h a))∧Below w.heap.size w w':=by
 obtain⟨w1,hw1⟩:∃w1,w1=w.alloc (.cells (adrV a).toArray 67):=⟨_,rfl⟩
 have hr:Row w1 w.heap.size 67 (adrV a):=by rw[hw1];exact Row.new w _ _
 have hb:Below w.heap.size w w1:=by rw[hw1];exact (Below.refl _ w).alloc (f1F _) _
 have hc6:=j0R hr
 obtain⟨V,hV⟩:∃V,V=adrV a:=⟨_,rfl⟩
 rw[←hV] at hw1 ⊢
 clear hV
 cases h6:a.v6 with
 | true =>
  rw[h6] at hc6
  have HC:=f1D (show b0h a=true by unfold b0h;rw[h6];rfl)
  clear hr
  go_enter func161,ntmps161
  subst hw1
  go_wp2
  go_ret
  exact⟨by rw[HC.out];rfl,hb⟩
 | false =>
  rw[h6] at hc6
  go_enter func161,ntmps161
  subst hw1
  go_wp2
  go_loop [3] (fun i=>∃k:Nat,4≤k∧k≤16∧i=.int .i64 k∧∀j,4≤j→j < k→a.b.getD j 0=0) (fun i=>16 - (intOf i).toNat)
  case atStart=>exact⟨4,by omega,by omega,rfl,fun j h1 h2=>by omega⟩
  case round =>
   obtain⟨k,h4,hk,rfl,hz⟩:=hrel
   by_cases hlt:k < 16
   ·have hcb:=c0P h hr k hlt
    by_cases h0:a.b.getD k 0=0
    ·have HZ:=f1D (show ∀j,4≤j→j < k+1→a.b.getD j 0=0 from fun j h1 h2=>by
      by_cases e:j=k
      ·rw[e];exact h0
      ·exact hz j h1 (by omega))
     rw[h0] at hcb
     clear hz h0 hr
     go_wp2
     go_round
     case rel=>exact⟨k+1,by omega,by omega,by go_num,HZ.out⟩
     case measure=>simp[intOf];omega
    ·have HC:=f1D (s0M a h h6 k h4 hlt h0)
     have h0':(((a.b.getD k 0).toNat:Int)==0)=false:=by
      rw[beq_eq_false_iff_ne]
      intro he
      exact h0 (UInt8.toNat_inj.1 (by show (a.b.getD k 0).toNat=0;omega))
     generalize a.b.getD k 0=x at *
     clear hz h0 hr
     go_wp2
     go_ret
     exact⟨by rw[HC.out];rfl,hb⟩
   ·obtain rfl:k=16:=by omega
    have HC:=f1D (q0a a h hz)
    clear hz hr
    go_wp2
    go_ret
    exact⟨by rw[HC.out];rfl,hb⟩
theorem x0N (a:Adr) (h:a.Ok) (hc:b0h a=false) (w:World) :
  Calls prog 115 #[.agg (adrV a).toArray] w fun e w'=>e=.returned (.string (bstr (a0Y a)))∧Below w.heap.size w w':=by
 have HT:=f1D (show a0Y a=[] by unfold a0Y;rw[hc];rfl)
 obtain⟨w1,hw1⟩:∃w1,w1=w.alloc (.cells (adrV a).toArray 67):=⟨_,rfl⟩
 have hr:Row w1 w.heap.size 67 (adrV a):=by rw[hw1];exact Row.new w _ _
 have hb:Below w.heap.size w w1:=by rw[hw1];exact (Below.refl _ w).alloc (f1F _) _
 have hchk:=f1D (f0Z a h)
 have hT:=a0i hr
 obtain⟨V,hV⟩:∃V,V=adrV a:=⟨_,rfl⟩
 have hl:=f1D (show (prog.info? 67).map (·.size)=some V.length by rw[hV,a0m h,b0b])
 rw[←hV] at hw1 hchk hT ⊢
 rw[hc] at hchk
 clear hV hr
 go_enter func115,ntmps115
 subst hw1
 go_wp2_with (first
  | (with_reducible refine wpList_load_mid rfl 67 (.tmp 1) rfl w.heap.size 0 rfl V _ hT underlying67 rfl hl.out ?_)
  | (go_at_call 161;refine (hchk.out _).mono ?_;rintro e w2 ⟨rfl,hb2⟩;have hb3:=hb.trans (hb2.mono hb.size)))
 go_ret
 exact⟨by rw[HT.out];rfl,hb3⟩
theorem u0q (a:Adr) (h:a.Ok) (hc:b0h a=true) (h6:a.v6=false) (w:World) :
  Calls prog 115 #[.agg (adrV a).toArray] w fun e w'=>e=.returned (.string (bstr (a0Y a)))∧Below w.heap.size w w':=by
 obtain⟨w1,hw1⟩:∃w1,w1=w.alloc (.cells (adrV a).toArray 67):=⟨_,rfl⟩
 have hr:Row w1 w.heap.size 67 (adrV a):=by rw[hw1];exact Row.new w _ _
 have hb:Below w.heap.size w w1:=by rw[hw1];exact (Below.refl _ w).alloc (f1F _) _
 have hchk:=f1D (f0Z a h)
 have hT:=a0i hr
 have hrl:=fun w' (h:Below w1.heap.size w1 w')=>hr.later h hr.lt
 have hD:∀k,k < 4→∃x:UInt8,a.b.getD k 0=x:=fun k _=>⟨_,rfl⟩
 have HT:=f1D (show a0Y a=numL 10 (a.b.getD 0 0).toNat++[46]++numL 10 (a.b.getD 1 0).toNat++[46]++numL 10 (a.b.getD 2 0).toNat++[46]++numL 10 (a.b.getD 3 0).toNat by unfold a0Y;rw[hc,h6];simp)
 have hE0:=f1D (fun w' (hq:Below w1.heap.size w1 w')=>c0P h (hrl w' hq) 0 (by omega))
 have hE1:=f1D (fun w' (hq:Below w1.heap.size w1 w')=>c0P h (hrl w' hq) 1 (by omega))
 have hE2:=f1D (fun w' (hq:Below w1.heap.size w1 w')=>c0P h (hrl w' hq) 2 (by omega))
 have hE3:=f1D (fun w' (hq:Below w1.heap.size w1 w')=>c0P h (hrl w' hq) 3 (by omega))
 have hE6:=f1D (fun w' (hq:Below w1.heap.size w1 w')=>j0R (hrl w' hq))
 rw[h6] at hE6
 obtain⟨V,hV⟩:∃V,V=adrV a:=⟨_,rfl⟩
 have hl:=f1D (show (prog.info? 67).map (·.size)=some V.length by rw[hV,a0m h,b0b])
 rw[←hV] at hw1 hchk hT ⊢
 rw[hc] at hchk
 clear hV hr hrl hD
 have hn0:=f1D (fun w'=>f0K (a.b.getD 0 0).toNat (a.b.getD 0 0).toNat w' (f1F _) (by have:=(a.b.getD 0 0).toNat_lt;omega))
 have hl0:=b0k 10 (by omega) 2 (a.b.getD 0 0).toNat (by have:=(a.b.getD 0 0).toNat_lt;omega)
 generalize a.b.getD 0 0=x0 at *
 generalize numL 10 x0.toNat=X0 at *
 have hz0:(bstr X0).size=X0.length:=a0c _
 have hv0:IntKind.i64.wrap (x0.toNat:Int)=(x0.toNat:Int):=by rw[IntKind.wrap_i64];have:=x0.toNat_lt;omega
 have hn1:=f1D (fun w'=>f0K (a.b.getD 1 0).toNat (a.b.getD 1 0).toNat w' (f1F _) (by have:=(a.b.getD 1 0).toNat_lt;omega))
 have hl1:=b0k 10 (by omega) 2 (a.b.getD 1 0).toNat (by have:=(a.b.getD 1 0).toNat_lt;omega)
 generalize a.b.getD 1 0=x1 at *
 generalize numL 10 x1.toNat=X1 at *
 have hz1:(bstr X1).size=X1.length:=a0c _
 have hv1:IntKind.i64.wrap (x1.toNat:Int)=(x1.toNat:Int):=by rw[IntKind.wrap_i64];have:=x1.toNat_lt;omega
 have hn2:=f1D (fun w'=>f0K (a.b.getD 2 0).toNat (a.b.getD 2 0).toNat w' (f1F _) (by have:=(a.b.getD 2 0).toNat_lt;omega))
 have hl2:=b0k 10 (by omega) 2 (a.b.getD 2 0).toNat (by have:=(a.b.getD 2 0).toNat_lt;omega)
 generalize a.b.getD 2 0=x2 at *
 generalize numL 10 x2.toNat=X2 at *
 have hz2:(bstr X2).size=X2.length:=a0c _
 have hv2:IntKind.i64.wrap (x2.toNat:Int)=(x2.toNat:Int):=by rw[IntKind.wrap_i64];have:=x2.toNat_lt;omega
 have hn3:=f1D (fun w'=>f0K (a.b.getD 3 0).toNat (a.b.getD 3 0).toNat w' (f1F _) (by have:=(a.b.getD 3 0).toNat_lt;omega))
 have hl3:=b0k 10 (by omega) 2 (a.b.getD 3 0).toNat (by have:=(a.b.getD 3 0).toNat_lt;omega)
 generalize a.b.getD 3 0=x3 at *
 generalize numL 10 x3.toNat=X3 at *
 have hz3:(bstr X3).size=X3.length:=a0c _
 have hv3:IntKind.i64.wrap (x3.toNat:Int)=(x3.toNat:Int):=by rw[IntKind.wrap_i64];have:=x3.toNat_lt;omega
 go_enter func115,ntmps115
 subst hw1
 go_wp2_with (first
  | (with_reducible refine wpList_load_mid rfl 67 (.tmp 1) rfl w.heap.size 0 rfl V _ hT underlying67 rfl hl.out ?_)
  | (go_at_call 161;refine (hchk.out _).mono ?_;rintro e w2 ⟨rfl,hb2⟩;have h6c:=hE6.out _ hb2))
 have hE0:∀w',Below w2.heap.size w2 w'→w'.cell? ⟨w.heap.size,1,none⟩=some (.int .u8 (x0.toNat:Int)):=fun w' hq=>hE0.out w' (hb2.trans (hq.mono hb2.size))
 have hE1:∀w',Below w2.heap.size w2 w'→w'.cell? ⟨w.heap.size,2,none⟩=some (.int .u8 (x1.toNat:Int)):=fun w' hq=>hE1.out w' (hb2.trans (hq.mono hb2.size))
 have hE2:∀w',Below w2.heap.size w2 w'→w'.cell? ⟨w.heap.size,3,none⟩=some (.int .u8 (x2.toNat:Int)):=fun w' hq=>hE2.out w' (hb2.trans (hq.mono hb2.size))
 have hE3:∀w',Below w2.heap.size w2 w'→w'.cell? ⟨w.heap.size,4,none⟩=some (.int .u8 (x3.toNat:Int)):=fun w' hq=>hE3.out w' (hb2.trans (hq.mono hb2.size))
 have hb2:=hb.trans (hb2.mono hb.size)
 clear hT hb
 refine wp_region_noPanic ?_
 refine wp_region_held_drew (S:=fun w'=>Below w2.heap.size w2 w') (by kernel_rfl) ((Below.refl _ _).drew) (fun hHeld=>?_)
 have hB:=hHeld
 refine rt 0 14 hHeld ?_
 refine rt 1 15 hHeld ?_
 refine rt 2 16 hHeld ?_
 refine rt 3 17 hHeld ?_
 refine rt 6 20 hHeld ?_
 refine rt 7 21 hHeld ?_
 refine rt 8 22 hHeld ?_
 refine rt 9 23 hHeld ?_
 refine rt 13 27 hHeld ?_
 refine rt 14 28 hHeld ?_
 refine rt 15 29 hHeld ?_
 refine rt 16 30 hHeld ?_
 refine rt 20 34 hHeld ?_
 refine rt 21 35 hHeld ?_
 refine rt 22 36 hHeld ?_
 refine rt 23 37 hHeld ?_
 refine rc1 4 fun K hK=>?_
 go_simp
 refine (hn0.out _).mono ?_;rintro e ww24 ⟨rfl,hqw24⟩
 try go_wp2_with fail
 refine hK.out _ _ (hHeld.trans (hqw24.mono hHeld.size)) (fun hHeld'=>?_)
 clear hK K
 have hB:=a0a hB hqw24
 have hB4:Below ww24.heap.size ww24 ww24:=Below.refl _ _
 refine a0f (S':=fun w'=>Below ww24.heap.size ww24 w') (fun _ h=>(hHeld.trans (hqw24.mono hHeld.size)).trans (h.mono (hHeld.trans (hqw24.mono hHeld.size)).size)) _ _ _ _ ?_
 clear hHeld
 have hHeld:Below ww24.heap.size ww24 ww24:=Below.refl _ _
 refine rt 5 19 hHeld ?_ (hy:=by intro w hS;go_simp;rw[if_neg (by (try simp only[ByteArray.size_append,hz0,hz1,hz2,hz3]);(try simp only[show ByteArray.size { data:=#[46] }=1 from rfl]);omega)])
 refine rc1 10 fun K hK=>?_
 go_simp
 refine (hn1.out _).mono ?_;rintro e ww210 ⟨rfl,hqw210⟩
 try go_wp2_with fail
 refine hK.out _ _ (hHeld.trans (hqw210.mono hHeld.size)) (fun hHeld'=>?_)
 clear hK K
 have hB:=a0a hB hqw210
 have hB4:=a0a hB4 hqw210
 have hB10:Below ww210.heap.size ww210 ww210:=Below.refl _ _
 refine a0f (S':=fun w'=>Below ww210.heap.size ww210 w') (fun _ h=>(hHeld.trans (hqw210.mono hHeld.size)).trans (h.mono (hHeld.trans (hqw210.mono hHeld.size)).size)) _ _ _ _ ?_
 clear hHeld
 have hHeld:Below ww210.heap.size ww210 ww210:=Below.refl _ _
 refine rt 11 25 hHeld ?_ (hy:=by intro w hS;go_simp;rw[if_neg (by (try simp only[ByteArray.size_append,hz0,hz1,hz2,hz3]);(try simp only[show ByteArray.size { data:=#[46] }=1 from rfl]);omega)])
 refine rt 12 26 hHeld ?_ (hy:=by intro w hS;go_simp;rw[if_neg (by (try simp only[ByteArray.size_append,hz0,hz1,hz2,hz3]);(try simp only[show ByteArray.size { data:=#[46] }=1 from rfl]);omega)])
 refine rc1 17 fun K hK=>?_
 go_simp
 refine (hn2.out _).mono ?_;rintro e ww217 ⟨rfl,hqw217⟩
 try go_wp2_with fail
 refine hK.out _ _ (hHeld.trans (hqw217.mono hHeld.size)) (fun hHeld'=>?_)
 clear hK K
 have hB:=a0a hB hqw217
 have hB4:=a0a hB4 hqw217
 have hB10:=a0a hB10 hqw217
 have hB17:Below ww217.heap.size ww217 ww217:=Below.refl _ _
 refine a0f (S':=fun w'=>Below ww217.heap.size ww217 w') (fun _ h=>(hHeld.trans (hqw217.mono hHeld.size)).trans (h.mono (hHeld.trans (hqw217.mono hHeld.size)).size)) _ _ _ _ ?_
 clear hHeld
 have hHeld:Below ww217.heap.size ww217 ww217:=Below.refl _ _
 refine rt 18 32 hHeld ?_ (hy:=by intro w hS;go_simp;rw[if_neg (by (try simp only[ByteArray.size_append,hz0,hz1,hz2,hz3]);(try simp only[show ByteArray.size { data:=#[46] }=1 from rfl]);omega)])
 refine rt 19 33 hHeld ?_ (hy:=by intro w hS;go_simp;rw[if_neg (by (try simp only[ByteArray.size_append,hz0,hz1,hz2,hz3]);(try simp only[show ByteArray.size { data:=#[46] }=1 from rfl]);omega)])
 refine rc1 24 fun K hK=>?_
 go_simp
 refine (hn3.out _).mono ?_;rintro e ww224 ⟨rfl,hqw224⟩
 try go_wp2_with fail
 refine hK.out _ _ (hHeld.trans (hqw224.mono hHeld.size)) (fun hHeld'=>?_)
 clear hK K
 have hB:=a0a hB hqw224
 have hB4:=a0a hB4 hqw224
 have hB10:=a0a hB10 hqw224
 have hB17:=a0a hB17 hqw224
 have hB24:Below ww224.heap.size ww224 ww224:=Below.refl _ _
 refine a0f (S':=fun w'=>Below ww224.heap.size ww224 w') (fun _ h=>(hHeld.trans (hqw224.mono hHeld.size)).trans (h.mono (hHeld.trans (hqw224.mono hHeld.size)).size)) _ _ _ _ ?_
 clear hHeld
 have hHeld:Below ww224.heap.size ww224 ww224:=Below.refl _ _
 refine rt 25 39 hHeld ?_ (hy:=by intro w hS;go_simp;rw[if_neg (by (try simp only[ByteArray.size_append,hz0,hz1,hz2,hz3]);(try simp only[show ByteArray.size { data:=#[46] }=1 from rfl]);omega)])
 refine rt 26 2 hHeld ?_
 refine wpAnyH_done (by kernel_rfl) ?_ _
 refine NoPanic.normal ?_
 have hBe:=hb2.trans (hB.mono hb2.size)
 clear hHeld
 go_wp2
 go_ret
 exact⟨by rw[HT.out];simp only[←a0x];rfl,hBe⟩
end Go.Proofs.YtcbilopdeiapjaaGreatDoor
