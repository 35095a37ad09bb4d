import Derived.Test.YtcbilopdeiapjaaGreatDoorRgbe
set_option maxHeartbeats 16000000
set_option maxRecDepth 100000
open Go.Proofs.Tryz
namespace Go.Proofs.YtcbilopdeiapjaaGreatDoor
open Go Go.RowKit
def Rowf (w:World) (g:Nat) (t:TypeId) (fr:Nat×Nat) (xs:List Value):Prop:=w.heap[g]?=some (.cells xs.toArray t fr)
theorem Rowf.lt {w:World} {g t:Nat} {fr:Nat×Nat} {xs:List Value} (h:Rowf w g t fr xs):g < w.heap.size:=by
 unfold Rowf at h
 exact (Array.getElem?_eq_some_iff.1 h).1
theorem Rowf.cell {w:World} {g t:Nat} {fr:Nat×Nat} {xs:List Value} (h:Rowf w g t fr xs) (i:Nat):w.cell? ⟨g,i,none⟩=xs[i]?:=by
 rw[cell_of_row w g i _ t fr h];simp
theorem Rowf.free {w:World} {g t:Nat} {fr:Nat×Nat} {xs:List Value} (h:Rowf w g t fr xs) (i:Nat) (hi:fr.2≤fr.1∨i < fr.1):w.frozen? ⟨g,i,none⟩=false:=by
 unfold Rowf at h
 simp only[World.frozen?,h]
 rw[Bool.and_eq_false_iff]
 rcases Nat.lt_or_ge i fr.1 with h1 | h1
 ·exact .inl (decide_eq_false (by omega))
 ·exact .inr (decide_eq_false (by omega))
theorem Rowf.set {w:World} {g t:Nat} {fr:Nat×Nat} {xs:List Value} (h:Rowf w g t fr xs) (i:Nat) (v:Value):Rowf (w.setCell ⟨g,i,none⟩ v) g t fr (xs.set i v):=by
 unfold Rowf at h ⊢
 rw[show (xs.set i v).toArray=xs.toArray.setIfInBounds i v by simp]
 simp[World.setCell,Array.getElem?_modify,h]
theorem Rowf.drew {w:World} {g t:Nat} {fr:Nat×Nat} {xs:List Value} (h:Rowf w g t fr xs):Rowf w.drew g t fr xs:=h
theorem Rowf.later {w w':World} {g t:Nat} {fr:Nat×Nat} {xs:List Value} {B:Nat} (h:Rowf w g t fr xs) (hb:Below B w w') (hg:g < B):Rowf w' g t fr xs:=by
 unfold Rowf at h ⊢
 rw[hb.block g hg];exact h
theorem Rowf.grown {w w':World} {g k t:Nat} {fr:Nat×Nat} {xs:List Value} (h:Rowf w g t fr xs) (hg:w.grownBy w' (some k)) (hne:g≠k):Rowf w' g t fr xs:=by
 have hl:=h.lt
 unfold Rowf at h ⊢
 rw[hg.block g hl (fun e=>hne (Option.some.inj e))];exact h
theorem Rd.rowf {w:World} {g t:Nat} {fr:Nat×Nat} {xs ys:List Value} (h:Rowf w g t fr (xs++ys)):Rd w (some ⟨g,0,none⟩) xs :=
 .inr ⟨g,0,rfl,h.lt,fun i hi=>by rw[Nat.zero_add,h.cell,List.getElem?_append_left hi]⟩
theorem p0G (a b:List UInt8) (k:Nat) (ha:k < a.length) (hb:k < b.length):(c0N (a.take k) (b.take k)++a.drop k).set k (a.getD k 0 ^^^ b.getD k 0)=c0N (a.take (k+1)) (b.take (k+1))++a.drop (k+1):=by
 have hl:(c0N (a.take k) (b.take k)).length=k:=by rw[d0z _ _ (by rw[List.length_take,List.length_take];omega),List.length_take];omega
 rw[p0L a b k ha hb,List.set_append_right _ _ (by omega),hl,Nat.sub_self,List.drop_eq_getElem_cons ha,List.set_cons_zero,List.append_assoc]
 rfl
theorem d1f (a b:List UInt8) (k:Nat) (ha:k < a.length) (hb:k < b.length):(c0N (a.take k) (b.take k)++a.drop k).getD k 0=a.getD k 0:=by
 have hl:(c0N (a.take k) (b.take k)).length=k:=by rw[d0z _ _ (by rw[List.length_take,List.length_take];omega),List.length_take];omega
 rw[List.getD_eq_getElem?_getD,List.getElem?_append_right (by omega),hl,Nat.sub_self,List.getElem?_drop,Nat.add_zero,List.getD_eq_getElem?_getD]
theorem a1U (a b:List UInt8) (k:Nat) (ha:k≤a.length) (hb:k≤b.length):(c0N (a.take k) (b.take k)++a.drop k).length=a.length:=by
 rw[List.length_append,d0z _ _ (by rw[List.length_take,List.length_take];omega),List.length_take,List.length_drop];omega
theorem t0i {a b c:World} {row:Option Nat} {t:Nat} (h:a.grownBy b row) (k:b.grownBy c (some t)) (ht:a.heap.size≤t):a.grownBy c row :=
 ⟨k.os.trans h.os,k.tape.trans h.tape,k.output.trans h.output,Nat.le_trans h.size k.size,fun i hi hne=>(k.block i (Nat.lt_of_lt_of_le hi h.size) (fun e=>by cases e;omega)).trans (h.block i hi hne)⟩
theorem v0M (key nonce:List UInt8) (hk:key.length=32) (hn:nonce.length=32) (l:List UInt8) (hm:l.length < 9223372036854775808) (ys:List Value) (g n c:Nat) (fr:Nat×Nat) (hfr:fr.2≤fr.1∨l.length≤fr.1) (hnl:n=l.length) (w0 w:World) (hT0:Tabs w0) (hb0:Below w0.heap.size w0 w) (hg0:w0.heap.size≤g) (hrow:Rowf w g 5 fr (byts l++ys)) :
  Calls prog 57 #[.agg (byts key).toArray,.agg (byts nonce).toArray,.slice (some ⟨g,0,none⟩) n c] w fun e w'=>e=.returned (.tuple #[])∧w.grownBy w' (some g)∧Rowf w' g 5 fr (byts (p0F key nonce l)++ys):=by
 have hglt:=hrow.lt
 obtain⟨K,hK⟩:∃K,K=byts key:=⟨_,rfl⟩
 have hKl:K.length=32:=by rw[hK,a0b];exact hk
 have hszL:=f1D (show (prog.info? 23).map (·.size)=some K.length by rw[a0t,hKl])
 obtain⟨M,hM⟩:∃M,M=byts nonce:=⟨_,rfl⟩
 have HM:=f1D hM
 obtain⟨X,hX⟩:∃X,X=i0L key nonce l.length:=⟨_,rfl⟩
 have HXl:=f1D (show X.length=l.length by rw[hX];exact h0o _ _ _)
 have HX:=f1D hX
 have hnumA:=f1D (show ∀q w1,Calls prog 61 #[.int .u64 ((q:Nat):Int)] w1 (a0H (b0j q) w1) from fun q w1=>i0G q w1)
 have hkeyA:=f1D (show ∀q w1 B d,Tabs w1→Sl w1 B d (a0F [nonce,b0j q])→Calls prog 22 #[.agg K.toArray,.string (bstr n0o),.slice B 2 d] w1 fun e w'=>e=.returned (.agg (byts (h0K key nonce q)).toArray)∧Below w1.heap.size w1 w' by
  rw[hK]
  exact fun q w1 B d hT h=>g0U key hk n0o B 2 d [nonce,b0j q] w1 hT h rfl (by show (6+1)+((nonce.length+1)+(((b0j q).length+1)+0))≤_;rw[b0a,hn];decide))
 have HN:=f1D hn
 have HNL:=f1D hnl
 rw[←hK,←hM]
 clear hK hKl hM hk hn hX hnl
 go_enter func57,ntmps57
 go_wp2_with fail
 generalize hw3:World.alloc (World.alloc (World.alloc w _) _) _=w3
 obtain⟨r0,r1,rT,hb3,hs3⟩:=i0i (A:=K) (B:=M) (C:=List.replicate 32 (.int .u8 0)) hw3
 have rg:=hrow.later hb3 hglt
 rw[m0p] at rT
 clear hw3 hs3 hrow
 go_wp2_with fail
 go_loopw [10] (fun i wr=>∃k:Nat,k≤l.length∧i=.int .i64 k∧Rowf wr g 5 fr (byts (c0N (l.take k) (X.take k)++l.drop k)++ys)∧Row wr w.heap.size 23 K∧Row wr (w.heap.size+1) 23 M∧(∃T:List UInt8,T.length=32∧Row wr (w.heap.size+1+1) 23 (byts T)∧(k%32≠0→T=h0K key nonce (k/32)))∧w.grownBy wr (some g)) (fun i _=>l.length - (intOf i).toNat)
 case atStart=>exact⟨0,by omega,rfl,rg,r0,r1,⟨d1m,rfl,rT,fun h=>absurd rfl h⟩,a0r hb3 _⟩
 case round =>
  clear r0 r1 rT hb3 rg
  obtain⟨k,hk,rfl,rg,r0,r1,⟨T,hTl,rT,hT⟩,hg⟩:=hrel
  by_cases hlt:k < l.length
  ·have hlt':k < n:=by rw[HNL.out];exact hlt
   obtain⟨r,hrk⟩:∃r,r=k%32:=⟨_,rfl⟩
   have hr:r < 32:=by omega
   have hrem:(k:Int)%(32:Int)=(r:Int):=by rw[hrk];omega
   have hk32:=f1D hrk
   have hT:=fun h:r≠0=>hT (by rw[←hrk];exact h)
   have hgne:g≠w.heap.size+1+1:=by omega
   obtain⟨P,hP⟩:∃P,P=c0N (l.take k) (X.take k)++l.drop k:=⟨_,rfl⟩
   have HPl:=f1D (show P.length=l.length by rw[hP];exact a1U l X k (by omega) (by rw[HXl.out];omega))
   have HPk:=f1D (show P.getD k 0=l.getD k 0 by rw[hP];exact d1f l X k hlt (by rw[HXl.out];omega))
   have HP:=f1D hP
   have hTr:Tabs wr:=hT0.later (hb0.grown hg hb0.size (fun k h=>by cases h;exact hg0)) (f1F _)
   rw[←hP] at rg
   clear hrk hP
   by_cases h0:r=0
   ·have HR:=f1D hrem
    have hrem0:(k:Int)%(32:Int)=0:=by rw[hrem,h0];rfl
    clear hrem h0 hT
    obtain⟨q,hq⟩:∃q,q=k/32:=⟨_,rfl⟩
    have hquo:(k:Int)/(32:Int)=(q:Int):=by rw[hq];omega
    have hqw:IntKind.i64.wrap (q:Int)=(q:Int):=by rw[IntKind.wrap_i64];omega
    have hwr:IntKind.u64.wrap (q:Int)=(q:Int):=by rw[IntKind.wrap_u64];omega
    obtain⟨T',hT'⟩:∃T',T'=h0K key nonce q:=⟨_,rfl⟩
    obtain⟨V,hV⟩:∃V,V=byts T':=⟨_,rfl⟩
    have hTl':T'.length=32:=by rw[hT'];exact m0M _ _ _
    have hVl:V.length=32:=by rw[hV,a0b];exact hTl'
    obtain⟨E,hE⟩:∃E,E=b0j q:=⟨_,rfl⟩
    have hnum:=f1D (show ∀w1,Calls prog 61 #[.int .u64 (q:Int)] w1 (a0H E w1) by rw[hE];exact hnumA.out q)
    have hkey:=f1D (show ∀w1 B d,Tabs w1→Sl w1 B d (a0F [nonce,E])→Calls prog 22 #[.agg K.toArray,.string (bstr n0o),.slice B 2 d] w1 fun e w'=>e=.returned (.agg V.toArray)∧Below w1.heap.size w1 w' by
     rw[hV,hT',hE];exact hkeyA.out q)
    have hone:=f1D (show ∀v∈V,v.oneCell'=true by rw[hV];exact a0o _)
    have hszl:=f1D (show (prog.info? 23).map (·.size)=some V.length by rw[a0t,hVl])
    have hfit:=f1D (show 0+V.length≤(byts T).length by rw[hVl,a0b,hTl];decide)
    have HVr:=f1D (show splice (byts T) 0 V=V by
     unfold splice
     rw[List.take_zero,List.nil_append,Nat.zero_add,hVl,List.drop_of_length_le (by rw[a0b,hTl];exact f1F _),List.append_nil])
    have HV:=f1D hV
    have HT':=f1D (show T'=h0K key nonce (k/32) by rw[hT',hq])
    have HK1:=f1D (show (k+1)%32≠0→T'=h0K key nonce ((k+1)/32) from fun _=>by rw[hT',hq,show (k+1)/32=k/32 by have:=hk32.out;have:=HR.out;omega])
    have ne0:w.heap.size≠w.heap.size+1+1:=by omega
    have hcv3:=i0w (g:=w.heap.size+1+1) (w:=wr) (A:=some ⟨w.heap.size+1,0,none⟩) (c:=32) (l:=nonce) ⟨Rd.row (ys:=[]) (by rw[List.append_nil,←HM.out];exact r1),by rw[a0b,HN.out];exact f1F _,fun h=>by cases h⟩ 32 HN.out.symm (fun _ a ha=>by cases ha;show w.heap.size+1≠_;omega)
    clear hV hVl hT' hE hr hq
    go_wp2_with fail
    refine wp_region_noPanic ?_
    refine wp_region_held_drew (S:=fun w'=>World.grownBy wr w' (some (w.heap.size+1+1))) (by kernel_rfl) (a0r (Below.refl _ _).drew _) (fun hHeld=>?_)
    have hAll:=hHeld
    refine rt 0 16 hHeld ?_ (hy:=by intro w hS;exact a0s 23 (.tmp 3) rfl _ 0 rfl K _ (a0i (r0.grown hS ne0)) underlying23 rfl hszL.out)
    refine rt 1 17 hHeld ?_
    refine rt 2 18 hHeld ?_
    refine rt 3 19 hHeld ?_
    refine rt 4 20 hHeld ?_
    refine rt 5 21 hHeld ?_
    refine rc1 6 fun K hK=>?_
    go_simp
    refine (hnum.out _).mono ?_;rintro e w4 ⟨v4,rfl,hown4,hb4⟩;have hb34:=((Below.refl wr.heap.size wr).drew).trans (hb4.mono (f1F _));obtain⟨A4,c4,rfl,_,hsl4⟩:=Sl.of_own hown4;have hcv4:=i0w (g:=w.heap.size+1+1) hsl4 _ rfl (fun _ a ha=>h0Z hown4 rT.lt a ha);clear hown4
    try go_wp2_with fail
    refine hK.out _ _ (a0k hHeld (a0r hb4 _)) (fun _=>?_)
    clear hK K
    have hAll:=a0k hAll (a0r hb4 _)
    refine a0f (S':=fun w'=>World.grownBy w4 w' (some (w.heap.size+1+1))) (fun _ h=>a0k (a0k hHeld (a0r hb4 _)) h) _ _ _ _ ?_
    clear hHeld
    have hHeld:World.grownBy w4 w4 (some (w.heap.size+1+1)):=c0Q _ _
    refine rt 7 23 hHeld ?_
    refine rc1 8 fun K hK=>?_
    refine b0q (some 24) rfl (by rfl) (.slice (some ⟨w4.heap.size,0,none⟩) 2 2) (.cells #[.string (bstr nonce),.string (bstr E)] 9) (by go_simp) ?_;intro w5 hw5 hb5;have hb35:=a0a hb34 hb5;have hss:Sl w5 (some ⟨w4.heap.size,0,none⟩) 2 (a0F [nonce,E]):=(by rw[hw5];exact⟨Rd.row (ys:=[]) (by rw[List.append_nil];exact Row.new w4 9 (a0F [nonce,E])),by rw[a0w];exact f1F _,fun h=>by cases h⟩);clear hw5
    refine rk hK (a0k hHeld (a0r hb5 _)) fun _=>?_
    clear hK K
    have hAll:=a0k hAll (a0r hb5 _)
    refine a0f (S':=fun w'=>World.grownBy w5 w' (some (w.heap.size+1+1))) (fun _ h=>a0k (a0k hHeld (a0r hb5 _)) h) _ _ _ _ ?_
    clear hHeld
    have hHeld:World.grownBy w5 w5 (some (w.heap.size+1+1)):=c0Q _ _
    refine rc1 9 fun K hK=>?_
    go_simp
    refine (hkey.out _ _ _ (hTr.later hb35 (f1F _)) hss).mono ?_;rintro e w6 ⟨rfl,hb6⟩;have hb36:=a0a hb35 hb6
    try go_wp2_with fail
    refine hK.out _ _ (a0k hHeld (a0r hb6 _)) (fun _=>?_)
    clear hK K
    have hAll:=a0k hAll (a0r hb6 _)
    refine a0f (S':=fun w'=>World.grownBy w6 w' (some (w.heap.size+1+1))) (fun _ h=>a0k (a0k hHeld (a0r hb6 _)) h) _ _ _ _ ?_
    clear hHeld
    have hHeld:World.grownBy w6 w6 (some (w.heap.size+1+1)):=c0Q _ _
    refine rc1 10 fun K hK=>?_
    refine a0R none rfl (by rfl) 23 (.tmp 6) (.tmp 25) rfl (w.heap.size+1+1) 0 23 _ V rfl rfl (rT.later hb36 rT.lt) hfit.out hszl.out hone.out ?_;intro w9 r9 hg9
    refine hK.out _ _ (a0k hHeld hg9) (fun _=>?_)
    clear hK K
    rw[a0u]
    have hAll:=a0k hAll hg9
    refine a0f (S':=fun w'=>World.grownBy w9 w' (some (w.heap.size+1+1))) (fun _ h=>a0k (a0k hHeld hg9) h) _ _ _ _ ?_
    clear hHeld
    have hHeld:World.grownBy w9 w9 (some (w.heap.size+1+1)):=c0Q _ _
    refine wpAnyH_done (by kernel_rfl) ?_ _
    refine NoPanic.normal ?_
    have r9:Row w9 (w.heap.size+1+1) 23 V:=by rw[HVr.out] at r9;exact r9
    rw[HV.out] at r9
    have hb3:=hb36
    have r0':=(r0.later hb36 r0.lt).grown hg9 ne0
    have r1':=(r1.later hb36 r1.lt).grown hg9 (by omega)
    have rg':=(rg.later hb36 rg.lt).grown hg9 hgne
    have hg':w.grownBy w9 (some g):=t0i hg hAll (by omega)
    have hr:r < 32:=by have:=hk32.out;omega
    have hTl:=hTl'
    have hT:=HT'.out
    have hrem:=HR.out
    clear hb36 hb35 hb34 hb4 hb5 hb6 hcv4 hcv3 hss hsl4 hg9 hAll hHeld rT rg r0 r1 hTr hnum hkey hone hszl hfit HVr HV HT' HR hrem0 hquo hqw hwr
    generalize T'=T at *
    have hcb:w9.cell? ⟨g,k,none⟩=some (.int .u8 ((l.getD k 0).toNat:Int)):=by
     rw[rg'.cell,List.getElem?_append_left (by rw[a0b,HPl.out];exact hlt),c0d _ _ (by rw[HPl.out];exact hlt),HPk.out]
    have hfb:w9.frozen? ⟨g,k,none⟩=false:=rg'.free k (by omega)
    have hct:w9.cell? ⟨w.heap.size+1+1,r,none⟩=some (.int .u8 ((T.getD r 0).toNat:Int)):=by rw[r9.cell,c0d _ _ (by rw[hTl];exact hr)]
    have HT:=f1D (show T.getD r 0=X.getD k 0 by rw[hT,HX.out,i0S _ _ _ _ hlt,←hk32.out])
    have HS:=f1D (show (P.set k (l.getD k 0 ^^^ T.getD r 0))=c0N (l.take (k+1)) (X.take (k+1))++l.drop (k+1) by rw[HT.out,HP.out];exact p0G l X k hlt (by rw[HXl.out];exact hlt))
    generalize T.getD r 0=y at *
    generalize l.getD k 0=x at *
    have hx:=f0P x y
    have hrr:(r:Int) < 32:=by omega
    have htm:(k:Int).tmod 32=(r:Int):=by rw[Int.tmod_eq_emod_of_nonneg (by omega)];exact hrem
    have hixg:=o0s (some ⟨g,0,none⟩) g n c k rfl hlt'
    clear hT
    go_wp2_with fail
    refine wp_region_noPanic ?_
    refine wp_region_held_drew (S:=fun w'=>w'.cell? ⟨w.heap.size+1+1,r,none⟩=some (.int .u8 (y.toNat:Int))) (by kernel_rfl) (hct) (fun hHeld=>?_)
    refine rt 0 26 hHeld ?_
    refine rt 1 27 hHeld ?_
    refine rt 2 28 hHeld ?_
    refine rt 4 30 hHeld ?_
    refine rt 5 31 hHeld ?_
    refine rt 6 32 hHeld ?_
    refine rt 7 33 hHeld ?_
    refine rc1 3 fun K hK=>?_
    go_simp
    refine hK.out _ _ (hHeld) (fun hHeld=>?_)
    clear hK K
    try (first | (rw[a0l];dsimp only[List.set]) | rw[a0u])
    refine rt 8 34 hHeld ?_
    refine rt 9 35 hHeld ?_
    refine rc1 10 fun K hK=>?_
    go_simp
    refine hK.out _ _ (by exact (World.cell?_setCell_far _ _ _ _ hgne).trans hct) (fun _=>?_)
    clear hK K
    try (first | (rw[a0l];dsimp only[List.set]) | rw[a0u])
    refine wpAnyH_done (by kernel_rfl) ?_ _
    refine NoPanic.normal ?_
    have rN:=(rg'.set k (.int .u8 ((x ^^^ y).toNat:Int))).drew
    rw[List.set_append_left _ _ (by rw[a0b,HPl.out];exact hlt),g0Q,HS.out,UInt8.toNat_xor] at rN
    have r0N:=(r0'.far ⟨g,k,none⟩ (.int .u8 ((x.toNat ^^^ y.toNat:Nat):Int)) (by show w.heap.size≠g;omega)).drew
    have r1N:=(r1'.far ⟨g,k,none⟩ (.int .u8 ((x.toNat ^^^ y.toNat:Nat):Int)) (by show w.heap.size+1≠g;omega)).drew
    have rTN:=(r9.far ⟨g,k,none⟩ (.int .u8 ((x.toNat ^^^ y.toNat:Nat):Int)) (by show w.heap.size+1+1≠g;omega)).drew
    have hgN:=a0k hg' (a0k (a0q w9 g k (.int .u8 ((x.toNat ^^^ y.toNat:Nat):Int))) (a0r (Below.refl _ _).drew _))
    generalize (w9.setCell ⟨g,k,none⟩ (.int .u8 ((x.toNat ^^^ y.toNat:Nat):Int))).drew=wN at *
    clear hcb hfb hct hx hixg rg' r9 r0' r1' HS HT
    go_wp2_with fail
    go_roundw
    case rel=>exact⟨k+1,by omega,by go_num,rN,r0N,r1N,⟨T,hTl,rTN,fun h=>HK1.out h⟩,hgN⟩
    case measure=>simp[intOf];omega
   ·have hr0:¬(r:Int)=0:=by omega
    have hT:=hT h0
    have HK1:=f1D (show (k+1)%32≠0→T=h0K key nonce ((k+1)/32) from fun h=>by rw[hT,show (k+1)/32=k/32 by have:=hk32.out;omega])
    have hcb:wr.cell? ⟨g,k,none⟩=some (.int .u8 ((l.getD k 0).toNat:Int)):=by
     rw[rg.cell,List.getElem?_append_left (by rw[a0b,HPl.out];exact hlt),c0d _ _ (by rw[HPl.out];exact hlt),HPk.out]
    have hfb:wr.frozen? ⟨g,k,none⟩=false:=rg.free k (by omega)
    have hct:wr.cell? ⟨w.heap.size+1+1,r,none⟩=some (.int .u8 ((T.getD r 0).toNat:Int)):=by rw[rT.cell,c0d _ _ (by rw[hTl];exact hr)]
    have HT:=f1D (show T.getD r 0=X.getD k 0 by rw[hT,HX.out,i0S _ _ _ _ hlt,←hk32.out])
    have HS:=f1D (show (P.set k (l.getD k 0 ^^^ T.getD r 0))=c0N (l.take (k+1)) (X.take (k+1))++l.drop (k+1) by rw[HT.out,HP.out];exact p0G l X k hlt (by rw[HXl.out];exact hlt))
    generalize T.getD r 0=y at *
    generalize l.getD k 0=x at *
    have hx:=f0P x y
    have hrr:(r:Int) < 32:=by omega
    have htm:(k:Int).tmod 32=(r:Int):=by rw[Int.tmod_eq_emod_of_nonneg (by omega)];exact hrem
    have hixg:=o0s (some ⟨g,0,none⟩) g n c k rfl hlt'
    clear hT
    go_wp2_with fail
    refine wp_region_noPanic ?_
    refine wp_region_held_drew (S:=fun w'=>w'.cell? ⟨w.heap.size+1+1,r,none⟩=some (.int .u8 (y.toNat:Int))) (by kernel_rfl) (hct) (fun hHeld=>?_)
    refine rt 0 26 hHeld ?_
    refine rt 1 27 hHeld ?_
    refine rt 2 28 hHeld ?_
    refine rt 4 30 hHeld ?_
    refine rt 5 31 hHeld ?_
    refine rt 6 32 hHeld ?_
    refine rt 7 33 hHeld ?_
    refine rc1 3 fun K hK=>?_
    go_simp
    refine hK.out _ _ (hHeld) (fun hHeld=>?_)
    clear hK K
    try (first | (rw[a0l];dsimp only[List.set]) | rw[a0u])
    refine rt 8 34 hHeld ?_
    refine rt 9 35 hHeld ?_
    refine rc1 10 fun K hK=>?_
    go_simp
    refine hK.out _ _ (by exact (World.cell?_setCell_far _ _ _ _ hgne).trans hct) (fun _=>?_)
    clear hK K
    try (first | (rw[a0l];dsimp only[List.set]) | rw[a0u])
    refine wpAnyH_done (by kernel_rfl) ?_ _
    refine NoPanic.normal ?_
    have rN:=(rg.set k (.int .u8 ((x ^^^ y).toNat:Int))).drew
    rw[List.set_append_left _ _ (by rw[a0b,HPl.out];exact hlt),g0Q,HS.out,UInt8.toNat_xor] at rN
    have r0N:=(r0.far ⟨g,k,none⟩ (.int .u8 ((x.toNat ^^^ y.toNat:Nat):Int)) (by show w.heap.size≠g;omega)).drew
    have r1N:=(r1.far ⟨g,k,none⟩ (.int .u8 ((x.toNat ^^^ y.toNat:Nat):Int)) (by show w.heap.size+1≠g;omega)).drew
    have rTN:=(rT.far ⟨g,k,none⟩ (.int .u8 ((x.toNat ^^^ y.toNat:Nat):Int)) (by show w.heap.size+1+1≠g;omega)).drew
    have hgN:=a0k hg (a0k (a0q wr g k (.int .u8 ((x.toNat ^^^ y.toNat:Nat):Int))) (a0r (Below.refl _ _).drew _))
    generalize (wr.setCell ⟨g,k,none⟩ (.int .u8 ((x.toNat ^^^ y.toNat:Nat):Int))).drew=wN at *
    clear hcb hfb hct hx hixg rg rT r0 r1 HS HT
    go_wp2_with fail
    go_roundw
    case rel=>exact⟨k+1,by omega,by go_num,rN,r0N,r1N,⟨T,hTl,rTN,fun h=>HK1.out h⟩,hgN⟩
    case measure=>simp[intOf];omega
  ·obtain rfl:k=l.length:=by omega
   rw[List.take_length,List.take_of_length_le (by rw[HXl.out];exact f1F _),List.drop_length,List.append_nil] at rg
   have hF:p0F key nonce l=c0N l X:=by rw[HX.out];rfl
   have hlt':¬(l.length:Int) < (n:Int):=by rw[HNL.out];omega
   rw[←hF] at rg
   clear hF r0 r1 rT hTl hT hlt hk HXl HX
   go_wp2
   go_end0
   exact⟨rfl,hg,rg⟩
theorem k0a (w:World) (l:List UInt8):∃c ys fr w',(convert 9 61 (.string (bstr l))).run prog w=.ok (.slice (some ⟨w.heap.size,0,none⟩) l.length c) w'∧Rowf w' w.heap.size 5 fr (byts l++ys)∧l.length≤fr.1∧l.length≤c∧Below w.heap.size w w':=by
 have h:=run_bytes_of_string (P:=prog) w 9 61 5 (bstr l) underlying9 underlying61 underlying5
 rw[a0c,h0N] at h
 exact⟨_,_,_,_,h,Go.heap_alloc_new w.drew _,by rw[List.size_toArray,List.length_append,a0b];omega,grownCap_ge w l.length 0 5,((Below.refl _ w).drew).alloc (f1F _) _⟩
theorem l0k {w:World} {ops:Array Oper} {rest:List Oper} {o:Oper} {a:Act} {Q:Exit→Act→World→Prop} (hgd:o.guard=none) (x:Operand)
  (ho:o.op=.convert 9 61 x) (l:List UInt8) (hx:a.eval x=.string (bstr l))
  (h:∀c ys fr w',Rowf w' w.heap.size 5 fr (byts l++ys)→l.length≤fr.1→l.length≤c→Below w.heap.size w w'→wpList prog ops Q rest (a.put o.dst (.slice (some ⟨w.heap.size,0,none⟩) l.length c)) w'):wpList prog ops Q (o :: rest) a w:=by
 refine wpList_plain hgd fun _ hK=>?_
 obtain⟨c,ys,fr,w',hrun,hs,hf,hc,hb⟩:=k0a w l
 unfold Oper.wp execOp
 simp only[ho,hx,hrun,Sem.run_bind,Sem.run_pure,Result.andThen_ok]
 exact hK _ _ (h _ _ _ _ hs hf hc hb)
theorem v0L (key nonce:List UInt8) (hk:key.length=32) (hn:nonce.length=32) (C:List UInt8) (hC:C.length≤900000000) (w:World) (hT:Tabs w) :
  Calls prog 34 #[.agg (byts key).toArray,.agg (byts nonce).toArray,.string (bstr C)] w fun e w'=>e=.returned (.agg (byts (l0c key nonce C)).toArray)∧Below w.heap.size w w':=by
 obtain⟨K,hK⟩:∃K,K=byts key:=⟨_,rfl⟩
 have hKl:K.length=32:=by rw[hK,a0b];exact hk
 have hszK:=f1D (show (prog.info? 23).map (·.size)=some K.length by rw[a0t,hKl])
 obtain⟨M,hM⟩:∃M,M=byts nonce:=⟨_,rfl⟩
 have HM:=f1D hM
 obtain⟨V,hV⟩:∃V,V=byts (l0c key nonce C):=⟨_,rfl⟩
 have hVl:V.length=32:=by rw[hV,a0b];exact f0u _ _ _
 have hone:=f1D (show ∀v∈V,v.oneCell'=true by rw[hV];exact a0o _)
 have hszl:=f1D (show (prog.info? 23).map (·.size)=some V.length by rw[a0t,hVl])
 have hsz2:=f1D (show (prog.info? 23).map (·.size)=some V.toArray.size by rw[a0t,List.size_toArray,hVl])
 have hfit:=f1D (show 0+V.length≤(List.replicate 32 (Value.int .u8 0)).length by rw[hVl,List.length_replicate];decide)
 have HVr:=f1D (show splice (List.replicate 32 (Value.int .u8 0)) 0 V=V by
  unfold splice
  rw[List.take_zero,List.nil_append,Nat.zero_add,hVl,List.drop_of_length_le (by rw[List.length_replicate];exact f1F _),List.append_nil])
 have hkey:=f1D (show ∀w1 B d,Tabs w1→Sl w1 B d (a0F [nonce,C])→Calls prog 22 #[.agg K.toArray,.string (bstr c1U),.slice B 2 d] w1 fun e w'=>e=.returned (.agg V.toArray)∧Below w1.heap.size w1 w' by
  rw[hK,hV]
  exact fun w1 B d hT h=>g0U key hk c1U B 2 d [nonce,C] w1 hT h rfl (by show (4+1)+((nonce.length+1)+((C.length+1)+0))≤_;rw[hn];omega))
 have HVD:=f1D hV
 have HN:=f1D hn
 rw[←hK,←hM]
 clear hV hVl hK hKl hM hk hn hC
 go_enter func34,ntmps34
 go_wp2_with fail
 generalize hw3:World.alloc (World.alloc (World.alloc w _) _) _=w3
 obtain⟨r0,r1,r2,hb3,hs3⟩:=i0i (A:=K) (B:=M) (C:=List.replicate 32 (.int .u8 0)) hw3
 have hT3:=hT.later hb3 (f1F _)
 have ne0:w.heap.size≠w.heap.size+1+1:=by omega
 have hcv3:=i0w (g:=w.heap.size+1+1) (w:=w3) (A:=some ⟨w.heap.size+1,0,none⟩) (c:=32) (l:=nonce) ⟨Rd.row (ys:=[]) (by rw[List.append_nil,←HM.out];exact r1),by rw[a0b,HN.out];exact f1F _,fun h=>by cases h⟩ 32 HN.out.symm (fun _ a ha=>by cases ha;show w.heap.size+1≠_;omega)
 clear hw3 hs3 r1
 refine wp_region_noPanic ?_
 refine wp_region_held_drew (S:=fun w'=>World.grownBy w3 w' (some (w.heap.size+1+1))) (by kernel_rfl) (a0r (Below.refl _ _).drew _) (fun hHeld=>?_)
 have hAll:=hHeld
 refine rt 0 7 hHeld ?_ (hy:=by intro w hS;exact a0s 23 (.tmp 3) rfl _ 0 rfl K _ (a0i (r0.grown hS ne0)) underlying23 rfl hszK.out)
 refine rt 1 8 hHeld ?_
 refine rt 2 9 hHeld ?_
 refine rt 3 10 hHeld ?_
 refine rc1 4 fun K hK=>?_
 refine b0q (some 11) rfl (by rfl) (.slice (some ⟨w3.heap.size,0,none⟩) 2 2) (.cells #[.string (bstr nonce),.string (bstr C)] 9) (by go_simp) ?_;intro w5 hw5 hb5;have hb35:=((Below.refl w3.heap.size w3).drew).trans (hb5.mono (f1F _));have hss:Sl w5 (some ⟨w3.heap.size,0,none⟩) 2 (a0F [nonce,C]):=(by rw[hw5];exact⟨Rd.row (ys:=[]) (by rw[List.append_nil];exact Row.new w3.drew 9 (a0F [nonce,C])),by rw[a0w];exact f1F _,fun h=>by cases h⟩);clear hw5
 refine rk hK (a0k hHeld (a0r hb5 _)) fun _=>?_
 clear hK K
 have hAll:=a0k hAll (a0r hb5 _)
 refine a0f (S':=fun w'=>World.grownBy w5 w' (some (w.heap.size+1+1))) (fun _ h=>a0k (a0k hHeld (a0r hb5 _)) h) _ _ _ _ ?_
 clear hHeld
 have hHeld:World.grownBy w5 w5 (some (w.heap.size+1+1)):=c0Q _ _
 refine rc1 5 fun K hK=>?_
 go_simp
 refine (hkey.out _ _ _ (hT3.later hb35 (f1F _)) hss).mono ?_;rintro e w6 ⟨rfl,hb6⟩;have hb36:=a0a hb35 hb6
 try go_wp2_with fail
 refine hK.out _ _ (a0k hHeld (a0r hb6 _)) (fun _=>?_)
 clear hK K
 have hAll:=a0k hAll (a0r hb6 _)
 refine a0f (S':=fun w'=>World.grownBy w6 w' (some (w.heap.size+1+1))) (fun _ h=>a0k (a0k hHeld (a0r hb6 _)) h) _ _ _ _ ?_
 clear hHeld
 have hHeld:World.grownBy w6 w6 (some (w.heap.size+1+1)):=c0Q _ _
 refine rc1 6 fun K hK=>?_
 refine a0R none rfl (by rfl) 23 (.tmp 6) (.tmp 12) rfl (w.heap.size+1+1) 0 23 _ V rfl rfl (r2.later hb36 r2.lt) hfit.out hszl.out hone.out ?_;intro w9 r9 hg9
 refine hK.out _ _ (a0k hHeld hg9) (fun _=>?_)
 clear hK K
 rw[a0u]
 have hAll:=a0k hAll hg9
 refine a0f (S':=fun w'=>World.grownBy w9 w' (some (w.heap.size+1+1))) (fun _ h=>a0k (a0k hHeld hg9) h) _ _ _ _ ?_
 clear hHeld
 have hHeld:World.grownBy w9 w9 (some (w.heap.size+1+1)):=c0Q _ _
 refine wpAnyH_done (by kernel_rfl) ?_ _
 refine NoPanic.normal ?_
 have r9:Row w9 (w.heap.size+1+1) 23 V:=by rw[HVr.out] at r9;exact r9
 have hb9:=hb3.grown hAll hb3.size (fun k h=>by cases h;omega)
 have R9:=f1D (show w9.heap[w.heap.size+1+1]?=some (.cells V.toArray 23 (0,0)) from r9)
 clear r9 hg9 r0 r2 hcv3 hss hb5 hb6 hb35 hb36 hb3 hAll hHeld
 go_wp2_with (with_reducible refine bodyPost_ret (results_cell_row rfl _ _ (w.heap.size+1+1) 23 V.toArray (0,0) (.array 32 5) rfl R9.out underlying23 rfl hsz2.out) rfl ?_)
 exact⟨by rw[HVD.out],hb9⟩
theorem q0c (key nonce:List UInt8) (hk:key.length=32) (hn:nonce.length=32) (s:List UInt8) (hm:s.length < 9223372036854775808) (w:World) (hT:Tabs w) :
  Calls prog 36 #[.agg (byts key).toArray,.agg (byts nonce).toArray,.string (bstr s)] w fun e w'=>e=.returned (.string (bstr (p0F key nonce s)))∧Below w.heap.size w w':=by
 obtain⟨K,hK⟩:∃K,K=byts key:=⟨_,rfl⟩
 have hKl:K.length=32:=by rw[hK,a0b];exact hk
 have hszK:=f1D (show (prog.info? 23).map (·.size)=some K.toArray.size by rw[a0t,List.size_toArray,hKl])
 obtain⟨M,hM⟩:∃M,M=byts nonce:=⟨_,rfl⟩
 have hMl:M.length=32:=by rw[hM,a0b];exact hn
 have hszM:=f1D (show (prog.info? 23).map (·.size)=some M.toArray.size by rw[a0t,List.size_toArray,hMl])
 obtain⟨X,hX⟩:∃X,X=p0F key nonce s:=⟨_,rfl⟩
 have HXl:=f1D (show s.length=X.length by rw[hX];exact (g0A _ _ _).symm)
 have htu:=f1D (show ∀(ys:List Value) (g c:Nat) (fr:Nat×Nat) (w1:World),s.length≤fr.1→Below w.heap.size w w1→w.heap.size≤g→Rowf w1 g 5 fr (byts s++ys)→Calls prog 57 #[.agg K.toArray,.agg M.toArray,.slice (some ⟨g,0,none⟩) s.length c] w1 fun e w'=>e=.returned (.tuple #[])∧w1.grownBy w' (some g)∧Rowf w' g 5 fr (byts X++ys) by
  rw[hK,hM,hX];exact fun ys g c fr w1 hf hb hg hr=>v0M key nonce hk hn s hm ys g s.length c fr (.inr hf) rfl w w1 hT hb hg hr)
 obtain⟨r0,r1,hb0,hs2⟩:=d0Y (w:=w) (A:=K) (B:=M) (tA:=23) (tB:=23) rfl
 have HS2:=f1D (show ((w.alloc (.cells K.toArray 23)).alloc (.cells M.toArray 23)).heap.size=w.heap.size+1+1 from hs2)
 rw[←hK,←hM,←hX]
 clear hK hKl hM hMl hk hn hX hm hT hs2
 go_enter func36,ntmps36
 go_wp2_with (first
  | (with_reducible refine wpList_load_row rfl 23 (.tmp 3) rfl w.heap.size rfl 23 K.toArray (0,0) (.array 32 5) R0.out underlying23 rfl hszK.out ?_)
  | (with_reducible refine wpList_load_row rfl 23 (.tmp 4) rfl (w.heap.size+1) rfl 23 M.toArray (0,0) (.array 32 5) R1.out underlying23 rfl hszM.out ?_)
  | (go_at_call 57;refine (htu.out ys1 _ c1 fr1 _ hf1 hbw1 hg1 rg).mono ?_;rintro e w2 ⟨rfl,hg2,rg2⟩;have hsl:Sl w2 (some ⟨w.heap.size+1+1,0,none⟩) c1 (byts X):=⟨Rd.rowf rg2,by rw[a0b,←HXl.out];exact hc1,fun h=>by cases h⟩;have hcv:=b0o hsl s.length HXl.out;have hbw2:=hbw1.grown hg2 hbw1.size (fun k h=>by cases h;omega);clear hsl rg rg2 hg2 hf1 hc1 R0 R1 hbw1 hg1)
  | (refine l0k rfl (.tmp 8) rfl s rfl ?_;intro c1 ys1 fr1 w1 rg hf1 hc1 hb1;have R0:=f1D (show w1.heap[w.heap.size]?=some (.cells K.toArray 23 (0,0)) from r0.later hb1 r0.lt);have R1:=f1D (show w1.heap[w.heap.size+1]?=some (.cells M.toArray 23 (0,0)) from r1.later hb1 r1.lt);have hbw1:=hb0.trans (hb1.mono hb0.size);rw[HS2.out] at rg;have hg1:w.heap.size≤w.heap.size+1+1:=(by omega);clear hb1 hb0 r0 r1))
 go_ret
 exact⟨rfl,hbw2⟩
theorem n0T (key nonce:List UInt8) (hk:key.length=32) (hn:nonce.length=32) (p:List UInt8) (hs:p.length≤100000) (w:World) (hT:Tabs w) :
  Calls prog 55 #[.agg (byts key).toArray,.agg (byts nonce).toArray,.string (bstr p)] w fun e w'=>e=.returned (.string (bstr (p0r key nonce p)))∧Below w.heap.size w w':=by
 obtain⟨K,hK⟩:∃K,K=byts key:=⟨_,rfl⟩
 have hKl:K.length=32:=by rw[hK,a0b];exact hk
 have hszK:=f1D (show (prog.info? 23).map (·.size)=some K.toArray.size by rw[a0t,List.size_toArray,hKl])
 obtain⟨M,hM⟩:∃M,M=byts nonce:=⟨_,rfl⟩
 have HM:=f1D hM
 have hMl:M.length=32:=by rw[hM,a0b];exact hn
 have hszM:=f1D (show (prog.info? 23).map (·.size)=some M.toArray.size by rw[a0t,List.size_toArray,hMl])
 obtain⟨C,hC⟩:∃C,C=p0F key nonce p:=⟨_,rfl⟩
 have hCl:C.length=p.length:=by rw[hC];exact g0A _ _ _
 have htu:=f1D (show ∀w1,Tabs w1→Calls prog 36 #[.agg K.toArray,.agg M.toArray,.string (bstr p)] w1 fun e w'=>e=.returned (.string (bstr C))∧Below w1.heap.size w1 w' by
  rw[hK,hM,hC];exact fun w1 hT=>q0c key nonce hk hn p (by omega) w1 hT)
 obtain⟨O,hO⟩:∃O,O=l0c key nonce C:=⟨_,rfl⟩
 obtain⟨V,hV⟩:∃V,V=byts O:=⟨_,rfl⟩
 have hOl:O.length=32:=by rw[hO];exact f0u _ _ _
 have hVl:V.length=32:=by rw[hV,a0b];exact hOl
 have hone:=f1D (b0d (show ∀v∈V,v.oneCell'=true by rw[hV];exact a0o _))
 have hszl:=f1D (show (prog.info? 23).map (·.size)=some V.toArray.size by rw[a0t,List.size_toArray,hVl])
 have h32:=f1D (show 32=V.toArray.size by rw[List.size_toArray,hVl])
 have hmk:=f1D (show ∀w1,Tabs w1→Calls prog 34 #[.agg K.toArray,.agg M.toArray,.string (bstr C)] w1 fun e w'=>e=.returned (.agg V.toArray)∧Below w1.heap.size w1 w' by
  rw[hK,hM,hV,hO];exact fun w1 hT=>v0L key nonce hk hn C (by omega) w1 hT)
 have HA:=f1D (show bstr nonce++bstr C++bstr O=bstr (p0r key nonce p) by
  rw[h0u,h0u,hO,hC];rfl)
 have HV:=f1D hV
 have HN:=f1D hn
 have HOl:=f1D hOl
 have hc1:=f1D (show ¬9223372036854775807 < (bstr nonce).size+(bstr C).size by rw[a0c,a0c,hn,hCl];omega)
 have hc2:=f1D (show ¬9223372036854775807 < (bstr nonce).size+(bstr C).size+(bstr O).size by rw[a0c,a0c,a0c,hn,hCl,hOl];omega)
 obtain⟨r0,r1,hb0,_⟩:=d0Y (w:=w) (A:=K) (B:=M) (tA:=23) (tB:=23) rfl
 have R0:=f1D (show ((w.alloc (.cells K.toArray 23)).alloc (.cells M.toArray 23)).heap[w.heap.size]?=some (.cells K.toArray 23 (0,0)) from r0)
 have R1:=f1D (show ((w.alloc (.cells K.toArray 23)).alloc (.cells M.toArray 23)).heap[w.heap.size+1]?=some (.cells M.toArray 23 (0,0)) from r1)
 have hT0:=hT.later hb0 (f1F _)
 rw[←hK,←hM]
 clear hK hKl hM hMl hk hn hC hCl hV hVl hO hOl
 go_enter func55,ntmps55
 go_wp2_with (first
  | (with_reducible refine wpList_load_row rfl 23 (.tmp 3) rfl w.heap.size rfl 23 K.toArray (0,0) (.array 32 5) R0.out underlying23 rfl hszK.out ?_)
  | (with_reducible refine wpList_load_row rfl 23 (.tmp 4) rfl (w.heap.size+1) rfl 23 M.toArray (0,0) (.array 32 5) R1.out underlying23 rfl hszM.out ?_)
  | (go_at_call 36;refine (htu.out _ hT0).mono ?_;rintro e w1 ⟨rfl,hb1⟩;have r0:=r0.later hb1 r0.lt;have r1:=r1.later hb1 r1.lt;have hbw1:=hb0.trans (hb1.mono hb0.size);have hT1:=hT.later hbw1 (f1F _);have R0:=f1D (show w1.heap[w.heap.size]?=some (.cells K.toArray 23 (0,0)) from r0);have R1:=f1D (show w1.heap[w.heap.size+1]?=some (.cells M.toArray 23 (0,0)) from r1);clear hb1 hb0)
  | (go_at_call 34;refine (hmk.out _ hT1).mono ?_;rintro e w2 ⟨rfl,hb2⟩;have r1:=r1.later hb2 r1.lt;have hbw2:=hbw1.trans (hb2.mono hbw1.size);clear hb2 hbw1)
  | (with_reducible refine wpList_store_row rfl 23 (.tmp 8) (.tmp 16) rfl w2.heap.size V.toArray rfl rfl 23 _ (heap_alloc_new w2 _) hszl.out (Eq.trans (by kernel_rfl) h32.out) hone.out ?_;refine Hid.out ?_))
 refine f1D ?_
 generalize hw3:World.setRow _ _ _=w3
 obtain⟨r3,hb3⟩:=a0v (xs:=V) hw3
 have r1:=r1.later hb3 r1.lt
 have hbw3:=hbw2.trans (hb3.mono hbw2.size)
 clear hw3 hb3 hbw2
 generalize w2.heap.size=g at *
 have hslN:Sl w3 (some ⟨w.heap.size+1,0,none⟩) 32 (byts nonce):=⟨Rd.row (ys:=[]) (by rw[List.append_nil,←HM.out];exact r1),by rw[a0b,HN.out];exact f1F _,fun h=>by cases h⟩
 have hslO:Sl w3 (some ⟨g,0,none⟩) 32 (byts O):=⟨Rd.row (ys:=[]) (by rw[List.append_nil,←HV.out];exact r3),by rw[a0b,HOl.out];exact f1F _,fun h=>by cases h⟩
 have hcN:=g0S hslN 32 HN.out.symm
 have hcO:=g0S hslO 32 HOl.out.symm
 clear hslN hslO r3 r1 r0
 have hc1:=hc1.out
 have hc2:=hc2.out
 go_wp2_with fail
 refine wp_region_noPanic ?_
 refine wp_region_held_drew (S:=fun w'=>Below w3.heap.size w3 w') (by kernel_rfl) ((Below.refl _ _).drew) (fun hHeld=>?_)
 refine rt 0 17 hHeld ?_
 refine rt 1 18 hHeld ?_
 refine rt 2 19 hHeld ?_
 refine rt 3 20 hHeld ?_
 refine rt 4 21 hHeld ?_
 refine rt 5 22 hHeld ?_
 refine rt 6 23 hHeld ?_
 refine rt 7 6 hHeld ?_
 refine wpAnyH_done (by kernel_rfl) ?_ _
 refine NoPanic.normal ?_
 clear hcN hcO hHeld
 go_wp2
 go_ret
 exact⟨by show Ending.returned (.string (bstr nonce++bstr C++bstr O))=_;rw[HA.out],hbw3.drew⟩
theorem b1q {w:World} {g:Nat} {l:List UInt8} (h:Row w g 23 (byts l)) (hl:l.length=32):Sl w (some ⟨g,0,none⟩) 32 (byts l) :=
 ⟨Rd.row (ys:=[]) (by rw[List.append_nil];exact h),by rw[a0b,hl];exact f1F _,fun h=>by cases h⟩
section
variable {w:World} {g u:Nat} {d:Deal}
theorem s0S (h:Row w g u (g0v d)):w.cell? ⟨g,0,none⟩=some (.int .u64 d.party):=by rw[h.cell];rfl
theorem z0s (h:Row w g u (g0v d)):w.rangeAt g 1 (byts d.key) :=
 b0R (A:=[Value.int .u64 (d.party:Int)]) (B:=byts d.key) (C:=byts d.root++([Value.string (bstr d.cond)]++(byts d.ask++byts d.vault))) h
theorem n0R (h:Row w g u (g0v d)) (hd:d.Ok):w.rangeAt g 33 (byts d.root):=by
 have:=b0R (w:=w) (g:=g) (A:=[Value.int .u64 (d.party:Int)]++byts d.key) (B:=byts d.root) (C:=[Value.string (bstr d.cond)]++(byts d.ask++byts d.vault)) (by rw[List.append_assoc];exact h)
 rwa [show ([Value.int .u64 (d.party:Int)]++byts d.key).length=33 by rw[List.length_append,a0b,hd.key];rfl] at this
theorem n0Q (h:Row w g u (g0v d)) (hd:d.Ok):w.cell? ⟨g,65,none⟩=some (.string (bstr d.cond)):=by
 rw[h.cell]
 unfold g0v
 rw[List.getElem?_append_right (by show 1≤65;decide),List.getElem?_append_right (by rw[a0b,hd.key];show (32:Nat)≤64;decide),List.getElem?_append_right (by rw[a0b,a0b,hd.key,hd.root];show (32:Nat)≤32;decide),a0b,a0b,hd.key,hd.root]
 rfl
theorem z0r (h:Row w g u (g0v d)) (hd:d.Ok):w.rangeAt g 66 (byts d.ask):=by
 have:=b0R (w:=w) (g:=g) (A:=[Value.int .u64 (d.party:Int)]++(byts d.key++(byts d.root++[Value.string (bstr d.cond)]))) (B:=byts d.ask) (C:=byts d.vault) (by rw[List.append_assoc,List.append_assoc,List.append_assoc];exact h)
 rwa [show ([Value.int .u64 (d.party:Int)]++(byts d.key++(byts d.root++[Value.string (bstr d.cond)]))).length=66 by simp only[List.length_append,List.length_cons,List.length_nil,a0b,hd.key,hd.root]] at this
theorem s0T (h:Row w g u (g0v d)) (hd:d.Ok):w.rangeAt g 98 (byts d.vault):=by
 have:=b0R (w:=w) (g:=g) (A:=[Value.int .u64 (d.party:Int)]++(byts d.key++(byts d.root++([Value.string (bstr d.cond)]++byts d.ask)))) (B:=byts d.vault) (C:=[]) (by rw[List.append_nil,List.append_assoc,List.append_assoc,List.append_assoc,List.append_assoc];exact h)
 rwa [show ([Value.int .u64 (d.party:Int)]++(byts d.key++(byts d.root++([Value.string (bstr d.cond)]++byts d.ask)))).length=98 by simp only[List.length_append,List.length_cons,List.length_nil,a0b,hd.key,hd.root,hd.ask]] at this
end
theorem tagz {l:List UInt8} (h:l.length=32):(prog.info? 23).map (·.size)=some (byts l).length:=by rw[a0U l h];exact a0t
theorem x0v (key nonce root cond:List UInt8) (hk:key.length=32) (hn:nonce.length=32) (hr:root.length=32) (hc:cond.length≤10000) (w:World) (hT:Tabs w) :
  Calls prog 32 #[.agg (byts key).toArray,.agg (byts nonce).toArray,.agg (byts root).toArray,.string (bstr cond)] w fun e w'=>e=.returned (.string (bstr (h0S key nonce root cond)))∧Below w.heap.size w w':=by
 have hkz:=f1D (show (prog.info? 23).map (·.size)=some (byts key).length by rw[a0U key hk];exact a0t)
 have hnz:=f1D (show (prog.info? 23).map (·.size)=some (byts nonce).length by rw[a0U nonce hn];exact a0t)
 have HA:=f1D (show bstr root++bstr cond=bstr (root++cond) from h0u _ _)
 have hsz:=f1D (show ¬9223372036854775807 < (bstr root).size+(bstr cond).size by rw[a0c,a0c,hr];omega)
 have hky:=f1D (fun w' (h:Tabs w')=>g0U key hk o0V none 0 0 [] w' h ⟨.inl rfl,f1F _,fun _=>rfl⟩ rfl (by show (5+1)+0≤_;decide))
 have hse:=f1D (fun w' (h:Tabs w')=>n0T (keyD key o0V []) nonce (b0H _ _ _) hn (root++cond) (by rw[List.length_append,hr];omega) w' h)
 rw[show p0r (keyD key o0V []) nonce (root++cond)=h0S key nonce root cond from rfl] at hse
 generalize keyD key o0V []=kd at *
 generalize h0S key nonce root cond=LK at *
 clear hk hn hc
 go_enter func32,ntmps32
 go_upto_region 1 with fail
 generalize hw1:World.alloc (World.alloc (World.alloc _ _) _) _=w1
 obtain⟨r1,r2,r3,hb1,-⟩:=i0i hw1
 clear hw1
 have hcv:=g0S (b1q r3 hr) 32 hr.symm
 clear hr
 refine wp_region_noPanic ?_
 refine wp_region_held_drew (S:=fun w'=>Below w1.heap.size w1 w') (by kernel_rfl) ((Below.refl _ _).drew) (fun hHeld=>?_)
 have hB:Below w1.heap.size w1 w1.drew:=(Below.refl _ _).drew
 refine rt 0 9 hHeld ?_ (hy:=by intro w hS;exact a0s 23 (.tmp 4) rfl _ 0 rfl (byts key) _ (a0i (r1.later hS r1.lt)) underlying23 rfl hkz.out)
 refine rt 2 11 hHeld ?_ (hy:=by intro w hS;exact a0s 23 (.tmp 5) rfl _ 0 rfl (byts nonce) _ (a0i (r2.later hS r2.lt)) underlying23 rfl hnz.out)
 refine rt 3 12 hHeld ?_
 refine rt 4 13 hHeld ?_ (hy:=by intro w hS;have h1:=hcv w hS;go_simp;try with_reducible rfl)
 refine rt 5 14 hHeld ?_
 refine rt 6 15 hHeld ?_ (hy:=by intro w hS;have h1:=hsz.out;have h2:=HA.out;go_simp;try with_reducible rfl)
 refine rc1 1 fun K hK=>?_
 go_simp
 refine (hky.out _ (hT.later (hb1.trans (hB.mono hb1.size)) (f1F _))).mono ?_;rintro e ww11 ⟨rfl,hqw11⟩
 try go_wp2_with fail
 refine hK.out _ _ (hHeld.trans (hqw11.mono hHeld.size)) (fun hHeld=>?_)
 clear hK K
 have hB:=a0a hB hqw11
 have hB1:Below ww11.heap.size ww11 ww11:=Below.refl _ _
 refine rc1 7 fun K hK=>?_
 go_simp
 refine (hse.out _ (hT.later (hb1.trans (hB.mono hb1.size)) (f1F _))).mono ?_;rintro e ww17 ⟨rfl,hqw17⟩
 try go_wp2_with fail
 refine hK.out _ _ (hHeld.trans (hqw17.mono hHeld.size)) (fun hHeld=>?_)
 clear hK K
 have hB:=a0a hB hqw17
 have hB1:=a0a hB1 hqw17
 have hB7:Below ww17.heap.size ww17 ww17:=Below.refl _ _
 refine rt 8 8 hHeld ?_
 refine wpAnyH_done (by kernel_rfl) ?_ _
 refine NoPanic.normal ?_
 have hbz:=hb1.trans (hB.mono hb1.size)
 clear hB hHeld
 go_wp2_with fail
 go_ret
 exact⟨rfl,hbz⟩
theorem x0u (key nonce root:List UInt8) (hk:key.length=32) (hn:nonce.length=32) (hr:root.length=32) (w:World) (hT:Tabs w) :
  Calls prog 33 #[.agg (byts key).toArray,.agg (byts nonce).toArray,.agg (byts root).toArray] w fun e w'=>e=.returned (.string (bstr (h0Q key nonce root)))∧Below w.heap.size w w':=by
 have hkz:=f1D (show (prog.info? 23).map (·.size)=some (byts key).length by rw[a0U key hk];exact a0t)
 have hnz:=f1D (show (prog.info? 23).map (·.size)=some (byts nonce).length by rw[a0U nonce hn];exact a0t)
 have hky:=f1D (fun w' (h:Tabs w')=>g0U key hk p0J none 0 0 [] w' h ⟨.inl rfl,f1F _,fun _=>rfl⟩ rfl (by show (5+1)+0≤_;decide))
 have hse:=f1D (fun w' (h:Tabs w')=>n0T (keyD key p0J []) nonce (b0H _ _ _) hn root (by omega) w' h)
 rw[show p0r (keyD key p0J []) nonce root=h0Q key nonce root from rfl] at hse
 generalize keyD key p0J []=kd at *
 generalize h0Q key nonce root=LK at *
 clear hk hn
 go_enter func33,ntmps33
 go_upto_region 1 with fail
 generalize hw1:World.alloc (World.alloc (World.alloc _ _) _) _=w1
 obtain⟨r1,r2,r3,hb1,-⟩:=i0i hw1
 clear hw1
 have hcv:=g0S (b1q r3 hr) 32 hr.symm
 clear hr
 refine wp_region_noPanic ?_
 refine wp_region_held_drew (S:=fun w'=>Below w1.heap.size w1 w') (by kernel_rfl) ((Below.refl _ _).drew) (fun hHeld=>?_)
 have hB:Below w1.heap.size w1 w1.drew:=(Below.refl _ _).drew
 refine rt 0 7 hHeld ?_ (hy:=by intro w hS;exact a0s 23 (.tmp 3) rfl _ 0 rfl (byts key) _ (a0i (r1.later hS r1.lt)) underlying23 rfl hkz.out)
 refine rt 2 9 hHeld ?_ (hy:=by intro w hS;exact a0s 23 (.tmp 4) rfl _ 0 rfl (byts nonce) _ (a0i (r2.later hS r2.lt)) underlying23 rfl hnz.out)
 refine rt 3 10 hHeld ?_
 refine rt 4 11 hHeld ?_ (hy:=by intro w hS;have h1:=hcv w hS;go_simp;try with_reducible rfl)
 refine rc1 1 fun K hK=>?_
 go_simp
 refine (hky.out _ (hT.later (hb1.trans (hB.mono hb1.size)) (f1F _))).mono ?_;rintro e ww11 ⟨rfl,hqw11⟩
 try go_wp2_with fail
 refine hK.out _ _ (hHeld.trans (hqw11.mono hHeld.size)) (fun hHeld=>?_)
 clear hK K
 have hB:=a0a hB hqw11
 have hB1:Below ww11.heap.size ww11 ww11:=Below.refl _ _
 refine rc1 5 fun K hK=>?_
 go_simp
 refine (hse.out _ (hT.later (hb1.trans (hB.mono hb1.size)) (f1F _))).mono ?_;rintro e ww15 ⟨rfl,hqw15⟩
 try go_wp2_with fail
 refine hK.out _ _ (hHeld.trans (hqw15.mono hHeld.size)) (fun hHeld=>?_)
 clear hK K
 have hB:=a0a hB hqw15
 have hB1:=a0a hB1 hqw15
 have hB5:Below ww15.heap.size ww15 ww15:=Below.refl _ _
 refine rt 6 6 hHeld ?_
 refine wpAnyH_done (by kernel_rfl) ?_ _
 refine NoPanic.normal ?_
 have hbz:=hb1.trans (hB.mono hb1.size)
 clear hB hHeld
 go_wp2_with fail
 go_ret
 exact⟨rfl,hbz⟩
end Go.Proofs.YtcbilopdeiapjaaGreatDoor
