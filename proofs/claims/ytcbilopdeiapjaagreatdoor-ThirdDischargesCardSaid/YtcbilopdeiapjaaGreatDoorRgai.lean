import Derived.Test.YtcbilopdeiapjaaGreatDoorRgah
set_option maxHeartbeats 16000000
set_option maxRecDepth 100000
open Go.Proofs.Tryz
namespace Go.Proofs.YtcbilopdeiapjaaGreatDoor
open Go Go.RowKit
theorem h0R:(prog.info? 3).map (fun i=>(i.zero,i.size,i.bytes))=some (some (.int .i64 0),1,8):=by kernel_rfl
def numA (a:Adr) (i:Nat):Nat:=(a.b.getD (2*i) 0).toNat*256+(a.b.getD (2*i+1) 0).toNat
theorem m0U (a:Adr):c0m a=(List.range 8).map (numA a):=rfl
theorem c1v (a:Adr) (i:Nat):numA a i≤65535:=by
 unfold numA
 have:=(a.b.getD (2*i) 0).toNat_lt
 have:=(a.b.getD (2*i+1) 0).toNat_lt
 omega
def d0j (l:List Nat) (k:Nat):Nat:=(List.range k).foldl (fun best i=>if a0W (l.drop i) > a0W (l.drop best) then i else best) 0
theorem l0v (l:List Nat) (k:Nat):d0j l (k+1)=if a0W (l.drop k) > a0W (l.drop (d0j l k)) then k else d0j l k:=by
 unfold d0j
 rw[List.range_succ,List.foldl_append];rfl
theorem m0s (l:List Nat) (k:Nat):d0j l k≤k:=by
 induction k with
 | zero=>exact f1F _
 | succ k ih=>rw[l0v];split<;>omega
theorem r0t (A:Option Addr) (c:Nat) (l:List Nat) (w0:World) (h:Sl w0 A c (b0n l)) (i:Nat) (hi:i≤l.length) :
  (∃A' c',(∀w,(Instr.sliceAt 166 (.slice A l.length c) none (some (.int .i64 i)) none).run prog w=.ok (.slice A' i c') w)∧Sl w0 A' c' (b0n (l.take i))) ∧
  (∃A' c',(∀w,(Instr.sliceAt 166 (.slice A l.length c) (some (.int .i64 i)) none none).run prog w=.ok (.slice A' (l.length - i) c') w)∧Sl w0 A' c' (b0n (l.drop i))):=by
 have hr:=h.room
 rw[b0Q] at hr
 rw[t0o,t0n]
 cases A with
 | none =>
  have hc:=h.bare rfl
  subst hc
  have hl:l.length=0:=by omega
  obtain rfl:l=[]:=List.eq_nil_of_length_eq_zero hl
  have ei:i=0:=by simpa using hi
  subst ei
  clear hr hl hi
  refine⟨⟨none,0,fun w=>?_,h⟩,⟨none,0,fun w=>?_,h⟩⟩
  ·clear h;go_simp
  ·clear h;go_simp
 | some a =>
  refine⟨⟨some a,c,fun w=>?_,h.take⟩,⟨some (if c=i then a else a.add i),c - i,fun w=>?_,?_⟩⟩
  ·have h2:(i:Int)≤(c:Int):=by omega
   clear h hi hr
   go_simp
  ·have h3:(i:Int)≤(l.length:Int):=by omega
   have h2:(l.length:Int)≤(c:Int):=by omega
   have h4:((l.length:Int) - (i:Int)).toNat=l.length - i:=by omega
   clear h hi hr
   generalize l.length=n at *
   go_simp
   split<;>rfl
  ·by_cases h0:0 < l.length
   ·obtain⟨b,o,he,_⟩:=h.rd.get (i:=0) (by rw[b0Q];exact h0)
    cases he
    rw[Addr.add_lit]
    exact h.from (by rw[b0Q];omega) rfl
   ·obtain rfl:l=[]:=List.eq_nil_of_length_eq_zero (by omega)
    exact⟨.inl (by simp[b0n]),by simp[b0n],fun h=>by cases h⟩
theorem x0O (a:Adr) (h:a.Ok) (h6:a.v6=true) (w:World) :
  Calls prog 115 #[.agg (adrV a).toArray] w fun e w'=>e=.returned (.string (bstr (a0Y a)))∧Below w.heap.size w w':=by
 obtain⟨i0,hi,hz0,hz1,hz2⟩:=info_parts h0R
 obtain⟨w1,hw1⟩:∃w1,w1=w.alloc (.cells (adrV a).toArray 67):=⟨_,rfl⟩
 have hr:Row w1 w.heap.size 67 (adrV a):=by rw[hw1];exact Row.new w _ _
 have hb:Below w.heap.size w w1:=by rw[hw1];exact (Below.refl _ w).alloc (f1F _) _
 have hchk:=f1D (f0Z a h)
 have hT:=a0i hr
 have hrl:=fun w' (h:Below w1.heap.size w1 w')=>hr.later h hr.lt
 have hc:b0h a=true:=by unfold b0h;rw[h6];rfl
 have HT:=f1D (show a0Y a=d0M (c0m a) by unfold a0Y;rw[hc,h6];rfl)
 have hE:=f1D (fun w' (hq:Below w1.heap.size w1 w')=>c0P h (hrl w' hq))
 have hE6:=f1D (fun w' (hq:Below w1.heap.size w1 w')=>j0R (hrl w' hq))
 rw[h6] at hE6
 obtain⟨V,hV⟩:∃V,V=adrV a:=⟨_,rfl⟩
 have hl:=f1D (show (prog.info? 67).map (·.size)=some V.length by rw[hV,a0m h,b0b])
 rw[←hV] at hw1 hchk hT ⊢
 rw[hc] at hchk
 clear hV hr hrl
 go_enter func115,ntmps115
 subst hw1
 go_wp2_with (first
  | (with_reducible refine wpList_load_mid rfl 67 (.tmp 1) rfl w.heap.size 0 rfl V _ hT underlying67 rfl hl.out ?_)
  | (go_at_call 161;refine (hchk.out _).mono ?_;rintro e w2 ⟨rfl,hb2⟩;have h6c:=hE6.out _ hb2;have hown0:(w2.alloc (.cells #[] 3)).ownsRow w2.heap.size 3 1 (.slice (some ⟨w2.heap.size,0,none⟩) 0 0) 0 (b0n []):=World.ownsRow_lit w2 (e:=3) (size:=1) #[] 0 (f1F _) (by unfold maxLen;omega) rfl))
 have hE:∀w',Below w2.heap.size w2 w'→∀k,k < 16→w'.cell? ⟨w.heap.size,1+k,none⟩=some (.int .u8 ((a.b.getD k 0).toNat:Int)):=fun w' hq=>hE.out w' (hb2.trans (hq.mono hb2.size))
 have hb2:=hb.trans (hb2.mono hb.size)
 have hbr0:Below w2.heap.size w2 (w2.alloc (.cells #[] 3)):=(Below.refl _ w2).alloc (f1F _) _
 clear hT hb hE6
 go_loopw [3,4] (fun v i wr=>∃k:Nat,k≤8∧i=.int .i64 k∧wr.ownsRow w2.heap.size 3 1 v k (b0n ((List.range k).map (numA a)))∧Below w2.heap.size w2 wr) (fun _ i _=>8 - (intOf i).toNat)
 case atStart=>exact⟨0,by omega,rfl,hown0,hbr0⟩
 case round =>
  clear hown0 hbr0
  obtain⟨k,hk,rfl,hown,hbr⟩:=hrel
  by_cases hlt:k < 8
  ·have hc1:∀w',Below w2.heap.size w2 w'→w'.cell? ⟨w.heap.size,1+2*k,none⟩=some (.int .u8 ((a.b.getD (2*k) 0).toNat:Int)):=fun w' hq=>hE w' hq (2*k) (by omega)
   have hc2:∀w',Below w2.heap.size w2 w'→w'.cell? ⟨w.heap.size,1+(2*k+1),none⟩=some (.int .u8 ((a.b.getD (2*k+1) 0).toNat:Int)):=fun w' hq=>hE w' hq (2*k+1) (by omega)
   have HN:=f1D (show (List.range (k+1)).map (numA a)=(List.range k).map (numA a)++[(a.b.getD (2*k) 0).toNat*256+(a.b.getD (2*k+1) 0).toNat] by rw[List.range_succ,List.map_append];rfl)
   have hlt':(k:Int) < 8:=by omega
   generalize a.b.getD (2*k) 0=x at *
   generalize a.b.getD (2*k+1) 0=y at *
   have hx:=x.toNat_lt
   have hy:=y.toNat_lt
   have hI0:IntKind.i64.wrap (2*(k:Int))=2*(k:Int):=by rw[IntKind.wrap_i64];omega
   have hI1:(0:Int)≤2*(k:Int):=by omega
   have hI2:2*(k:Int) < 16:=by omega
   have hI3:(2*(k:Int)).toNat=2*k:=by omega
   have hJ0:IntKind.i64.wrap (2*(k:Int)+1)=2*(k:Int)+1:=by rw[IntKind.wrap_i64];omega
   have hJ1:(0:Int)≤2*(k:Int)+1:=by omega
   have hJ2:2*(k:Int)+1 < 16:=by omega
   have hJ3:(2*(k:Int)+1).toNat=2*k+1:=by omega
   have hX0:IntKind.i64.wrap (x.toNat:Int)=(x.toNat:Int):=by rw[IntKind.wrap_i64];omega
   have hY0:IntKind.i64.wrap (y.toNat:Int)=(y.toNat:Int):=by rw[IntKind.wrap_i64];omega
   obtain⟨n,hn⟩:∃n,n=x.toNat*256+y.toNat:=⟨_,rfl⟩
   rw[←hn] at HN
   have hX1:IntKind.i64.wrap ((x.toNat:Int)*256)=(x.toNat:Int)*256:=by rw[IntKind.wrap_i64];omega
   have hX2:IntKind.i64.wrap ((x.toNat:Int)*256+(y.toNat:Int))=(n:Int):=by rw[IntKind.wrap_i64];omega
   clear hn hE
   go_wp2_with fail
   refine wp_region_noPanic ?_
   refine wp_region_held_drew (S:=fun w'=>Below w2.heap.size w2 w') (by kernel_rfl) (hbr.drew) (fun hHeld=>?_)
   refine rt 0 45 hHeld ?_
   refine rt 1 46 hHeld ?_
   refine rt 2 47 hHeld ?_
   refine rt 3 48 hHeld ?_
   refine rt 4 49 hHeld ?_
   refine rt 5 50 hHeld ?_
   refine rt 6 51 hHeld ?_
   refine rt 7 52 hHeld ?_
   refine rt 8 53 hHeld ?_
   refine rt 9 54 hHeld ?_
   refine rt 10 55 hHeld ?_
   refine rt 11 56 hHeld ?_
   refine rt 12 57 hHeld ?_
   refine rt 13 58 hHeld ?_
   refine rt 14 59 hHeld ?_
   refine rt 15 60 hHeld ?_
   refine rc1 16 fun K hK=>?_
   refine b0q (some 61) rfl (by rfl) (.slice (some ⟨wr.heap.size,0,none⟩) 1 1) (.cells (b0n [n]).toArray 3) (by go_simp;try rfl) ?_;intro w4 hw4 hb4;have hq4:=hHeld.trans (hb4.mono hHeld.size);have hsl4:Sl w4 (some ⟨wr.heap.size,0,none⟩) 1 (b0n [n]):=(by rw[hw4];exact⟨Rd.block (Go.heap_alloc_new wr.drew _),f1F _,fun h=>by cases h⟩);have hown4:=a0D hown ((Below.refl wr.heap.size wr).drew.trans hb4) (f1F _);clear hw4
   refine rk hK (hq4) fun hHeld=>?_
   clear hK K
   refine rc1 17 fun K hK=>?_
   refine b0A (some 62) rfl (by rfl) (.tmp 45) (.tmp 61) 166 rfl w2.heap.size 3 i0 _ 8 underlying166 hi hz0 hz1 hz2 rfl _ k _ rfl hown4 (some ⟨wr.heap.size,0,none⟩) 1 1 (b0n [n]) rfl rfl hsl4 (g0z _) (by unfold maxLen;omega) (by omega) w2 rfl hq4 ?_;intro v5 w5 hown5 hg5 hq5;rw[←d0D,←HN.out] at hown5
   refine rk hK (hq5) fun hHeld=>?_
   clear hK K
   refine rt 18 3 hHeld ?_
   refine wpAnyH_done (by kernel_rfl) ?_ _
   refine NoPanic.normal ?_
   clear hHeld hown hown4 hsl4 hc1 hc2
   go_wp2
   go_roundw
   case rel=>exact⟨k+1,by omega,by go_num,hown5,hq5⟩
   case measure=>simp[intOf];omega
  ·have hk8:(k:Int)=8:=by omega
   rw[hk8]
   obtain rfl:k=8:=by omega
   rw[←m0U] at hown
   have hbw:=hb2.trans (hbr.mono hb2.size)
   obtain⟨A,c,rfl,-,hsl⟩:=Sl.of_own hown
   have hL8:(c0m a).length=8:=by rw[m0U];rfl
   have hL:=f1D (fun n (hn:n∈c0m a)=>show n≤65535 by
    rw[m0U] at hn
    obtain⟨i,_,rfl⟩:=List.mem_map.1 hn
    exact c1v a i)
   obtain⟨l,hl⟩:∃l,l=c0m a:=⟨_,rfl⟩
   rw[←hl] at hsl hL8 hL HT
   have hzr:=f1D (fun p (hp:p≤8) w' (hs:Sl w' A c (b0n l))=>by have:=u0s l p (by omega) (by omega) A c w' hs;rw[hL8] at this;exact this)
   clear hl hown hE hbr hlt hk hk8
   go_wp2
   go_loop [5,65] (fun b i=>∃k:Nat,k≤8∧i=.int .i64 k∧b=.int .i64 (d0j l k:Nat)) (fun _ i=>8 - (intOf i).toNat)
   case atStart=>exact⟨0,by omega,rfl,rfl⟩
   case round =>
    obtain⟨k,hk,rfl,rfl⟩:=hrel
    by_cases hlt:k < 8
    ·have hlt':(k:Int) < 8:=by omega
     have hk1:=hzr.out k (by omega) _ hsl
     have hbk:=m0s l k
     have hk2:=hzr.out (d0j l k) (by omega) _ hsl
     have HB:=f1D (l0v l k)
     by_cases hg:a0W (l.drop k) > a0W (l.drop (d0j l k))
     ·have HB2:=f1D (HB.out.trans (if_pos hg))
      have hg':((a0W (l.drop (d0j l k)):Nat):Int) < ((a0W (l.drop k):Nat):Int):=by omega
      generalize a0W (l.drop (d0j l k))=z2 at *
      generalize a0W (l.drop k)=z1 at *
      generalize d0j l k=b at *
      have HK1:=f1D hk1
      have HK2:=f1D hk2
      clear HB hk1 hk2 hg
      have tok1:True:=trivial
      go_wp2_with (first
       | (have _t:=tok1;go_at_call 163;refine (HK1.out).mono ?_;rintro e w6 ⟨rfl,rfl⟩;clear tok1)
       | (go_at_call 163;refine (HK2.out).mono ?_;rintro e w6 ⟨rfl,rfl⟩))
      go_round
      case rel=>exact⟨k+1,by omega,by go_num,by rw[HB2.out]⟩
      case measure=>simp[intOf];omega
     ·have HB2:=f1D (HB.out.trans (if_neg hg))
      have hg':((a0W (l.drop k):Nat):Int)≤((a0W (l.drop (d0j l k)):Nat):Int):=by omega
      generalize a0W (l.drop (d0j l k))=z2 at *
      generalize a0W (l.drop k)=z1 at *
      generalize d0j l k=b at *
      have HK1:=f1D hk1
      have HK2:=f1D hk2
      clear HB hk1 hk2 hg
      have tok1:True:=trivial
      go_wp2_with (first
       | (have _t:=tok1;go_at_call 163;refine (HK1.out).mono ?_;rintro e w6 ⟨rfl,rfl⟩;clear tok1)
       | (go_at_call 163;refine (HK2.out).mono ?_;rintro e w6 ⟨rfl,rfl⟩))
      go_round
      case rel=>exact⟨k+1,by omega,by go_num,by rw[HB2.out]⟩
      case measure=>simp[intOf];omega
    ·obtain rfl:k=8:=by omega
     have hbk:=m0s l 8
     have hzb:=p0M (l.drop (d0j l 8))
     rw[List.length_drop,hL8] at hzb
     have hk2:=f1D (hzr.out (d0j l 8) hbk _ hsl)
     have hjw:=f1D (fun w' (hb:Below wr.heap.size wr w')=>by have:=h0F l hL.out (by omega) A c w' (hsl.later (f1F _) hb);rw[hL8] at this;exact this)
     have hT2:=f1D (show a0Y a=if a0W (l.drop (d0j l 8)) < 2 then b0S l else b0S (l.take (d0j l 8))++[58,58]++b0S (l.drop (d0j l 8+a0W (l.drop (d0j l 8)))) by
      have hbe:d0K l=d0j l 8:=by show d0j l l.length=_;rw[hL8]
      rw[HT.out]
      show (if a0W (l.drop (d0K l)) < 2 then b0S l else b0S (l.take (d0K l))++58 :: 58 :: b0S (l.drop (d0K l+a0W (l.drop (d0K l)))))=_
      rw[hbe]
      simp)
     by_cases hz:a0W (l.drop (d0j l 8)) < 2
     ·have HT3:=f1D (hT2.out.trans (if_pos hz))
      have hz':((a0W (l.drop (d0j l 8)):Nat):Int) < 2:=by omega
      generalize a0W (l.drop (d0j l 8))=n at *
      generalize d0j l 8=b at *
      clear hz hT2 hlt HT
      go_wp2_with (first
       | (go_at_call 163;refine (hk2.out).mono ?_;rintro e w6 ⟨rfl,rfl⟩)
       | (go_at_call 164;refine (hjw.out _ (Below.refl _ _)).mono ?_;rintro e w7 ⟨rfl,hb7⟩))
      go_ret
      exact⟨by rw[HT3.out];rfl,hbw.trans (hb7.mono hbw.size)⟩
     ·have HT3:=f1D (hT2.out.trans (if_neg hz))
      have hz':(2:Int)≤((a0W (l.drop (d0j l 8)):Nat):Int):=by omega
      generalize a0W (l.drop (d0j l 8))=n at *
      generalize d0j l 8=b at *
      clear hz hT2 hlt HT
      obtain⟨m,hm⟩:∃m,m=b+n:=⟨_,rfl⟩
      rw[←hm] at HT3
      have hw9:IntKind.i64.wrap ((b:Int)+(n:Int))=(m:Int):=by rw[IntKind.wrap_i64];omega
      obtain⟨⟨A1,c1,hr1,hs1⟩,-⟩:=r0t A c l _ hsl b (by omega)
      obtain⟨-,⟨A2,c2,hr2,hs2⟩⟩:=r0t A c l _ hsl m (by omega)
      rw[hL8] at hr1 hr2
      have hj1:=f1D (fun w' (hb:Below wr.heap.size wr w')=>by have:=h0F (l.take b) (fun q hq=>hL.out q (List.mem_of_mem_take hq)) (by rw[List.length_take];omega) A1 c1 w' (hs1.later (f1F _) hb);rw[List.length_take,hL8,Nat.min_eq_left (by omega)] at this;exact this)
      have hj2:=f1D (fun w' (hb:Below wr.heap.size wr w')=>by have:=h0F (l.drop m) (fun q hq=>hL.out q (List.mem_of_mem_drop hq)) (by rw[List.length_drop];omega) A2 c2 w' (hs2.later (f1F _) hb);rw[List.length_drop,hL8] at this;exact this)
      have hlj1:=k0n (l.take b) (fun q hq=>hL.out q (List.mem_of_mem_take hq))
      have hlj2:=k0n (l.drop m) (fun q hq=>hL.out q (List.mem_of_mem_drop hq))
      rw[List.length_take,hL8] at hlj1
      rw[List.length_drop,hL8] at hlj2
      generalize b0S (l.take b)=J1 at *
      generalize b0S (l.drop m)=J2 at *
      have hs1:(bstr J1).size=J1.length:=a0c _
      have hs2:(bstr J2).size=J2.length:=a0c _
      go_wp2_with (go_at_call 163;refine (hk2.out).mono ?_;rintro e w6 ⟨rfl,rfl⟩)
      clear hsl hL hzr hk2 hjw hm
      refine wp_region_noPanic ?_
      refine wp_region_held_drew (S:=fun w'=>Below wr.heap.size wr w') (by kernel_rfl) ((Below.refl _ _).drew) (fun hHeld=>?_)
      have hB:=hHeld
      refine rt 0 84 hHeld ?_
      refine rt 1 85 hHeld ?_
      refine rt 2 86 hHeld ?_
      refine rt 5 89 hHeld ?_
      refine rt 6 90 hHeld ?_
      refine rt 7 91 hHeld ?_
      refine rt 8 92 hHeld ?_
      refine rt 9 93 hHeld ?_
      refine rc1 3 fun K hK=>?_
      go_simp
      refine (hj1.out _ hB).mono ?_;rintro e wwr3 ⟨rfl,hqwr3⟩
      try go_wp2_with fail
      refine hK.out _ _ (hHeld.trans (hqwr3.mono hHeld.size)) (fun hHeld'=>?_)
      clear hK K
      have hB:=a0a hB hqwr3
      have hB3:Below wwr3.heap.size wwr3 wwr3:=Below.refl _ _
      refine a0f (S':=fun w'=>Below wwr3.heap.size wwr3 w') (fun _ h=>(hHeld.trans (hqwr3.mono hHeld.size)).trans (h.mono (hHeld.trans (hqwr3.mono hHeld.size)).size)) _ _ _ _ ?_
      clear hHeld
      have hHeld:Below wwr3.heap.size wwr3 wwr3:=Below.refl _ _
      refine rt 4 88 hHeld ?_ (hy:=by intro w hS;go_simp;rw[if_neg (by (try simp only[ByteArray.size_append,hs1,hs2]);(try simp only[show ByteArray.size { data:=#[58,58] }=2 from rfl]);omega)])
      refine rc1 10 fun K hK=>?_
      go_simp
      refine (hj2.out _ hB).mono ?_;rintro e wwr10 ⟨rfl,hqwr10⟩
      try go_wp2_with fail
      refine hK.out _ _ (hHeld.trans (hqwr10.mono hHeld.size)) (fun hHeld'=>?_)
      clear hK K
      have hB:=a0a hB hqwr10
      have hB3:=a0a hB3 hqwr10
      have hB10:Below wwr10.heap.size wwr10 wwr10:=Below.refl _ _
      refine a0f (S':=fun w'=>Below wwr10.heap.size wwr10 w') (fun _ h=>(hHeld.trans (hqwr10.mono hHeld.size)).trans (h.mono (hHeld.trans (hqwr10.mono hHeld.size)).size)) _ _ _ _ ?_
      clear hHeld
      have hHeld:Below wwr10.heap.size wwr10 wwr10:=Below.refl _ _
      refine rt 11 95 hHeld ?_ (hy:=by intro w hS;go_simp;rw[if_neg (by (try simp only[ByteArray.size_append,hs1,hs2]);(try simp only[show ByteArray.size { data:=#[58,58] }=2 from rfl]);omega)])
      refine rt 12 2 hHeld ?_
      refine wpAnyH_done (by kernel_rfl) ?_ _
      refine NoPanic.normal ?_
      have hBe:=hbw.trans (hB.mono hbw.size)
      clear hHeld
      go_wp2
      go_ret
      exact⟨by rw[HT3.out];simp only[←a0x];rfl,hBe⟩
theorem i0J (a:Adr) (h:a.Ok) (w:World) :
  Calls prog 115 #[.agg (adrV a).toArray] w fun e w'=>e=.returned (.string (bstr (a0Y a)))∧Below w.heap.size w w':=by
 cases h6:a.v6 with
 | true=>exact x0O a h h6 w
 | false =>
  cases hc:b0h a with
  | true=>exact u0q a h hc h6 w
  | false=>exact x0N a h hc w
def digI (b:Nat) (c:UInt8):Int:=(List.range b).foldl (fun d j=>if hexD j=c then (j:Int) else d) (-1)
theorem g0w (b:Nat) (c:UInt8):digI (b+1) c=if hexD b=c then (b:Int) else digI b c:=by
 unfold digI
 rw[List.range_succ,List.foldl_append];rfl
theorem m0z (b:Nat) (c:UInt8):-1≤digI b c∧digI b c < b:=by
 induction b with
 | zero=>exact⟨by show (-1:Int)≤-1;omega,by show (-1:Int) < _;omega⟩
 | succ b ih=>rw[g0w];split<;>omega
theorem r0u (b:Nat) (c:UInt8) (h:0≤digI b c):hexD (digI b c).toNat=c:=by
 induction b with
 | zero=>exact absurd h (by show ¬(0:Int)≤-1;omega)
 | succ b ih =>
  rw[g0w] at h ⊢
  split
  ·rename_i e;simpa using e
  ·rename_i e;rw[if_neg e] at h;exact ih h
def c0c (b:Nat):Nat→List UInt8→Option Nat
 | n,[]=>some n
 | n,c :: s=>if digI b c < 0 then none else c0c b (n*b+(digI b c).toNat) s
def optI:Option Nat→Int
 | none=>-1
 | some n=>n
def a0P (b most:Nat) (s:List UInt8):Option Nat :=
 if s.length=0∨most < s.length then none
 else match c0c b 0 s with
  | none=>none
  | some n=>if numL b n=s then some n else none
theorem g0V (b n k:Nat) (s:List UInt8) (h:k < s.length):c0c b n (s.drop k)=if digI b (s.getD k 0) < 0 then none else c0c b (n*b+(digI b (s.getD k 0)).toNat) (s.drop (k+1)):=by
 rw[List.drop_eq_getElem_cons h,c0c,List.getD_eq_getElem?_getD,List.getElem?_eq_getElem h];rfl
theorem z0C:∀i j:Nat,i < 16→j < 16→hexD i=hexD j→i=j:=by
 have h:∀i j:Fin 16,hexD i.1=hexD j.1→i=j:=by decide
 intro i j hi hj he
 exact congrArg Fin.val (h ⟨i,hi⟩ ⟨j,hj⟩ he)
theorem o0p:∀i:Nat,i < 16→hexD i≠46∧hexD i≠58:=by
 have h:∀i:Fin 16,hexD i.1≠46∧hexD i.1≠58:=by decide
 intro i hi
 exact h ⟨i,hi⟩
theorem v0J (b d:Nat) (hb:b≤16) (hd:d < b):digI b (hexD d)=d:=by
 induction b with
 | zero=>omega
 | succ b ih =>
  rw[g0w]
  by_cases h:d=b
  ·rw[if_pos (by rw[h]),h]
  ·rw[if_neg (fun e=>h (z0C d b (by omega) (by omega) e.symm)),ih (by omega) (by omega)]
theorem o0b (b:Nat) (s t:List UInt8):∀n,c0c b n (s++t)=(c0c b n s).bind fun m=>c0c b m t:=by
 induction s with
 | nil=>intro n;rfl
 | cons c s ih =>
  intro n
  rw[List.cons_append,c0c,c0c]
  split
  ·rfl
  ·exact ih _
theorem o0c (b n d:Nat) (hb:b≤16) (hd:d < b):c0c b n [hexD d]=some (n*b+d):=by
 rw[c0c,v0J b d hb hd,if_neg (by omega)];rfl
theorem f0B (b:Nat) (h2:2≤b) (hb:b≤16) (n:Nat):c0c b 0 (numL b n)=some n:=by
 induction n using Nat.strongRecOn with
 | _ n ih =>
  by_cases h:n < b
  ·rw[a0S b n h,o0c b 0 n hb h];simp
  ·rw[b0p b n h2 (by omega),o0b,ih (n/b) (Nat.div_lt_self (by omega) (by omega))]
   show c0c b (n/b) [hexD (n%b)]=_
   rw[o0c b _ _ hb (Nat.mod_lt _ (by omega)),Nat.mul_comm,Nat.div_add_mod]
theorem c0W (b most:Nat) (h2:2≤b) (hb:b≤16) (p:List UInt8) (n:Nat):a0P b most p=some n↔numL b n=p∧p.length≤most:=by
 unfold a0P
 constructor
 ·intro h
  by_cases hbad:p.length=0∨most < p.length
  ·rw[if_pos hbad] at h;cases h
  ·rw[if_neg hbad] at h
   cases hf:c0c b 0 p with
   | none=>rw[hf] at h;cases h
   | some m =>
    rw[hf] at h
    by_cases he:numL b m=p
    ·simp only[if_pos he] at h
     cases h
     exact⟨he,by omega⟩
    ·simp only[if_neg he] at h;cases h
 ·rintro ⟨rfl,hl⟩
  have hp:=z0Y b n
  rw[if_neg (by omega),f0B b h2 hb]
  simp
theorem h0V (b n:Nat) (h2:2≤b) (hb:b≤16):∀c∈numL b n,c≠46∧c≠58:=by
 induction n using Nat.strongRecOn with
 | _ n ih =>
  by_cases h:n < b
  ·rw[a0S b n h]
   intro c hc
   rw[List.mem_singleton.1 hc]
   exact o0p n (by omega)
  ·rw[b0p b n h2 (by omega)]
   intro c hc
   rcases List.mem_append.1 hc with h1 | h1
   ·exact ih (n/b) (Nat.div_lt_self (by omega) (by omega)) c h1
   ·rw[List.mem_singleton.1 h1]
    exact o0p _ (Nat.lt_of_lt_of_le (Nat.mod_lt _ (by omega)) hb)
theorem j0y (b m n:Nat) (h2:2≤b) (hb:b≤16) (h:numL b m=numL b n):m=n:=by
 have h1:=f0B b h2 hb m
 rw[h,f0B b h2 hb n] at h1
 exact (Option.some.inj h1).symm
theorem p0n (s:List UInt8) (most:Nat) (hm:most≤4) (w:World) :
  Calls prog 160 #[.string (bstr s),.int .i64 10,.int .i64 most] w fun e w'=>e=.returned (.int .i64 (optI (a0P 10 most s)))∧Below w.heap.size w w':=by
 have hz:=a0c s
 by_cases hbad:s.length=0∨most < s.length
 ·have HV:=f1D (show a0P 10 most s=none by unfold a0P;rw[if_pos hbad])
  by_cases h0:s.length=0
  ·have h0':((s.length:Nat):Int)=0:=by omega
   go_enter func160,ntmps160
   go_wp2
   go_ret
   exact⟨by rw[HV.out];rfl,Below.refl _ _⟩
  ·have h1':0 < s.length:=by omega
   have h2':(most:Int) < (s.length:Int):=by omega
   clear hbad
   go_enter func160,ntmps160
   go_wp2
   go_ret
   exact⟨by rw[HV.out];rfl,Below.refl _ _⟩
 ·have HV:=f1D (show a0P 10 most s=(match c0c 10 0 s with | none=>none | some n=>if numL 10 n=s then some n else none) by unfold a0P;rw[if_neg hbad]<;>rfl)
  have h0:0 < s.length:=by omega
  have h1:s.length≤most:=by omega
  have h1':(s.length:Int)≤(most:Int):=by omega
  have h0':(((s.length:Nat):Int)==0)=false:=by rw[beq_eq_false_iff_ne];omega
  clear hbad
  go_enter func160,ntmps160
  go_wp2
  go_loopw [7,8] (fun n i wr=>∃k m:Nat,k≤s.length∧i=.int .i64 k∧n=.int .i64 m∧m < 10^k∧c0c 10 m (s.drop k)=c0c 10 0 s∧Below w.heap.size w wr) (fun _ i _=>s.length - (intOf i).toNat)
  case atStart=>exact⟨0,0,by omega,rfl,rfl,by decide,rfl,Below.refl _ _⟩
  case round =>
   obtain⟨k,m,hk,rfl,rfl,hmk,hf,hbr⟩:=hrel
   by_cases hlt:k < s.length
   ·have hlt':(k:Int) < (s.length:Int):=by omega
    have hix:=a0V s k hlt
    have HF:=f1D hf
    have HG:=f1D (g0V 10 m k s hlt)
    have hP:10^k≤10^4:=Nat.pow_le_pow_right (by omega) (by omega)
    have HP:=f1D (show 10^(k+1)=10^k*10 from Nat.pow_succ ..)
    have hbd:=m0z 10 (s.getD k 0)
    generalize s.getD k 0=c at *
    clear hf
    obtain⟨wo,rfl⟩:∃wo:World,wo=wr:=⟨_,rfl⟩
    go_wp2
    go_loopw [9,10] (fun d j wr=>∃q:Nat,q≤10∧j=.int .i64 q∧d=.int .i64 (digI q c)∧Below w.heap.size w wr) (fun _ j _=>10 - (intOf j).toNat)
    case atStart=>exact⟨0,by omega,rfl,rfl,hbr⟩
    case round =>
     clear hbr
     obtain⟨q,hq,rfl,rfl,hbq⟩:=hrel
     by_cases hql:q < 10
     ·have hql':(q:Int) < 10:=by omega
      have hd:=g0T q (by omega)
      have HD:=f1D (g0w q c)
      by_cases he:hexD q=c
      ·have HD2:=f1D (HD.out.trans (if_pos he))
       rw[he] at hd
       clear he HD
       go_wp2
       refine wp_region_noPanic ?_
       refine wp_region_held_drew (S:=fun w'=>Below w.heap.size w w') (by kernel_rfl) (hbq.drew) (fun hHeld=>?_)
       refine rt 0 31 hHeld ?_
       refine rt 1 32 hHeld ?_
       refine rt 2 33 hHeld ?_
       refine rt 3 34 hHeld ?_
       refine rt 4 35 hHeld ?_
       refine rt 5 36 hHeld ?_
       refine wpAnyH_done (by kernel_rfl) ?_ _
       refine NoPanic.normal ?_
       go_wp2
       go_roundw
       case rel=>exact⟨q+1,by omega,by go_num,by rw[HD2.out],hbq.drew⟩
       case measure=>simp[intOf];omega
      ·have HD2:=f1D (HD.out.trans (if_neg he))
       have hb:(((hexD q).toNat:Int)==(c.toNat:Int))=false:=by
        rw[beq_eq_false_iff_ne]
        intro h
        exact he (UInt8.toNat_inj.1 (by omega))
       generalize hexD q=x at *
       clear he HD
       go_wp2
       refine wp_region_noPanic ?_
       refine wp_region_held_drew (S:=fun w'=>Below w.heap.size w w') (by kernel_rfl) (hbq.drew) (fun hHeld=>?_)
       refine rt 0 31 hHeld ?_
       refine rt 1 32 hHeld ?_
       refine rt 2 33 hHeld ?_
       refine rt 3 34 hHeld ?_
       refine rt 4 35 hHeld ?_
       refine rt 5 36 hHeld ?_
       refine wpAnyH_done (by kernel_rfl) ?_ _
       refine NoPanic.normal ?_
       go_wp2
       go_roundw
       case rel=>exact⟨q+1,by omega,by go_num,by rw[HD2.out],hbq.drew⟩
       case measure=>simp[intOf];omega
     ·obtain rfl:q=10:=by omega
      by_cases hneg:digI 10 c < 0
      ·have HV2:=f1D (show a0P 10 most s=none by rw[HV.out,←HF.out,HG.out,if_pos hneg])
       clear HV HF HG
       go_wp2
       go_ret
       exact⟨by rw[HV2.out];rfl,hbq⟩
      ·have HG2:=f1D (HF.out.symm.trans (HG.out.trans (if_neg hneg)))
       have hn0:0≤digI 10 c:=by omega
       have hdc:((digI 10 c).toNat:Int)=digI 10 c:=by omega
       generalize digI 10 c=d at *
       have hw1:IntKind.i64.wrap ((m:Int)*10)=(m:Int)*10:=by rw[IntKind.wrap_i64];omega
       have hw2:IntKind.i64.wrap ((m:Int)*10+d)=((m*10+d.toNat:Nat):Int):=by rw[IntKind.wrap_i64];omega
       have hm2:m*10+d.toNat < 10^(k+1):=by rw[HP.out];omega
       generalize m*10+d.toNat=m2 at *
       clear HF HG hneg hdc
       go_wp2
       go_roundw
       case rel=>exact⟨k+1,m2,by omega,by go_num,rfl,hm2,HG2.out.symm,hbq⟩
       case measure=>simp[intOf];omega
   ·obtain rfl:k=s.length:=by omega
    have HV2:=f1D (show a0P 10 most s=if numL 10 m=s then some m else none by
     rw[HV.out,←hf,List.drop_length];rfl)
    have hmm:m < 10^4:=Nat.lt_of_lt_of_le hmk (Nat.pow_le_pow_right (by omega) (by omega))
    have hn:=f1D (fun w'=>f0K m m w' (f1F _) (by omega))
    clear HV hf
    by_cases he:numL 10 m=s
    ·have HV3:=f1D (HV2.out.trans (if_pos he))
     rw[he] at hn
     clear HV2 he
     go_wp2_with (go_at_call 162;refine (hn.out _).mono ?_;rintro e w1 ⟨rfl,hb1⟩)
     go_ret
     exact⟨by rw[HV3.out];rfl,hbr.trans (hb1.mono hbr.size)⟩
    ·have HV3:=f1D (HV2.out.trans (if_neg he))
     have hne:((bstr (numL 10 m)).toList==(bstr s).toList)=false:=by rw[c0b];exact decide_eq_false he
     generalize numL 10 m=X at *
     clear HV2 he
     go_wp2_with (go_at_call 162;refine (hn.out _).mono ?_;rintro e w1 ⟨rfl,hb1⟩)
     go_ret
     exact⟨by rw[HV3.out];rfl,hbr.trans (hb1.mono hbr.size)⟩
theorem p0o (s:List UInt8) (most:Nat) (hm:most≤4) (w:World) :
  Calls prog 160 #[.string (bstr s),.int .i64 16,.int .i64 most] w fun e w'=>e=.returned (.int .i64 (optI (a0P 16 most s)))∧Below w.heap.size w w':=by
 have hz:=a0c s
 by_cases hbad:s.length=0∨most < s.length
 ·have HV:=f1D (show a0P 16 most s=none by unfold a0P;rw[if_pos hbad])
  by_cases h0:s.length=0
  ·have h0':((s.length:Nat):Int)=0:=by omega
   go_enter func160,ntmps160
   go_wp2
   go_ret
   exact⟨by rw[HV.out];rfl,Below.refl _ _⟩
  ·have h1':0 < s.length:=by omega
   have h2':(most:Int) < (s.length:Int):=by omega
   clear hbad
   go_enter func160,ntmps160
   go_wp2
   go_ret
   exact⟨by rw[HV.out];rfl,Below.refl _ _⟩
 ·have HV:=f1D (show a0P 16 most s=(match c0c 16 0 s with | none=>none | some n=>if numL 16 n=s then some n else none) by unfold a0P;rw[if_neg hbad]<;>rfl)
  have h0:0 < s.length:=by omega
  have h1:s.length≤most:=by omega
  have h1':(s.length:Int)≤(most:Int):=by omega
  have h0':(((s.length:Nat):Int)==0)=false:=by rw[beq_eq_false_iff_ne];omega
  clear hbad
  go_enter func160,ntmps160
  go_wp2
  go_loopw [7,8] (fun n i wr=>∃k m:Nat,k≤s.length∧i=.int .i64 k∧n=.int .i64 m∧m < 16^k∧c0c 16 m (s.drop k)=c0c 16 0 s∧Below w.heap.size w wr) (fun _ i _=>s.length - (intOf i).toNat)
  case atStart=>exact⟨0,0,by omega,rfl,rfl,by decide,rfl,Below.refl _ _⟩
  case round =>
   obtain⟨k,m,hk,rfl,rfl,hmk,hf,hbr⟩:=hrel
   by_cases hlt:k < s.length
   ·have hlt':(k:Int) < (s.length:Int):=by omega
    have hix:=a0V s k hlt
    have HF:=f1D hf
    have HG:=f1D (g0V 16 m k s hlt)
    have hP:16^k≤16^4:=Nat.pow_le_pow_right (by omega) (by omega)
    have HP:=f1D (show 16^(k+1)=16^k*16 from Nat.pow_succ ..)
    have hbd:=m0z 16 (s.getD k 0)
    generalize s.getD k 0=c at *
    clear hf
    obtain⟨wo,rfl⟩:∃wo:World,wo=wr:=⟨_,rfl⟩
    go_wp2
    go_loopw [9,10] (fun d j wr=>∃q:Nat,q≤16∧j=.int .i64 q∧d=.int .i64 (digI q c)∧Below w.heap.size w wr) (fun _ j _=>16 - (intOf j).toNat)
    case atStart=>exact⟨0,by omega,rfl,rfl,hbr⟩
    case round =>
     clear hbr
     obtain⟨q,hq,rfl,rfl,hbq⟩:=hrel
     by_cases hql:q < 16
     ·have hql':(q:Int) < 16:=by omega
      have hd:=g0T q (by omega)
      have HD:=f1D (g0w q c)
      by_cases he:hexD q=c
      ·have HD2:=f1D (HD.out.trans (if_pos he))
       rw[he] at hd
       clear he HD
       go_wp2
       refine wp_region_noPanic ?_
       refine wp_region_held_drew (S:=fun w'=>Below w.heap.size w w') (by kernel_rfl) (hbq.drew) (fun hHeld=>?_)
       refine rt 0 31 hHeld ?_
       refine rt 1 32 hHeld ?_
       refine rt 2 33 hHeld ?_
       refine rt 3 34 hHeld ?_
       refine rt 4 35 hHeld ?_
       refine rt 5 36 hHeld ?_
       refine wpAnyH_done (by kernel_rfl) ?_ _
       refine NoPanic.normal ?_
       go_wp2
       go_roundw
       case rel=>exact⟨q+1,by omega,by go_num,by rw[HD2.out],hbq.drew⟩
       case measure=>simp[intOf];omega
      ·have HD2:=f1D (HD.out.trans (if_neg he))
       have hb:(((hexD q).toNat:Int)==(c.toNat:Int))=false:=by
        rw[beq_eq_false_iff_ne]
        intro h
        exact he (UInt8.toNat_inj.1 (by omega))
       generalize hexD q=x at *
       clear he HD
       go_wp2
       refine wp_region_noPanic ?_
       refine wp_region_held_drew (S:=fun w'=>Below w.heap.size w w') (by kernel_rfl) (hbq.drew) (fun hHeld=>?_)
       refine rt 0 31 hHeld ?_
       refine rt 1 32 hHeld ?_
       refine rt 2 33 hHeld ?_
       refine rt 3 34 hHeld ?_
       refine rt 4 35 hHeld ?_
       refine rt 5 36 hHeld ?_
       refine wpAnyH_done (by kernel_rfl) ?_ _
       refine NoPanic.normal ?_
       go_wp2
       go_roundw
       case rel=>exact⟨q+1,by omega,by go_num,by rw[HD2.out],hbq.drew⟩
       case measure=>simp[intOf];omega
     ·obtain rfl:q=16:=by omega
      by_cases hneg:digI 16 c < 0
      ·have HV2:=f1D (show a0P 16 most s=none by rw[HV.out,←HF.out,HG.out,if_pos hneg])
       clear HV HF HG
       go_wp2
       go_ret
       exact⟨by rw[HV2.out];rfl,hbq⟩
      ·have HG2:=f1D (HF.out.symm.trans (HG.out.trans (if_neg hneg)))
       have hn0:0≤digI 16 c:=by omega
       have hdc:((digI 16 c).toNat:Int)=digI 16 c:=by omega
       generalize digI 16 c=d at *
       have hw1:IntKind.i64.wrap ((m:Int)*16)=(m:Int)*16:=by rw[IntKind.wrap_i64];omega
       have hw2:IntKind.i64.wrap ((m:Int)*16+d)=((m*16+d.toNat:Nat):Int):=by rw[IntKind.wrap_i64];omega
       have hm2:m*16+d.toNat < 16^(k+1):=by rw[HP.out];omega
       generalize m*16+d.toNat=m2 at *
       clear HF HG hneg hdc
       go_wp2
       go_roundw
       case rel=>exact⟨k+1,m2,by omega,by go_num,rfl,hm2,HG2.out.symm,hbq⟩
       case measure=>simp[intOf];omega
   ·obtain rfl:k=s.length:=by omega
    have HV2:=f1D (show a0P 16 most s=if numL 16 m=s then some m else none by
     rw[HV.out,←hf,List.drop_length];rfl)
    have hmm:m < 16^4:=Nat.lt_of_lt_of_le hmk (Nat.pow_le_pow_right (by omega) (by omega))
    have hn:=f1D (fun w'=>m0a m m w' (f1F _) (by omega))
    clear HV hf
    by_cases he:numL 16 m=s
    ·have HV3:=f1D (HV2.out.trans (if_pos he))
     rw[he] at hn
     clear HV2 he
     go_wp2_with (go_at_call 162;refine (hn.out _).mono ?_;rintro e w1 ⟨rfl,hb1⟩)
     go_ret
     exact⟨by rw[HV3.out];rfl,hbr.trans (hb1.mono hbr.size)⟩
    ·have HV3:=f1D (HV2.out.trans (if_neg he))
     have hne:((bstr (numL 16 m)).toList==(bstr s).toList)=false:=by rw[c0b];exact decide_eq_false he
     generalize numL 16 m=X at *
     clear HV2 he
     go_wp2_with (go_at_call 162;refine (hn.out _).mono ?_;rintro e w1 ⟨rfl,hb1⟩)
     go_ret
     exact⟨by rw[HV3.out];rfl,hbr.trans (hb1.mono hbr.size)⟩
def a0g (x:UInt8):List UInt8→List (List UInt8)
 | []=>[[]]
 | c :: s=>if c=x then [] :: a0g x s else match a0g x s with
  | []=>[[c]]
  | p :: ps=>(c :: p) :: ps
theorem f0j (x:UInt8) (s:List UInt8):a0g x s≠[]:=by
 cases s with
 | nil=>simp[a0g]
 | cons c s =>
  rw[a0g]
  split
  ·simp
  ·split<;>simp
theorem f0c (x:UInt8) (p t:List UInt8) (h:∀c∈p,c≠x):a0g x (p++x :: t)=p :: a0g x t:=by
 induction p with
 | nil=>simp[a0g]
 | cons c p ih =>
  rw[List.cons_append,a0g,if_neg (h c (List.mem_cons_self ..)),ih (fun q hq=>h q (List.mem_cons_of_mem _ hq))]
theorem d0g (x:UInt8) (p:List UInt8) (h:∀c∈p,c≠x):a0g x p=[p]:=by
 induction p with
 | nil=>rfl
 | cons c p ih=>rw[a0g,if_neg (h c (List.mem_cons_self ..)),ih (fun q hq=>h q (List.mem_cons_of_mem _ hq))]
theorem a0G (l:List UInt8) (i j:Nat):(bstr l).extract i j=bstr ((l.drop i).take (j - i)):=ByteArray.extract_mk l i j
theorem i0x (s:List UInt8) (f i:Nat) (hf:f≤i) (hi:i < s.length):s.drop f=(s.drop f).take (i - f)++s.getD i 0 :: s.drop (i+1):=by
 have e:s.drop f=(s.drop f).take (i - f)++(s.drop f).drop (i - f):=(List.take_append_drop ..).symm
 rw[List.drop_drop,show f+(i - f)=i by omega,List.drop_eq_getElem_cons hi] at e
 rw[List.getD_eq_getElem?_getD,List.getElem?_eq_getElem hi]
 exact e
theorem i0M (s:List UInt8) (f i:Nat) (hf:f≤i) (hi:i < s.length):(s.drop f).take (i+1 - f)=(s.drop f).take (i - f)++[s.getD i 0]:=by
 rw[show i+1 - f=(i - f)+1 by omega,List.take_add_one,List.getElem?_drop,show f+(i - f)=i by omega,List.getD_eq_getElem?_getD,List.getElem?_eq_getElem hi];rfl
theorem d0h (x:UInt8) (s:List UInt8):(a0g x s).length≤s.length+1:=by
 induction s with
 | nil=>exact f1F _
 | cons c s ih =>
  rw[a0g]
  split
  ·simp;exact ih
  ·split
   ·simp
   ·rename_i h;rw[h] at ih;simp at ih ⊢;omega
def b0i (x:UInt8):List (List UInt8)→List UInt8
 | []=>[]
 | [p]=>p
 | p :: q :: ps=>p++x :: b0i x (q :: ps)
theorem b0v (x:UInt8) (p:List UInt8) (ps:List (List UInt8)) (h:ps≠[]):b0i x (p :: ps)=p++x :: b0i x ps:=by
 cases ps with
 | nil=>exact absurd rfl h
 | cons q ps=>rfl
theorem h0H (x:UInt8) (ps:List (List UInt8)) (h:ps≠[]) (hx:∀p∈ps,∀c∈p,c≠x):a0g x (b0i x ps)=ps:=by
 induction ps with
 | nil=>exact absurd rfl h
 | cons p ps ih =>
  by_cases he:ps=[]
  ·subst he
   exact d0g x p (hx p (List.mem_cons_self ..))
  ·rw[b0v x p ps he,f0c x p _ (hx p (List.mem_cons_self ..)),ih he (fun q hq=>hx q (List.mem_cons_of_mem _ hq))]
theorem c0H (x:UInt8) (s:List UInt8):b0i x (a0g x s)=s:=by
 induction s with
 | nil=>rfl
 | cons c s ih =>
  rw[a0g]
  split
  ·rename_i h
   rw[b0v x [] _ (f0j x s),ih,h];rfl
  ·cases hsp:a0g x s with
   | nil=>exact absurd hsp (f0j x s)
   | cons p ps =>
    rw[hsp] at ih
    show b0i x ((c :: p) :: ps)=_
    by_cases he:ps=[]
    ·subst he
     show c :: p=_
     rw[show p=s from ih]
    ·rw[b0v x _ ps he]
     rw[b0v x _ ps he] at ih
     rw[List.cons_append,ih]
theorem j0w (x:UInt8) (ps:List (List UInt8)) (c:UInt8) (h:c∈b0i x ps):c=x∨∃p∈ps,c∈p:=by
 induction ps with
 | nil=>cases h
 | cons p ps ih =>
  by_cases he:ps=[]
  ·subst he
   exact .inr ⟨p,List.mem_cons_self ..,h⟩
  ·rw[b0v x p ps he] at h
   rcases List.mem_append.1 h with h | h
   ·exact .inr ⟨p,List.mem_cons_self ..,h⟩
   ·rcases List.mem_cons.1 h with h | h
    ·exact .inl h
    ·rcases ih h with h | ⟨q,hq,hc⟩
     ·exact .inl h
     ·exact .inr ⟨q,List.mem_cons_of_mem _ hq,hc⟩
theorem d0H (x:UInt8) (s:List UInt8):∀p∈a0g x s,p.length≤s.length:=by
 induction s with
 | nil=>intro p hp;rw[a0g] at hp;rw[List.mem_singleton.1 hp];exact f1F _
 | cons c s ih =>
  intro p hp
  rw[a0g] at hp
  split at hp
  ·rcases List.mem_cons.1 hp with rfl | hp
   ·simp
   ·have:=ih p hp;rw[List.length_cons];omega
  ·split at hp
   ·rw[List.mem_singleton.1 hp];simp
   ·rename_i q qs hq
    rcases List.mem_cons.1 hp with rfl | hp
    ·have:=ih q (by rw[hq];exact List.mem_cons_self ..);rw[List.length_cons,List.length_cons];omega
    ·have:=ih p (by rw[hq];exact List.mem_cons_of_mem _ hp);rw[List.length_cons];omega
theorem k0Y (x c:UInt8) (s:List UInt8):a0g x (c :: s)=if c=x then [] :: a0g x s else match a0g x s with
  | []=>[[c]]
  | p :: ps=>(c :: p) :: ps:=rfl
theorem u0A (x:UInt8) (s t:List UInt8):a0g x (s++x :: t)=a0g x s++a0g x t:=by
 have h1:=c0H x s
 induction s with
 | nil=>exact f0c x [] t (fun c hc=>by cases hc)
 | cons c s ih =>
  rw[List.cons_append,k0Y,k0Y x c s,ih (c0H x s)]
  by_cases hc:c=x
  ·rw[if_pos hc,if_pos hc];rfl
  ·rw[if_neg hc,if_neg hc]
   cases hs:a0g x s with
   | nil=>exact absurd hs (f0j x s)
   | cons p ps=>rfl
theorem w0m (x:UInt8) (a b:List (List UInt8)) (ha:a≠[]) (hb:b≠[]):b0i x (a++b)=b0i x a++x :: b0i x b:=by
 induction a with
 | nil=>exact absurd rfl ha
 | cons p ps ih =>
  by_cases hp:ps=[]
  ·subst hp
   rw[List.cons_append,List.nil_append,b0v x p b hb];rfl
  ·rw[List.cons_append,b0v x p _ (by simp[hp]),ih hp,b0v x p ps hp,List.append_assoc];rfl
theorem m0c (s:List UInt8) (x:UInt8) (hs:s.length≤1000) (w:World) :
  Calls prog 159 #[.string (bstr s),.int .u8 (x.toNat:Int)] w fun e w'=>∃v,e=.returned v∧w'.ownsRow w.heap.size 9 1 v (a0g x s).length (a0F (a0g x s))∧Below w.heap.size w w':=by
 obtain⟨i0,hi,hz0,hz1,hz2⟩:=info_parts k0l
 have hz:=a0c s
 have hown0:(w.alloc (.cells #[] 9)).ownsRow w.heap.size 9 1 (.slice (some ⟨w.heap.size,0,none⟩) 0 0) 0 (a0F []):=World.ownsRow_lit w (e:=9) (size:=1) #[] 0 (f1F _) (by unfold maxLen;omega) rfl
 have hb0:Below w.heap.size w (w.alloc (.cells #[] 9)):=(Below.refl _ w).alloc (f1F _) _
 go_enter func159,ntmps159
 go_wp2
 go_loopw [5,6,7] (fun v f i wr=>∃(out:List (List UInt8)) (g k:Nat),k≤s.length+1∧g≤k∧i=.int .i64 k∧f=.int .i64 g∧wr.ownsRow w.heap.size 9 1 v out.length (a0F out)∧Below w.heap.size w wr∧out.length≤k ∧
   (k≤s.length∧out++a0g x (s.drop g)=a0g x s∧(∀c∈(s.drop g).take (k - g),c≠x)∨k=s.length+1∧out=a0g x s)) (fun _ _ i _=>s.length+1 - (intOf i).toNat)
 case atStart=>exact⟨[],0,0,by omega,by omega,rfl,rfl,hown0,hb0,by simp,.inl ⟨by omega,rfl,by simp⟩⟩
 case round =>
  clear hown0 hb0
  obtain⟨out,g,k,hk,hg,rfl,rfl,hown,hb,hol,hcase⟩:=hrel
  by_cases hlt:k≤s.length
  ·obtain⟨-,hsp,hno⟩:k≤s.length∧out++a0g x (s.drop g)=a0g x s∧(∀c∈(s.drop g).take (k - g),c≠x):=by
    rcases hcase with h | ⟨h,_⟩
    ·exact h
    ·omega
   have hlt':(k:Int)≤(s.length:Int):=by omega
   have hg':(g:Int)≤(k:Int):=by omega
   have hex:=a0G s g k
   have hbs:=hb.size
   have n1:out.length+1≤maxLen:=by unfold maxLen;omega
   have n2:(out.length+1)*16≤140737488355328:=by omega
   by_cases he:k=s.length
   ·have heb:((k:Int)==(s.length:Int))=true:=by rw[he];exact beq_self_eq_true _
    have HF:=f1D (show out++[(s.drop g).take (k - g)]=a0g x s by
     have e:(s.drop g).take (k - g)=s.drop g:=by rw[List.take_of_length_le];rw[List.length_drop];omega
     rw[e] at hno ⊢
     rw[←hsp,d0g x _ hno])
    have HK:=f1D he
    generalize (s.drop g).take (k - g)=p at *
    clear hcase hsp hno he
    have hslp:Sl (wr.alloc (.cells #[.string (bstr p)] 9)) (some ⟨wr.heap.size,0,none⟩) 1 (a0F [p]):=d0c (a0F [p]) rfl 1 rfl
    have howna:=hown.alloc (.cells #[.string (bstr p)] 9)
    have hbe:=hb.alloc hb.size (.cells #[.string (bstr p)] 9)
    go_wp2_with (at_builtin;refine a0j rfl (.tmp 26) (.tmp 31) 24 rfl w.heap.size 9 i0 _ 16 underlying24 hi hz0 hz1 hz2 rfl _ out.length (a0F out) rfl howna (some ⟨wr.heap.size,0,none⟩) 1 1 (a0F [p]) rfl rfl hslp (d0I _) n1 n2 hbe.size ?_;intro v3 w3 hown3 hg3;have hb3:=hbe.grown hg3 hbe.size (fun j hj=>(howna.lt j hj).1);rw[←c0M] at hown3)
    go_roundw
    case rel=>exact⟨out++[p],k+1,k+1,by omega,by omega,by go_num,by go_num,by rw[List.length_append];exact hown3,hb3,by rw[List.length_append];simp;omega,.inr ⟨by rw[HK.out],HF.out⟩⟩
    case measure=>simp[intOf];omega
   ·have heb:((k:Int)==(s.length:Int))=false:=by rw[beq_eq_false_iff_ne];omega
    have hlt2:k < s.length:=by omega
    have hix:=a0V s k hlt2
    by_cases hc:s.getD k 0=x
    ·have e2:a0g x (s.drop g)=(s.drop g).take (k - g) :: a0g x (s.drop (k+1)):=by
      conv=>lhs;rw[i0x s g k hg hlt2,hc]
      exact f0c x _ _ hno
     have HF:=f1D (show (out++[(s.drop g).take (k - g)])++a0g x (s.drop (k+1))=a0g x s by
      rw[←hsp,e2,List.append_assoc];rfl)
     rw[hc] at hix
     generalize (s.drop g).take (k - g)=p at *
     clear hcase hsp hno hc e2
     have hslp:Sl (wr.alloc (.cells #[.string (bstr p)] 9)) (some ⟨wr.heap.size,0,none⟩) 1 (a0F [p]):=d0c (a0F [p]) rfl 1 rfl
     have howna:=hown.alloc (.cells #[.string (bstr p)] 9)
     have hbe:=hb.alloc hb.size (.cells #[.string (bstr p)] 9)
     go_wp2_with (at_builtin;refine a0j rfl (.tmp 26) (.tmp 31) 24 rfl w.heap.size 9 i0 _ 16 underlying24 hi hz0 hz1 hz2 rfl _ out.length (a0F out) rfl howna (some ⟨wr.heap.size,0,none⟩) 1 1 (a0F [p]) rfl rfl hslp (d0I _) n1 n2 hbe.size ?_;intro v3 w3 hown3 hg3;have hb3:=hbe.grown hg3 hbe.size (fun j hj=>(howna.lt j hj).1);rw[←c0M] at hown3)
     go_roundw
     case rel=>exact⟨out++[p],k+1,k+1,by omega,by omega,by go_num,by go_num,by rw[List.length_append];exact hown3,hb3,by rw[List.length_append];simp;omega,.inl ⟨by omega,HF.out,by simp⟩⟩
     case measure=>simp[intOf];omega
    ·have HN:=f1D (show ∀c∈(s.drop g).take (k+1 - g),c≠x by
      rw[i0M s g k hg hlt2]
      intro c hcm
      rcases List.mem_append.1 hcm with h | h
      ·exact hno c h
      ·rw[List.mem_singleton.1 h];exact hc)
     have HS:=f1D hsp
     have hxc:(((s.getD k 0).toNat:Int)==(x.toNat:Int))=false:=by
      rw[beq_eq_false_iff_ne]
      intro h
      exact hc (UInt8.toNat_inj.1 (by omega))
     generalize s.getD k 0=y at *
     clear hcase hsp hno hc hex
     go_wp2
     go_roundw
     case rel=>exact⟨out,g,k+1,by omega,by omega,by go_num,rfl,hown,hb,by omega,.inl ⟨by omega,HS.out,HN.out⟩⟩
     case measure=>simp[intOf];omega
  ·obtain rfl:k=s.length+1:=by omega
   obtain rfl:out=a0g x s:=by
    rcases hcase with ⟨h,_⟩ | ⟨_,h⟩
    ·omega
    ·exact h
   have hgt:(s.length:Int) < ((s.length+1:Nat):Int):=by omega
   clear hcase
   go_wp2
   go_ret
   exact⟨_,rfl,hown,hb⟩
end Go.Proofs.YtcbilopdeiapjaaGreatDoor
