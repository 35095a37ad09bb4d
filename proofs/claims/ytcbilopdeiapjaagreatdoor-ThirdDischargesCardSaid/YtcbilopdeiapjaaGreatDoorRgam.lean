import Derived.Test.YtcbilopdeiapjaaGreatDoorRgal
set_option maxHeartbeats 16000000
set_option maxRecDepth 100000
open Go.Proofs.Tryz
namespace Go.Proofs.YtcbilopdeiapjaaGreatDoor
open Go Go.RowKit
theorem t0S {w:World} {A B:Option Addr} {c d:Nat} {l k:List UInt8} (h:Sl w A c (byts l)) (g:Sl w B d (byts k)) :
  h0h (w.alloc (.cells #[.slice A l.length c,.slice B k.length d] 61)) (some ⟨w.heap.size,0,none⟩) 2 [(A,c,l),(B,d,k)]:=by
 have r:=Row.new w 61 [.slice A l.length c,.slice B k.length d]
 have hb:=(Below.refl w.heap.size w).alloc (f1F _) (.cells #[.slice A l.length c,.slice B k.length d] 61)
 refine⟨⟨Rd.row (ys:=[]) (by rw[List.append_nil];exact r),by simp,fun h=>by cases h⟩,fun p hp=>?_⟩
 simp only[List.mem_cons,List.not_mem_nil,or_false] at hp
 rcases hp with rfl | rfl
 ·exact h.later (f1F _) hb
 ·exact g.later (f1F _) hb
theorem g0U (key:List UInt8) (hk:key.length=32) (use:List UInt8) (A:Option Addr) (n c:Nat) (ss:List (List UInt8)) (w:World) (hT:Tabs w) (hs:Sl w A c (a0F ss)) (hn:n=ss.length) (hm:sumS (use :: ss)≤1000000000) :
  Calls prog 22 #[.agg (byts key).toArray,.string (bstr use),.slice A n c] w fun e w'=>e=.returned (.agg (byts (keyD key use ss)).toArray)∧Below w.heap.size w w':=by
 subst hn
 have hFl:=d0T (use :: ss)
 have hm1:sumS [use]≤1000000000:=by have:=y0k (use :: ss) 1;rw[show (use :: ss).take 1=[use] from rfl] at this;omega
 have hm2:sumS ss≤1000000000:=by have h2:sumS (use :: ss)=use.length+1+sumS ss:=rfl;omega
 obtain⟨K,hK⟩:∃K,K=byts key:=⟨_,rfl⟩
 have HK:=f1D hK
 have hKl:K.length=32:=by rw[hK,a0b];exact hk
 obtain⟨V,hV⟩:∃V,V=byts (keyD key use ss):=⟨_,rfl⟩
 have hVl:V.length=32:=by rw[hV,a0b];exact b0H _ _ _
 have hone:=f1D (show ∀v∈V,v.oneCell'=true by rw[hV];exact a0o _)
 have hszl:=f1D (show (prog.info? 23).map (·.size)=some V.length by rw[a0t,hVl])
 have hsz2:=f1D (show (prog.info? 23).map (·.size)=some V.toArray.size by rw[a0t,List.size_toArray,hVl])
 have hfit:=f1D (show 0+V.length≤(List.replicate 32 (Value.int .u8 0)).length by rw[hVl,List.length_replicate];decide)
 have HVr:=f1D (show splice (List.replicate 32 (Value.int .u8 0)) 0 V=V by
  unfold splice
  rw[List.take_zero,List.nil_append,Nat.zero_add,hVl,List.drop_of_length_le (by rw[List.length_replicate];exact f1F _),List.append_nil])
 have hkl:=f1D hk
 obtain⟨F1,hF1⟩:∃F,F=c0z [use]:=⟨_,rfl⟩
 obtain⟨F2,hF2⟩:∃F,F=c0z ss:=⟨_,rfl⟩
 have hF12:=f1D (show ∀(A4 A5:Option Addr) (c4 c5:Nat),flat [(A4,c4,F1),(A5,c5,F2)]=c0z (use :: ss) by
  intros
  rw[hF1,hF2,show use :: ss=[use]++ss from rfl,h0P]
  simp[flat])
 have hFm:=f1D (show ∀(A4 A5:Option Addr) (c4 c5:Nat),64+(flat [(A4,c4,F1),(A5,c5,F2)]).length≤2305843009213693952 by
  intros
  rw[hF12.out _ _ _ _];omega)
 have hf1:=f1D (show ∀w1 B d,Sl w1 B d (a0F [use])→Calls prog 38 #[.slice B 1 d] w1 (a0H F1 w1) by
  rw[hF1]
  exact fun w1 B d h=>l0D B 1 d [use] w1 h rfl hm1)
 have hf2:=f1D (show ∀w1,Sl w1 A c (a0F ss)→Calls prog 38 #[.slice A ss.length c] w1 (a0H F2 w1) by
  rw[hF2]
  exact fun w1 h=>l0D A ss.length c ss w1 h rfl hm2)
 have HV:=f1D (show V=byts (macL key (c0z (use :: ss))) by rw[hV];rfl)
 have HVD:=f1D hV
 rw[←hK]
 clear hV hVl hK hF1 hF2 hFl hk
 go_enter func22,ntmps22
 go_wp2_with fail
 generalize hw2:World.alloc (World.alloc w _) _=w2
 obtain⟨r0,r1,hb2,_hs2⟩:=d0Y (A:=K) (B:=List.replicate 32 (.int .u8 0)) hw2
 clear hw2 _hs2
 have hsl2:=hs.later (f1F _) hb2
 have hT2:=hT.later hb2 (f1F _)
 have hslK:Sl w2 (some ⟨w.heap.size,0,none⟩) 32 (byts key):=⟨Rd.row (ys:=[]) (by rw[List.append_nil,←HK.out];exact r0),by rw[a0b,hkl.out];exact f1F _,fun h=>by cases h⟩
 clear r0 hs
 refine wp_region_noPanic ?_
 refine wp_region_held_drew (S:=fun _=>True) (by kernel_rfl) (trivial) (fun hHeld=>?_)
 refine rt 0 7 hHeld ?_
 refine rt 1 8 hHeld ?_
 refine rt 4 11 hHeld ?_
 refine rc1 2 fun K hK=>?_
 refine b0q (some 9) rfl (by rfl) (.slice (some ⟨w2.heap.size,0,none⟩) 1 1) (.cells #[.string (bstr use)] 9) (by go_simp) ?_;intro w3 hw3 hb3;have hsu:Sl w3 (some ⟨w2.heap.size,0,none⟩) 1 (a0F [use]):=(by rw[hw3];exact⟨Rd.row (ys:=[]) (by rw[List.append_nil];exact Row.new w2.drew 9 (a0F [use])),by rw[a0w];exact f1F _,fun h=>by cases h⟩);have hb23:Below w2.heap.size w2 w3:=(Below.refl w2.heap.size w2).drew.trans hb3;clear hw3
 refine rk hK (trivial) fun hHeld=>?_
 clear hK K
 refine rc1 3 fun K hK=>?_
 go_simp
 refine (hf1.out _ _ _ hsu).mono ?_;rintro e w4 ⟨v4,rfl,hown4,hb4⟩;obtain⟨A4,c4,rfl,_,hsl4⟩:=Sl.of_own hown4;have hb24:=a0a hb23 hb4;clear hown4
 try go_wp2_with fail
 refine hK.out _ _ (trivial) (fun hHeld=>?_)
 clear hK K
 refine rc1 5 fun K hK=>?_
 go_simp
 refine (hf2.out _ (hsl2.later (f1F _) hb24)).mono ?_;rintro e w5 ⟨v5,rfl,hown5,hb5⟩;obtain⟨A5,c5,rfl,_,hsl5⟩:=Sl.of_own hown5;have hb25:=a0a hb24 hb5;clear hown5
 try go_wp2_with fail
 refine hK.out _ _ (trivial) (fun hHeld=>?_)
 clear hK K
 refine rc1 6 fun K hK=>?_
 refine b0q (some 13) rfl (by rfl) (.slice (some ⟨w5.heap.size,0,none⟩) 2 2) (.cells #[.slice A4 F1.length c4,.slice A5 F2.length c5] 61) (by go_simp) ?_;intro w6 hw6 hb6;have hpt:h0h w6 (some ⟨w5.heap.size,0,none⟩) 2 [(A4,c4,F1),(A5,c5,F2)]:=(by rw[hw6];exact t0S (hsl4.later (f1F _) hb5) hsl5);have hb26:=a0a hb25 hb6;clear hw6
 refine rk hK (trivial) fun hHeld=>?_
 clear hK K
 refine rc1 7 fun K hK=>?_
 go_simp
 refine (c1q (some ⟨w.heap.size,0,none⟩) 32 32 key (some ⟨w5.heap.size,0,none⟩) 2 2 [(A4,c4,F1),(A5,c5,F2)] _ (hT2.later hb26 (f1F _)) (hslK.later (f1F _) hb26) hkl.out.symm hpt rfl (by rw[hkl.out];decide) (hFm.out _ _ _ _) (by simp)).mono ?_;rintro e w7 ⟨rfl,hb7⟩;have hb27:=a0a hb26 hb7;rw[hF12.out _ _ _ _,←HV.out]
 try go_wp2_with fail
 refine hK.out _ _ (trivial) (fun hHeld=>?_)
 clear hK K
 refine rc1 8 fun K hK=>?_
 refine a0R none rfl (by rfl) 23 (.tmp 6) (.tmp 14) rfl (w.heap.size+1) 0 23 _ V rfl rfl (r1.later hb27 r1.lt) hfit.out hszl.out hone.out ?_;intro w9 r9 hg9
 refine hK.out _ _ (trivial) (fun _=>?_)
 clear hK K
 rw[a0u]
 refine wpAnyH_done (by kernel_rfl) ?_ _
 refine NoPanic.normal ?_
 have r9:Row w9 (w.heap.size+1) 23 V:=by rw[HVr.out] at r9;exact r9
 have hb9:=(hb2.trans (hb27.mono hb2.size)).grown hg9 (Nat.le_trans hb2.size hb27.size) (fun k h=>by cases h;omega)
 have R9:=f1D (show w9.heap[w.heap.size+1]?=some (.cells V.toArray 23 (0,0)) from r9)
 clear r9 hg9 r1 hslK hsl2 hsu hsl4 hsl5 hpt hb3 hb4 hb5 hb6 hb7 hb23 hb24 hb25 hb26 hb27 hb2
 go_wp2_with (with_reducible refine bodyPost_ret (results_cell_row rfl _ _ (w.heap.size+1) 23 V.toArray (0,0) (.array 32 5) rfl R9.out underlying23 rfl hsz2.out) rfl ?_)
 exact⟨by rw[HVD.out],hb9⟩
theorem i0F (n:Nat) (h:n < 128):(varL n).length=1:=by rw[m0m n h];rfl
theorem k0u (n:Nat) (h:¬n < 128) (hn:n < 18446744073709551616):(varL n).length=(varL (n/128)).length+1:=by rw[s0u n h hn];rfl
theorem u0P (m:Nat) (hm:m < 18446744073709551616) (w:World) :
  Calls prog 217 #[.int .u64 m] w fun e w'=>e=.returned (.int .i64 ((varL m).length:Int))∧w'=w:=by
 go_enter func217,ntmps217
 go_wp2_with fail
 go_loop [0,3] (fun x s=>∃q k:Nat,q < 18446744073709551616∧x=.int .u64 q∧s=.int .i64 ((k:Int)+1)∧(varL m).length+1=(varL q).length+(k+1)) (fun x _=>(intOf x).toNat)
 case atStart=>exact⟨m,0,hm,rfl,rfl,rfl⟩
 case round =>
  obtain⟨q,k,hq,rfl,rfl,hlen⟩:=hrel
  have hl:=c0j m
  have hlq:=c0j q
  by_cases h0:q < 128
  ·rw[i0F q h0] at hlen
   have hk:=f1D (show (varL m).length=k+1 by omega)
   have hge:¬(128:Int)≤(q:Int):=by omega
   clear hl hlq hlen hm
   go_wp2
   go_ret
   exact⟨by rw[hk.out];rfl,rfl⟩
  ·have hlt:(128:Int)≤(q:Int):=by omega
   rw[k0u q h0 hq] at hlen
   have hlq2:=c0j (q/128)
   obtain⟨q2,hq2⟩:∃q2,q2=q/128:=⟨_,rfl⟩
   have hquo:(q:Int)/128=(q2:Int):=by rw[hq2];omega
   have hsm:q2 < 18446744073709551616∧q2 < q:=by omega
   rw[←hq2] at hlen hlq2
   have hkb:(k:Int)≤10:=by omega
   have hlen:=f1D hlen
   clear hl hlq hlq2 hq2
   go_wp2
   go_round
   case rel=>exact⟨q2,k+1,hsm.1,rfl,rfl,by have:=hlen.out;omega⟩
   case measure=>have:=hsm.2;simp[intOf];omega
theorem d1Q:∀y:Nat,y < 256→bits .or .u8 (y:Int) 128=((y%128+128:Nat):Int):=by decide +kernel
theorem s0v (A:Option Addr) (n c:Nat) (l:List UInt8) (m:Nat) (hm:m < 18446744073709551616) (w:World) (hs:Sl w A c (byts l)) (hn:n=l.length) (hl:l.length≤1000000) :
  Calls prog 170 #[.slice A n c,.int .u64 m] w (a0H (l++varL m) w):=by
 subst hn
 obtain⟨i0,hi,hz0,hz1,hz2⟩:=info_parts infoByte
 have hlm:=c0j m
 obtain⟨T,hT⟩:∃T,T=l.length+(varL m).length:=⟨_,rfl⟩
 have hTb:T≤1000010:=by omega
 have hsum:(l.length:Int)+((varL m).length:Int)=(T:Int):=by omega
 have hlT:l.length≤T:=by omega
 have hmk:i0.bytes*T≤281474976710656:=by rw[hz2];omega
 have hTm:T≤maxLen:=by unfold maxLen;omega
 have HL:=f1D (show l.length=(byts l).length from (a0b l).symm)
 have hsz:=f1D (fun w1=>u0P m hm w1)
 have hm64:=f1D hm
 have HTT:=f1D hT
 clear hm hT hlm
 go_enter func170,ntmps170
 go_wp2_with (first
  | (go_at_call 217;refine (hsz.out _).mono ?_;rintro e w1 ⟨rfl,rfl⟩)
  | (at_make;refine wpList_make_own _ rfl _ _ 61 rfl w1.heap.size 5 i0 _ 1 underlying61 hi hz0 hz1 _ _ _ T rfl rfl rfl hmk hTm (f1F _) ?_;intro w2 hown2 hg2;have hb2:Below w1.heap.size w1 w2:=(Below.refl _ _).grown hg2 (f1F _) (fun _ h=>by cases h);have hs2:=hs.later (f1F _) hb2;clear hg2)
  | (at_builtin;refine a0j rfl (.tmp 12) (.tmp 13) 61 rfl w1.heap.size 5 i0 _ 1 underlying61 hi hz0 hz1 hz2 rfl _ 0 [] rfl hown2 A l.length c (byts l) rfl HL.out hs2 (a0o _) (by unfold maxLen;omega) (by omega) hb2.size ?_;intro v3 w3 hown3 hg3;have hb3:Below w1.heap.size w1 w3:=hb2.grown hg3 hb2.size (fun k hk=>(hown2.lt k hk).1);rw[Nat.zero_add,List.nil_append] at hown3;clear hg3 hown2 hb2 hs2 hs))
 go_loopw [1,5] (fun x v wr=>∃(q:Nat) (X:List UInt8),q < 18446744073709551616∧x=.int .u64 q∧wr.ownsRow w1.heap.size 5 1 v X.length (byts X)∧Below w1.heap.size w1 wr∧l++varL m=X++varL q) (fun x _ _=>(intOf x).toNat)
 case atStart=>exact⟨m,l,hm64.out,rfl,hown3,hb3,rfl⟩
 case round =>
  clear hown3 hb3 hsum hlT hmk hTm
  obtain⟨q,X,hq,rfl,hown,hb,hlist⟩:=hrel
  have hXl:X.length≤1000010:=by
   have:=congrArg List.length hlist
   have h2:=HTT.out
   rw[List.length_append,List.length_append] at this
   omega
  have HX:=f1D (show X.length=(byts X).length from (a0b X).symm)
  have hm1:X.length+1≤maxLen:=by unfold maxLen;omega
  have hm2:(X.length+1)*1≤140737488355328:=by omega
  have hbw:=hb.alloc hb.size
  by_cases h0:q < 128
  ·have HLs:=f1D (show l++varL m=X++[UInt8.ofNat q] by rw[hlist,m0m q h0])
   have hge:¬(128:Int)≤(q:Int):=by omega
   have hcv:IntKind.u8.wrap (q:Int)=(q:Int):=by rw[IntKind.wrap_u8];omega
   have HB:=f1D (show (#[Value.int .u8 (q:Int)]:Array Value)=(byts [UInt8.ofNat q]).toArray by
    show _=#[Value.int .u8 ((UInt8.ofNat q).toNat:Int)]
    rw[f0r q (by omega)])
   have hsl1:=k0T wr [UInt8.ofNat q] _ (0,0) HB.out 1 rfl
   have hown1:=a0D hown ((Below.refl wr.heap.size wr).alloc (f1F _) (.cells #[Value.int .u8 (q:Int)] 5)) (f1F _)
   have hb1:=hbw (.cells #[Value.int .u8 (q:Int)] 5)
   clear hown hb hbw hXl h0 hq hlist
   go_wp2_with (at_builtin;refine a0j rfl (.tmp 25) (.tmp 28) 61 rfl w1.heap.size 5 i0 _ 1 underlying61 hi hz0 hz1 hz2 rfl _ X.length (byts X) rfl hown1 (some ⟨wr.heap.size,0,none⟩) 1 1 (byts [UInt8.ofNat q]) rfl rfl hsl1 (a0o _) hm1 hm2 hb1.size ?_;intro v4 w4 hown4 hg4;have hb4:=hb1.grown hg4 hb1.size (fun k hk=>(hown1.lt k hk).1))
   go_ret
   rw[←a0h,←HLs.out] at hown4
   rw[show X.length+1=(l++varL m).length by rw[HLs.out,List.length_append];rfl] at hown4
   exact⟨_,rfl,hown4,hb4⟩
  ·have hlt:(128:Int)≤(q:Int):=by omega
   obtain⟨q2,hq2⟩:∃q2,q2=q/128:=⟨_,rfl⟩
   obtain⟨z,hz⟩:∃z,z=q%128:=⟨_,rfl⟩
   obtain⟨y,hy⟩:∃y,y=q%256:=⟨_,rfl⟩
   have hquo:(q:Int)/128=(q2:Int):=by rw[hq2];omega
   have hcv:IntKind.u8.wrap (q:Int)=(y:Int):=by rw[IntKind.wrap_u8,hy];omega
   have hor:bits .or .u8 (y:Int) 128=(z:Int)+128:=by
    rw[d1Q y (by omega),hz,hy];omega
   have HLs:=f1D (show l++varL m=(X++[UInt8.ofNat (z+128)])++varL q2 by rw[hlist,s0u q h0 hq,hz,hq2];simp)
   have HB:=f1D (show (#[Value.int .u8 ((z:Int)+128)]:Array Value)=(byts [UInt8.ofNat (z+128)]).toArray by
    show _=#[Value.int .u8 ((UInt8.ofNat (z+128)).toNat:Int)]
    rw[f0r (z+128) (by omega)];rfl)
   have hsl1:=k0T wr [UInt8.ofNat (z+128)] _ (0,0) HB.out 1 rfl
   have hown1:=a0D hown ((Below.refl wr.heap.size wr).alloc (f1F _) (.cells #[Value.int .u8 ((z:Int)+128)] 5)) (f1F _)
   have hb1:=hbw (.cells #[Value.int .u8 ((z:Int)+128)] 5)
   have hsm:Hid (q2 < 18446744073709551616∧q2 < q):=f1D (by omega)
   clear hown hb hbw hXl h0 hq hq2 hz hy hlist
   go_wp2_with (at_builtin;refine a0j rfl (.tmp 19) (.tmp 23) 61 rfl w1.heap.size 5 i0 _ 1 underlying61 hi hz0 hz1 hz2 rfl _ X.length (byts X) rfl hown1 (some ⟨wr.heap.size,0,none⟩) 1 1 (byts [UInt8.ofNat (z+128)]) rfl rfl hsl1 (a0o _) hm1 hm2 hb1.size ?_;intro v4 w4 hown4 hg4;have hb4:=hb1.grown hg4 hb1.size (fun k hk=>(hown1.lt k hk).1))
   go_roundw
   case rel =>
    rw[←a0h] at hown4
    rw[show X.length+1=(X++[UInt8.ofNat (z+128)]).length by rw[List.length_append];rfl] at hown4
    exact⟨q2,_,hsm.out.1,rfl,hown4,hb4,HLs.out⟩
   case measure=>have:=hsm.out.2;simp[intOf];omega
theorem k0Q {P:Program} (w:World) (t ty e:TypeId) (i:TypeInfo) (z:Value) (k bytes:Nat) (ht:P.underlying t=some (.slice e)) (hi:P.info? e=some i) (hz:i.zero=some z)
  (hsize:i.size=k) (hk:0 < k) (hby:i.bytes=bytes) (hzs:z.cells.size=k) (A0:Option Addr) (n:Nat) (xs:List Value) (hxs:xs.length=n*k) (hsx:Sl w A0 (n*k) xs)
  (A:Option Addr) (m c:Nat) (news:List Value) (hm:news.length=m*k) (h0:0 < m) (hsl:Sl w A (c*k) news) (h1:∀u∈news,u.oneCell'=true)
  (h63:n+m≤maxLen) (hbytes:(n+m)*bytes≤140737488355328) :
  ∃v' w',(Builtin.append_ #[t,t] ty #[.slice A0 n n,.slice A m c]).run P w=.ok v' w'∧w'.ownsRow w.heap.size e k v' (n+m) (xs++news)∧Below w.heap.size w w':=by
 cases A0 with
 | none =>
  have hn:n=0:=by
   rcases Nat.mul_eq_zero.1 (hsx.bare rfl) with h | h
   ·exact h
   ·omega
  subst hn
  obtain rfl:xs=[]:=List.eq_nil_of_length_eq_zero (by omega)
  obtain⟨v',w',hr,h2,h3⟩:=g0H (P:=P) w w.heap.size t ty e i z k bytes ht hi hz hsize hk hby hzs (.slice none 0 0) 0 [] (World.ownsRow_nil w _ e k) A m c news hm hsl h1 h63 hbytes (f1F _)
  exact⟨v',w',hr,h2,h0n h3⟩
 | some ad =>
  subst hsize hby
  obtain⟨b',o',rfl,_,_⟩:=hsl.rd.get (i:=0) (by rw[hm];exact Nat.mul_pos h0 hk)
  have hr:=run_append_grow (P:=P) (w:=w) t ty e i z ht hi hz ad n n xs hxs hsx.rd.at_add ⟨b',o',none⟩ m c news hm hsl.rd.at_add (by omega) (by unfold maxLen at h63;omega) (growslice_fits (by omega) hbytes)
  have hge:=grownCap_ge w (n+m) n e
  have hcm:grownCap w (n+m) n e≤maxLen:=grownCap_le_maxLen w (n+m) n e h63
  have hlen:(xs++news).length=(n+m)*i.size:=by rw[List.length_append,hxs,hm,Nat.add_mul]
  refine⟨_,_,hr,⟨hlen,.inr ⟨w.heap.size,_,_,rfl,f1F _,heap_alloc_new w.drew _,hge,hcm,?_,?_⟩⟩,((Below.refl _ w).drew).alloc (f1F _) _⟩
  ·simp only[Array.size_append,List.size_toArray,size_zeroCells,hzs,hxs,hm,←Nat.add_mul]
   congr 1
   omega
  ·simp only[Array.toList_append,List.append_assoc]
   rw[←List.append_assoc,←hlen]
   exact List.take_left
theorem j0m {P:Program} {w:World} {ops:Array Oper} {o:Oper} {a:Act} {K:Act→World→Prop} {Q:Exit→Act→World→Prop} {E:Prop} (dst:Option Tmp) (hdst:o.dst=dst) (hgd:Region.wanted o (yielded ops a.tmps)=true) (s x:Operand) (t:TypeId)
  (ho:o.op=.call { callee:=.builtin .append,args:=#[s,x],argTypes:=#[t,t] })
  (e:TypeId) (i:TypeInfo) (z:Value) (k bytes:Nat) (ht:P.underlying t=some (.slice e)) (hi:P.info? e=some i) (hz:i.zero=some z)
  (hsize:i.size=k) (hk:0 < k) (hby:i.bytes=bytes) (hzs:z.cells.size=k)
  (A0:Option Addr) (n:Nat) (xs:List Value) (hs:a.eval s=.slice A0 n n) (hxs:xs.length=n*k) (hsx:Sl w A0 (n*k) xs)
  (A:Option Addr) (m c:Nat) (news:List Value) (hx:a.eval x=.slice A m c) (hm:news.length=m*k) (h0:0 < m) (hsl:Sl w A (c*k) news) (h1:∀u∈news,u.oneCell'=true)
  (h63:n+m≤maxLen) (hbytes:(n+m)*bytes≤140737488355328)
  (h:∀v' w',w'.ownsRow w.heap.size e k v' (n+m) (xs++news)→Below w.heap.size w w'→K (a.put dst v') w') :
  if Region.wanted o (yielded ops a.tmps)=true then Oper.wp P o a w K Q else E:=by
 subst hdst
 rw[if_pos hgd]
 obtain⟨v',w',hrun,h2,h3⟩:=k0Q (P:=P) w t o.type e i z k bytes ht hi hz hsize hk hby hzs A0 n xs hxs hsx A m c news hm h0 hsl h1 h63 hbytes
 unfold Oper.wp execOp
 simp only[ho,resolve,invoke,builtin,Sem.run_bind,Sem.run_pure,Result.andThen_ok,List.map_toArray,List.map_cons,List.map_nil,hs,hx,hrun]
 exact h v' w' h2 h3
theorem u0B (l:List UInt8):Lib.strCells (bstr l)=byts l:=by unfold Lib.strCells bstr byts;simp
theorem y0a:(prog.info? 182).map (·.size)=some 2:=by kernel_rfl
theorem z0I (A:Option Addr) (b o n c k:Nat) (hA:A=some ⟨b,o,none⟩) (hk:k < n) (w:World) :
  (Instr.indexAt 137 (.slice A n c) (.int .i64 k)).run prog w=.ok (.pointer (some ⟨b,o+k*2,none⟩)) w:=by
 subst hA
 have h:(k:Int) < (n:Int):=by omega
 go_simp
theorem z0n (A:Option Addr) (n c:Nat) (hn:n≤c) (hA:A=none→c=0) (w:World) :
  (Instr.sliceAt 61 (.slice A n c) none (some (.int .i64 n)) (some (.int .i64 n))).run prog w=.ok (.slice A n n) w:=by
 have h:(n:Int)≤(c:Int):=by omega
 cases A with
 | none =>
  have hc:=hA rfl
  subst hc
  obtain rfl:n=0:=by omega
  clear h hn hA
  go_simp
 | some a =>
  clear hA hn
  go_simp
theorem z0z (A:Option Addr) (n c:Nat) (l:List UInt8) (f:Fd) (hf:f.2.length≤1000000) (w:World) (hs:Sl w A c (byts l)) (hn:n=l.length) (hl:l.length≤1000000) :
  Calls prog 128 #[.slice A n c,.agg (fdV f).toArray] w (a0H (l++c0X f) w):=by
 subst hn
 obtain⟨x,s⟩:=f
 dsimp only at hf
 obtain⟨i0,hi,hz0,hz1,hz2⟩:=info_parts infoByte
 have hlL:=c0j s.length
 obtain⟨L,hL⟩:∃L,L=varL s.length:=⟨_,rfl⟩
 rw[←hL] at hlL
 have hz:=a0c s
 have hwz:IntKind.u64.wrap (s.length:Int)=(s.length:Int):=by rw[IntKind.wrap_u64];omega
 have hvp:=f1D (show ∀w1,Calls prog 170 #[.slice none 0 0,.int .u64 s.length] w1 (a0H L w1) by
  intro w1
  have h:=s0v none 0 0 [] s.length (by omega) w1 ⟨.inl rfl,f1F _,fun _=>rfl⟩ rfl (by simp)
  rw[List.nil_append] at h
  rw[hL]
  exact h)
 have hF:=f1D (show l++c0X (x,s)=(l++[x])++L++s by rw[hL];unfold c0X;simp)
 have HLL:=f1D (show L.length=(byts L).length from (a0b L).symm)
 have hroom:=hs.room
 rw[a0b] at hroom
 have hs1:Sl w A (l.length*1) (byts l):=by
  rw[Nat.mul_one]
  refine⟨hs.rd,by rw[a0b];exact f1F _,fun h=>?_⟩
  have:=hs.bare h
  omega
 have hcut:=z0n A l.length c hroom hs.bare
 have hl1:(byts l).length=l.length*1:=by rw[a0b,Nat.mul_one]
 have n1:l.length+1≤maxLen:=by unfold maxLen;omega
 have n2:(l.length+1)*1≤140737488355328:=by omega
 have m1:l.length+1+L.length≤maxLen:=by unfold maxLen;omega
 have m2:(l.length+1+L.length)*1≤140737488355328:=by omega
 have p1:l.length+1+L.length+(bstr s).size≤maxLen:=by rw[hz];unfold maxLen;omega
 have p2:l.length+1+L.length+(bstr s).size≤140737488355328:=by rw[hz];omega
 have tok1:True:=trivial
 have HL1:=f1D hl1
 clear hL hlL hs hl1
 go_enter func128,ntmps128
 go_wp2_with fail
 generalize hw3:World.alloc w _=w3
 have hr:Row w3 w.heap.size 182 (fdV (x,s)):=by rw[←hw3];exact Row.new w _ (fdV (x,s))
 have hb3:Below w.heap.size w w3:=by rw[←hw3];exact (Below.refl _ w).alloc (f1F _) _
 have hs3:=hs1.later (f1F _) hb3
 clear hw3 hs1
 have hcA:∀w',Below w3.heap.size w3 w'→w'.cell? ⟨w.heap.size,0,none⟩=some (.int .u8 (x.toNat:Int)):=fun w' h=>by rw[(hr.later h hr.lt).cell];rfl
 refine wp_region_noPanic ?_
 refine wp_region_held_drew (S:=fun w'=>Below w3.heap.size w3 w') (by kernel_rfl) ((Below.refl _ _).drew) (fun hHeld=>?_)
 have hB:=hHeld
 refine rt 0 6 hHeld ?_
 refine rt 1 7 hHeld ?_
 refine rt 2 8 hHeld ?_
 refine rt 3 9 hHeld ?_
 refine rt 4 10 hHeld ?_
 refine rt 5 11 hHeld ?_
 refine rt 6 12 hHeld ?_
 refine rt 7 13 hHeld ?_
 refine rc1 8 fun K hK=>?_
 refine b0q (some 14) rfl (by rfl) (.slice (some ⟨w3.heap.size,0,none⟩) 1 1) (.cells (byts [x]).toArray 5) (by go_simp;try rfl) ?_;intro ww38 hw hqw38;have hsl8:Sl ww38 (some ⟨w3.heap.size,0,none⟩) (1*1) (byts [x]):=(by rw[hw];exact⟨Rd.row (ys:=[]) (by rw[List.append_nil];exact Row.new w3.drew 5 (byts [x])),f1F _,fun h=>by cases h⟩);clear hw
 refine hK.out _ _ (hHeld.trans (hqw38.mono hHeld.size)) (fun hHeld'=>?_)
 clear hK K
 try (first | (rw[a0l];dsimp only[List.set]) | rw[a0u])
 have hB:=a0a hB hqw38
 have hB8:Below ww38.heap.size ww38 ww38:=Below.refl _ _
 refine a0f (S':=fun w'=>Below ww38.heap.size ww38 w') (fun _ h=>(hHeld.trans (hqw38.mono hHeld.size)).trans (h.mono (hHeld.trans (hqw38.mono hHeld.size)).size)) _ _ _ _ ?_
 clear hHeld
 have hHeld:Below ww38.heap.size ww38 ww38:=Below.refl _ _
 refine rc1 9 fun K hK=>?_
 refine j0m (some 15) rfl (by rfl) (.tmp 11) (.tmp 14) 61 rfl 5 i0 _ 1 1 underlying61 hi hz0 hz1 (by omega) hz2 rfl A l.length (byts l) rfl HL1.out (hs3.later (f1F _) hB) (some ⟨w3.heap.size,0,none⟩) 1 1 (byts [x]) rfl rfl (by omega) (hsl8.later (f1F _) hB8) (a0o _) n1 n2 ?_;intro v9 ww39 hown9 hqw39;rw[←a0h] at hown9;have hq9:=f1D (show w3.heap.size≤ww38.heap.size from hB.size)
 refine hK.out _ _ (hHeld.trans (hqw39.mono hHeld.size)) (fun hHeld'=>?_)
 clear hK K
 try (first | (rw[a0l];dsimp only[List.set]) | rw[a0u])
 have hB:=a0a hB hqw39
 have hB8:=a0a hB8 hqw39
 have hB9:Below ww39.heap.size ww39 ww39:=Below.refl _ _
 refine a0f (S':=fun w'=>Below ww39.heap.size ww39 w') (fun _ h=>(hHeld.trans (hqw39.mono hHeld.size)).trans (h.mono (hHeld.trans (hqw39.mono hHeld.size)).size)) _ _ _ _ ?_
 clear hHeld
 have hHeld:Below ww39.heap.size ww39 ww39:=Below.refl _ _
 refine rt 10 5 hHeld ?_
 refine wpAnyH_done (by kernel_rfl) ?_ _
 refine NoPanic.normal ?_
 have hown9:=a0N (a0D hown9 hB9 (f1F _)) hq9.out
 have hbE:=hb3.trans (hB.mono hb3.size)
 have r9:=hr.later hB hr.lt
 clear hHeld hsl8 hB8 hs3 hcut hcA
 have hcB:ww39.cell? ⟨w.heap.size,1,none⟩=some (.string (bstr s)):=by rw[r9.cell];rfl
 go_wp2_with (first
  | (go_at_call 170;refine (hvp.out _).mono ?_;rintro e w5 ⟨v5,rfl,hown5,hb5⟩;obtain⟨A5,c5,rfl,_,hsl5⟩:=Sl.of_own hown5;have hown9b:=a0D hown9 hb5 (f1F _);have hB5:=a0a hB hb5;clear hown5)
  | (at_builtin;have _t:=tok1;refine a0j rfl (.tmp 16) (.tmp 21) 61 rfl w3.heap.size 5 i0 _ 1 underlying61 hi hz0 hz1 hz2 rfl _ (l.length+1) (byts (l++[x])) rfl hown9b A5 L.length c5 (byts L) rfl HLL.out hsl5 (a0o _) m1 m2 hB5.size ?_;intro v6 w6 hown6 hg6;have hB6:Below w3.heap.size w3 w6:=hB5.grown hg6 hB5.size (fun k hk=>(hown9b.lt k hk).1);have hcB6:w6.cell? ⟨w.heap.size,1,none⟩=some (.string (bstr s)):=(by rw[(hr.later hB6 hr.lt).cell];rfl);clear tok1 hg6 hown9b hsl5)
  | (at_builtin;refine Lib.wpList_append_own_string _ rfl (.tmp 23) (.tmp 25) 61 9 rfl w3.heap.size 5 i0 underlying61 underlying9 hi hz0 hz1 hz2 _ (l.length+1+L.length) (byts (l++[x])++byts L) rfl hown6 (bstr s) rfl p1 p2 hB6.size ?_;intro v7 w7 hown7 hg7 _;have hB7:Below w3.heap.size w3 w7:=hB6.grown hg7 hB6.size (fun k hk=>(hown6.lt k hk).1)))
 go_ret
 refine⟨_,rfl,?_,hb3.trans (hB7.mono hb3.size)⟩
 have e1:byts (l++[x])++byts L++byts s=byts (l++[x]++L++s):=by simp only[a0h]
 have e2:l.length+1+L.length+s.length=(l++[x]++L++s).length:=by simp only[List.length_append,List.length_cons,List.length_nil]
 rw[u0B,e1,hz,e2] at hown7
 rw[hF.out]
 exact a0N hown7 hb3.size
theorem v0U (A:Option Addr) (n c:Nat) (fs:List Fd) (w:World) (hs:Sl w A (c*2) (fs.flatMap fdV)) (hn:n=fs.length) (hm:(c0F fs).length≤1000000) :
  Calls prog 89 #[.slice A n c] w (a0H (c0F fs) w):=by
 subst hn
 obtain⟨i0,hi,hz0,hz1,hz2⟩:=info_parts infoByte
 have hln:=o0v fs
 have hown0:w.ownsRow w.heap.size 5 1 (.slice none 0 0) 0 []:=World.ownsRow_nil w _ _ _
 have hb0:=Below.refl w.heap.size w
 go_enter func89,ntmps89
 go_wp2_with fail
 go_loopw [3,8] (fun v i wr=>∃k:Nat,k≤fs.length∧i=.int .i64 k∧wr.ownsRow w.heap.size 5 1 v (c0F (fs.take k)).length (byts (c0F (fs.take k)))∧Below w.heap.size w wr) (fun _ i _=>fs.length - (intOf i).toNat)
 case atStart=>exact⟨0,by omega,rfl,hown0,hb0⟩
 case round =>
  clear hown0 hb0
  obtain⟨k,hk,rfl,hown,hb⟩:=hrel
  by_cases hlt:k < fs.length
  ·obtain⟨f,hf⟩:∃f,fs[k]?=some f:=⟨_,List.getElem?_eq_getElem hlt⟩
   obtain⟨b,o,rfl,hb0,hr0⟩:=hs.rd.get (i:=0) (by rw[k0q];omega)
   clear hb0 hr0
   have hix:=z0I (some ⟨b,o,none⟩) b o fs.length c k rfl hlt
   have hrg:=(hs.later (f1F _) hb).thing (k:=2) (fun _ _=>rfl) k f hf
   have HS:=f1D (l0L fs k f hf)
   have hjl:(c0F (fs.take (k+1))).length≤(c0F fs).length:=by
    have e:fs=fs.take (k+1)++fs.drop (k+1):=(List.take_append_drop (k+1) fs).symm
    conv=>rhs;rw[e]
    rw[i0T,List.length_append];omega
   rw[HS.out,List.length_append] at hjl
   have hfl:=d0o f
   have hby:=f1D (show ∀w1,Calls prog 128 #[.slice none 0 0,.agg (fdV f).toArray] w1 (a0H (c0X f) w1) by
    intro w1
    have h:=z0z none 0 0 [] f (by omega) w1 ⟨.inl rfl,f1F _,fun _=>rfl⟩ rfl (by simp)
    rw[List.nil_append] at h
    exact h)
   have hzf:=f1D (show (prog.info? 182).map (·.size)=some (fdV f).length from y0a)
   have hzf2:=f1D (show (prog.info? 182).map (·.size)=some (fdV f).toArray.size from y0a)
   have hof:=f1D (show (fdV f).toArray.all (·.oneCell')=true from b0d (fun v hv=>v0P [f] v (by simpa using hv)))
   obtain⟨V,hV⟩:∃V,V=fdV f:=⟨_,rfl⟩
   rw[←hV] at hrg hby hzf hzf2 hof
   have hV2:=f1D (show (2:Nat)=V.toArray.size by rw[hV];rfl)
   clear hV
   generalize c0F (fs.take k)=F at *
   have n1:F.length+(c0X f).length≤maxLen:=by unfold maxLen;omega
   have n2:(F.length+(c0X f).length)*1≤140737488355328:=by omega
   generalize c0X f=G at *
   have HG:=f1D (show G.length=(byts G).length from (a0b G).symm)
   clear hfl hf
   go_wp2_with (first
    | (with_reducible refine wpList_load_mid rfl 182 (.tmp 10) rfl b (o+k*2) rfl V _ hrg underlying182 rfl hzf.out ?_)
    | (with_reducible refine wpList_store_row rfl 182 (.tmp 5) (.tmp 11) rfl wr.heap.size V.toArray rfl rfl 182 _ (heap_alloc_new wr _) hzf2.out (Eq.trans (by kernel_rfl) hV2.out) hof.out ?_;refine Hid.out ?_))
   refine f1D ?_
   generalize hw5:World.setRow _ _ _=w5
   obtain⟨r5,hb5⟩:=a0v (xs:=V) hw5
   have R5:=f1D (show w5.heap[wr.heap.size]?=some (.cells V.toArray 182 (0,0)) from r5)
   have hown5:=a0D hown hb5 (f1F _)
   have hbw5:=hb.trans (hb5.mono hb.size)
   clear hw5 r5 hb5 hown
   go_wp2_with (first
    | (with_reducible refine wpList_load_row rfl 182 (.tmp 5) rfl wr.heap.size rfl 182 V.toArray (0,0) _ R5.out underlying182 rfl hzf2.out ?_)
    | (go_at_call 128;refine (hby.out _).mono ?_;rintro e w6 ⟨v6,rfl,hown6,hb6⟩;obtain⟨A6,c6,rfl,_,hsl6⟩:=Sl.of_own hown6;have hownF:=a0D hown5 hb6 (f1F _);have hbw6:=hbw5.trans (hb6.mono hbw5.size);clear hown6 hb6)
    | (at_builtin;refine a0j rfl (.tmp 12) (.tmp 14) 61 rfl w.heap.size 5 i0 _ 1 underlying61 hi hz0 hz1 hz2 rfl _ F.length (byts F) rfl hownF A6 G.length c6 (byts G) rfl HG.out hsl6 (a0o _) n1 n2 hbw6.size ?_;intro v7 w7 hown7 hg7;have hbw7:Below w.heap.size w w7:=hbw6.grown hg7 hbw6.size (fun k hk=>(hownF.lt k hk).1)))
   rw[←a0h,←List.length_append,←HS.out] at hown7
   go_roundw
   case rel=>exact⟨k+1,by omega,by go_num,hown7,hbw7⟩
   case measure=>simp[intOf];omega
  ·obtain rfl:k=fs.length:=by omega
   rw[List.take_length] at hown
   clear hlt hk hs
   generalize fs.length=n at *
   go_wp2
   go_ret
   exact⟨_,rfl,hown,hb⟩
theorem n0c (n:Nat) (h:n < 18446744073709551616) (w:World) :
  Calls prog 129 #[.int .u64 n] w fun e w'=>e=.returned (.string (bstr (varL n)))∧Below w.heap.size w w':=by
 have hv:=f1D (show ∀w1,Calls prog 170 #[.slice none 0 0,.int .u64 n] w1 (a0H (varL n) w1) from fun w1=>s0v none 0 0 [] n h w1 ⟨.inl rfl,f1F _,fun _=>rfl⟩ rfl (by decide))
 go_enter func129,ntmps129
 go_wp2_with (go_at_call 170;refine (hv.out _).mono ?_;rintro e w1 ⟨v1,rfl,hown1,hb1⟩;obtain⟨A1,c1,rfl,_,hsl1⟩:=Sl.of_own hown1;have hcv:=b0o hsl1 _ rfl;clear hown1 hsl1)
 go_ret
 exact⟨rfl,hb1⟩
theorem q0C (c:Cav) (hp:c.party < 18446744073709551616) (w:World) :
  Calls prog 90 #[.agg (cavV c).toArray] w fun e w'=>∃A d,e=.returned (.slice A (cavF c).length d)∧Sl w' A (d*2) ((cavF c).flatMap fdV)∧Below w.heap.size w w':=by
 obtain⟨third,text,party,id,vault⟩:=c
 have hnum:=f1D (n0c party hp)
 have hb1:Below w.heap.size w (w.alloc (.cells (cavV ⟨third,text,party,id,vault⟩).toArray 43)):=(Below.refl _ _).alloc (f1F _) _
 have hr:Row (w.alloc (.cells (cavV ⟨third,text,party,id,vault⟩).toArray 43)) w.heap.size 43 (cavV ⟨third,text,party,id,vault⟩):=Row.new w 43 _
 unfold cavV at *
 cases third
 ·go_enter func90,ntmps90
  go_wp2
  go_ret
  exact⟨_,1,rfl,⟨Rd.block (fr:=(0,0)) (t:=182) (heap_alloc2_new w _ _),f1F _,fun h=>by cases h⟩,hb1.alloc hb1.size _⟩
 ·go_enter func90,ntmps90
  go_wp2_with fail
  generalize hw1:World.alloc w _=w1 at hb1 hr ⊢
  clear hw1
  have hc0:∀w',Below w1.heap.size w1 w'→w'.cell? ⟨w.heap.size,2,none⟩=some (.int .u64 party):=fun w' h=>by rw[(hr.later h hr.lt).cell];rfl
  have hc1:∀w',Below w1.heap.size w1 w'→w'.cell? ⟨w.heap.size,3,none⟩=some (.string (bstr id)):=fun w' h=>by rw[(hr.later h hr.lt).cell];rfl
  have hc2:∀w',Below w1.heap.size w1 w'→w'.cell? ⟨w.heap.size,4,none⟩=some (.string (bstr vault)):=fun w' h=>by rw[(hr.later h hr.lt).cell];rfl
  refine wp_region_noPanic ?_
  refine wp_region_held_drew (S:=fun w'=>Below w1.heap.size w1 w') (by kernel_rfl) ((Below.refl _ _).drew) (fun hHeld=>?_)
  refine rt 0 10 hHeld ?_
  refine rt 1 11 hHeld ?_
  refine rt 4 14 hHeld ?_
  refine rt 5 15 hHeld ?_
  refine rt 6 16 hHeld ?_
  refine rt 7 17 hHeld ?_
  refine rt 8 18 hHeld ?_
  refine rt 9 19 hHeld ?_
  refine rc1 2 fun K hK=>?_
  go_simp
  refine (hnum.out _).mono ?_;rintro e w2 ⟨rfl,hb2⟩;have hq2:=hHeld.trans (hb2.mono hHeld.size)
  try go_wp2_with fail
  refine hK.out _ _ (hq2) (fun hHeld=>?_)
  clear hK K
  refine rt 3 13 hHeld ?_
  refine rc1 10 fun K hK=>?_
  refine b0q (some 20) rfl (by rfl) (.slice (some ⟨w2.heap.size,0,none⟩) 3 3) (.cells (([(4,varL party),(5,id),(6,vault)]:List Fd).flatMap fdV).toArray 182) (by go_simp;try rfl) ?_;intro w3 hw3 hb3;have hsl:Sl w3 (some ⟨w2.heap.size,0,none⟩) (3*2) (([(4,varL party),(5,id),(6,vault)]:List Fd).flatMap fdV):=(by rw[hw3];exact⟨Rd.block (Go.heap_alloc_new w2 _),f1F _,fun h=>by cases h⟩);have hq3:=hHeld.trans (hb3.mono hHeld.size);clear hw3
  refine rk hK (hq3) fun hHeld=>?_
  clear hK K
  refine rt 11 2 hHeld ?_
  refine wpAnyH_done (by kernel_rfl) ?_ _
  refine NoPanic.normal ?_
  go_wp2
  go_ret
  exact⟨_,3,rfl,hsl,hb1.trans (hq3.mono hb1.size)⟩
theorem o0u {c:Cav} (hm:capC c≤100000):(c0F (cavF c)).length≤1000000:=by
 unfold capC at hm
 have h:=k0g 100000 (cavF c) (fun f hf=>by
  have hv:=c0j c.party
  unfold cavF at hf
  by_cases ht:c.third=true
  ·rw[if_pos ht] at hf
   simp only[List.mem_cons,List.not_mem_nil,or_false] at hf
   rcases hf with rfl | rfl | rfl
   ·show (varL c.party).length≤100000;omega
   ·show c.id.length≤100000;omega
   ·show c.vault.length≤100000;omega
  ·rw[if_neg ht] at hf
   rw[List.mem_singleton.1 hf]
   show c.text.length≤100000;omega)
 have h3:=z0k c
 have:(cavF c).length*(100000+11)≤3*(100000+11):=Nat.mul_le_mul_right _ h3
 omega
theorem a1l (c:Cav) (hp:c.party < 18446744073709551616) (hm:capC c≤100000) (w:World) :
  Calls prog 54 #[.agg (cavV c).toArray] w (a0H (c0F (cavF c)) w):=by
 have hf:=f1D (q0C c hp)
 have hj:=f1D (show ∀A d w1,Sl w1 A (d*2) ((cavF c).flatMap fdV)→Calls prog 89 #[.slice A (cavF c).length d] w1 (a0H (c0F (cavF c)) w1) from fun A d w1 h=>v0U A (cavF c).length d (cavF c) w1 h rfl (o0u hm))
 have hb1:=(Below.refl w.heap.size w).alloc (f1F _) (.cells (cavV c).toArray 43)
 generalize c0F (cavF c)=L at *
 generalize cavF c=F at *
 unfold cavV at *
 clear hp hm
 have hsz:∀w6,Below w.heap.size w w6→w.heap.size≤w6.heap.size:=fun _ h=>h.size
 go_enter func54,ntmps54
 go_wp2_with (first
  | (go_at_call 90;refine (hf.out _).mono ?_;rintro e w6 ⟨A6,d6,rfl,hs6,hb6⟩;have hbw6:=hb1.trans (hb6.mono hb1.size))
  | (go_at_call 89;refine (hj.out _ _ _ hs6).mono ?_;rintro e w7 ⟨v7,rfl,hown7,hb7⟩))
 go_ret
 exact⟨_,rfl,a0N hown7 hbw6.size,hbw6.trans (hb7.mono hbw6.size)⟩
def errT (t:Tok):Int:=if d0O t then 0 else 1
theorem a1k (c:Cav) (w:World) :
  Calls prog 41 #[.agg (cavV c).toArray] w fun e w'=>e=.returned (.bool (canC c))∧Below w.heap.size w w':=by
 obtain⟨third,text,party,id,vault⟩:=c
 have h1:=a0c text
 have h2:=a0c id
 have h3:=a0c vault
 have e1:=a0p text
 have e2:=a0p id
 have e3:=a0p vault
 unfold cavV
 cases third
 ·go_enter func41,ntmps41
  go_wp2
  all_goals go_ret
  all_goals refine⟨?_,(Below.refl _ _).alloc (f1F _) _⟩
  all_goals simp_all [canC]
  all_goals first | (intro;omega) | (have hq:text.length≤512:=(by omega);cases vault<;>simp[hq]) | (have hq:id.length≤1024:=(by omega);rw[decide_eq_true hq,Bool.true_and];exact decide_eq_decide.2 (by omega)) | omega
 ·go_enter func41,ntmps41
  go_wp2
  all_goals go_ret
  all_goals refine⟨?_,(Below.refl _ _).alloc (f1F _) _⟩
  all_goals simp_all [canC]
  all_goals first | (intro;omega) | (have hq:text.length≤512:=(by omega);cases vault<;>simp[hq]) | (have hq:id.length≤1024:=(by omega);rw[decide_eq_true hq,Bool.true_and];exact decide_eq_decide.2 (by omega))
theorem a1s (c:Cav) (w:World) :
  Calls prog 40 #[.agg (cavV c).toArray] w fun e w'=>e=.returned (.bool (!canC c))∧Below w.heap.size w w':=by
 have hcan:=f1D (a1k c)
 have hb1:=(Below.refl w.heap.size w).alloc (f1F _) (.cells (cavV c).toArray 43)
 unfold cavV at *
 generalize canC c=r at *
 go_enter func40,ntmps40
 go_wp2_with (go_at_call 41;refine (hcan.out _).mono ?_;rintro e w6 ⟨rfl,hb6⟩;have hbw6:=hb1.trans (hb6.mono hb1.size))
 go_ret
 exact⟨rfl,hbw6⟩
theorem t0V (A:Option Addr) (c:Nat) (cs:List Cav) (w:World) (hs:Sl w A (c*5) (cs.flatMap cavV)) (hm:cs.length≤1000000) :
  Calls prog 62 #[.slice A cs.length c,.func (.func 40) #[] #[]] w fun e w'=>∃r:Int,e=.returned (.int .i64 r)∧(r=-1∧cs.all canC=true∨0≤r∧cs.all canC=false)∧Below w.heap.size w w':=by
 have h2':(cs.length:Int)≤1000000:=by omega
 go_enter func62,ntmps62
 go_wp2_with fail
 go_loopw [8] (fun i wr=>∃k:Nat,k≤cs.length∧i=.int .i64 k∧(cs.take k).all canC=true∧Below w.heap.size w wr) (fun i _=>cs.length - (intOf i).toNat)
 case atStart=>exact⟨0,by omega,rfl,rfl,Below.refl _ _⟩
 case round =>
  obtain⟨k,hk,rfl,hall,hb⟩:=hrel
  by_cases hlt:k < cs.length
  ·obtain⟨cv,hcv⟩:∃cv,cs[k]?=some cv:=⟨_,List.getElem?_eq_getElem hlt⟩
   obtain⟨b,o,rfl,hb0,hr0⟩:=hs.rd.get (i:=0) (by rw[b0P];omega)
   clear hb0 hr0
   have hix:=f0C (some ⟨b,o,none⟩) b o cs.length c k rfl hlt
   have hrg:=(hs.later (f1F _) hb).thing (k:=5) (fun _ _=>rfl) k cv hcv
   have HA:=f1D (r0n hall hcv)
   have HB:=f1D (v0d hcv)
   have hcan:=f1D (a1s cv)
   have hzf:=f1D (show (prog.info? 43).map (·.size)=some (cavV cv).length from c0C)
   obtain⟨V2,hV2q⟩:∃V,V=cavV cv:=⟨_,rfl⟩
   rw[←hV2q] at hrg hcan hzf
   clear hV2q hcv hall
   generalize canC cv=r at *
   go_wp2_with (first
    | (with_reducible refine wpList_load_mid rfl 43 (.tmp 14) rfl b (o+k*5) rfl V2 _ hrg underlying43 rfl hzf.out ?_)
    | (go_at_call 40;refine (hcan.out _).mono ?_;rintro e w6 ⟨rfl,hb6⟩;have hbw6:=hb.trans (hb6.mono hb.size);cases r))
   ·go_ret
    exact⟨k,rfl,.inr ⟨by omega,HB.out (by first | rfl | trivial)⟩,hbw6⟩
   ·go_roundw
    case rel=>exact⟨k+1,by omega,by go_num,HA.out,hbw6⟩
    case measure=>simp[intOf];omega
  ·obtain rfl:k=cs.length:=by omega
   rw[List.take_length] at hall
   clear hlt hk hs
   generalize cs.length=n at *
   go_wp2
   go_ret
   exact⟨-1,rfl,.inl ⟨rfl,hall⟩,hb⟩
theorem a1n (A:Option Addr) (c:Nat) (cs:List Cav) (w:World) (hs:Sl w A (c*5) (cs.flatMap cavV)) (hm:cs.length≤1000000) :
  Calls prog 42 #[.slice A cs.length c,.func (.func 40) #[] #[]] w fun e w'=>e=.returned (.bool (!cs.all canC))∧Below w.heap.size w w':=by
 have hi:=f1D (t0V A c cs w hs hm)
 generalize cs.all canC=r at *
 generalize cs.length=n at *
 clear hs
 go_enter func42,ntmps42
 go_wp2_with (go_at_call 62;refine hi.out.mono ?_;rintro e w6 ⟨x,rfl,hx,hb6⟩)
 ·rcases hx with ⟨rfl,rfl⟩ | ⟨h1,rfl⟩
  all_goals go_wp2
  all_goals go_ret
  all_goals first | exact⟨rfl,hb6⟩ | (exfalso;omega) | trace_state
theorem l0V (t:Tok) (_ht:t.Ok) (_hf:t.Fit) (A:Option Addr) (c:Nat) (w:World) (hs:Sl w A (c*5) (t.cavs.flatMap cavV)) :
  Calls prog 25 #[.agg (tokV t A c).toArray] w fun e w'=>e=.returned (.int .i64 (errT t))∧Below w.heap.size w w':=by
 have hb1:Below w.heap.size w (w.alloc (.cells (tokV t A c).toArray 29)):=(Below.refl _ _).alloc (f1F _) _
 have hr:Row (w.alloc (.cells (tokV t A c).toArray 29)) w.heap.size 29 (tokV t A c):=Row.new w 29 _
 have hg:=i0p t A c
 obtain⟨V,hV⟩:∃V,V=tokV t A c:=⟨_,rfl⟩
 rw[←hV] at hb1 hr hg ⊢
 clear hV
 have hc1:(w.alloc (.cells V.toArray 29)).cell? ⟨w.heap.size,1,none⟩=some (.string (bstr t.id)):=by rw[hr.cell];exact hg.2.1
 have hc2:(w.alloc (.cells V.toArray 29)).cell? ⟨w.heap.size,2,none⟩=some (.slice A t.cavs.length c):=by rw[hr.cell];exact hg.2.2.1
 have hz:=a0c t.id
 clear hg hr
 obtain⟨E,hE⟩:∃E,E=errT t:=⟨_,rfl⟩
 rw[←hE]
 unfold errT at hE
 replace hE:=f1D hE
 by_cases h1:1024 < t.id.length
 ·have HE:=f1D (r0q h1)
  have h1':(1024:Int) < (t.id.length:Int):=by omega
  clear hs h1
  go_enter func25,ntmps25
  go_wp2
  go_ret
  exact⟨by rw[hE.out,HE.out];rfl,hb1⟩
 by_cases h2:64 < t.cavs.length
 ·have HE:=f1D (l0B h2)
  have h1':(t.id.length:Int)≤1024:=by omega
  have h2':(64:Int) < (t.cavs.length:Int):=by omega
  clear hs h1 h2
  go_enter func25,ntmps25
  go_wp2
  go_ret
  exact⟨by rw[hE.out,HE.out];rfl,hb1⟩
 have HE:=f1D (l0A (t:=t) (by omega) (by omega))
 have h1':(t.id.length:Int)≤1024:=by omega
 have h2':(t.cavs.length:Int)≤64:=by omega
 have hhas:=f1D (fun w1 h=>a1n A c t.cavs w1 h (by omega))
 generalize t.cavs.all canC=r at *
 have hs1:=hs.later (f1F _) hb1
 clear h1 h2 hs
 go_enter func25,ntmps25
 go_wp2_with (go_at_call 42;refine (hhas.out _ hs1).mono ?_;rintro e w6 ⟨rfl,hb6⟩;have hbw6:=hb1.trans (hb6.mono hb1.size);cases r)
 all_goals go_ret
 all_goals exact⟨by rw[hE.out,HE.out];rfl,hbw6⟩
theorem l0y:prog.cellsOf 5=1:=by kernel_rfl
theorem i0b (xs:List UInt8) (i:Nat) (h:i < xs.length) (w:World):(Go.part 5 (byts xs).toArray (i*1)).run prog w=.ok (.int .u8 ((xs.getD i 0).toNat:Int)) w:=by
 have hc:(byts xs).toArray[i*1]?=some (.int .u8 ((xs.getD i 0).toNat:Int)):=by
  rw[Nat.mul_one,List.getElem?_toArray,c0d _ _ h]
 simp only[Go.part,isAgg,Sem.run_bind,run_underlying underlying5,Result.andThen_ok,Sem.run_pure,hc]
 rfl
theorem x0P (xs ys:List UInt8) (is:List Nat) (hx:∀i∈is,i < xs.length) (hy:∀i∈is,i < ys.length) (w:World) :
  (Op.eqItems 9999 5 1 (byts xs).toArray (byts ys).toArray is).run prog w=.ok (is.all fun i=>decide (xs.getD i 0=ys.getD i 0)) w:=by
 induction is with
 | nil=>simp[Op.eqItems]
 | cons i is ih =>
  have h:=ih (fun j hj=>hx j (by simp[hj])) (fun j hj=>hy j (by simp[hj]))
  simp only[Op.eqItems,Sem.run_bind,i0b xs i (hx i (by simp)) w,i0b ys i (hy i (by simp)) w,Result.andThen_ok,run_equalIn_int w 9998 5 .u8 .u8 _ _ underlying5,List.all_cons]
  generalize xs.getD i 0=a
  generalize ys.getD i 0=b
  by_cases e:a=b
  ·subst e
   simp only[BEq.rfl,Bool.not_true,Bool.false_eq_true,if_false,decide_true,Bool.true_and,h]
  ·have e':((a.toNat:Int)==(b.toNat:Int))=false:=by
    rw[beq_eq_false_iff_ne]
    intro h
    exact e (UInt8.toNat_inj.1 (by omega))
   simp only[e',e,Bool.not_false,if_true,decide_false,Bool.false_and,Sem.run_pure]
theorem r0m (xs ys:List UInt8) (h:xs.length=ys.length):((List.range xs.length).all fun i=>decide (xs.getD i 0=ys.getD i 0))=decide (xs=ys):=by
 rw[Bool.eq_iff_iff,List.all_eq_true,decide_eq_true_iff]
 constructor
 ·intro hall
  apply List.ext_getElem h
  intro i h1 h2
  have:=hall i (by simpa using h1)
  simpa [h1,h2] using this
 ·rintro rfl i _
  simp
theorem j0c (t:TypeId) (n:Nat) (i0:TypeInfo) (hu:prog.underlying t=some (.array n 5)) (hi:prog.info? 5=some i0) (xs ys:List UInt8) (hx:xs.length=n) (hy:ys.length=n) (w:World) :
  (Op.equalIn 10000 t (.agg (byts xs).toArray) (.agg (byts ys).toArray)).run prog w=.ok (decide (xs=ys)) w:=by
 rw[run_equalIn_array w 9999 _ _ hu hi,l0y,x0P xs ys (List.range n) (fun i h=>by rw[hx];simpa using h) (fun i h=>by rw[hy];simpa using h) w,←hx,r0m xs ys (by rw[hx,hy])]
theorem z0W (w:World):(binOp BinOp.eql 27 (.slice none 0 0) (.slice none 0 0)).run prog w=.ok (.bool true) w:=by kernel_rfl
theorem x0b {w:World} {b b' t k n:Nat} {v:Value} {xs:List Value} (h:w.ownsRow b t k v n xs) (hb:b'≤b):w.ownsRow b' t k v n xs:=by
 obtain⟨hl,h | ⟨g,cap,cur,rfl,hg,h⟩⟩:=h
 ·exact⟨hl,.inl h⟩
 ·exact⟨hl,.inr ⟨g,cap,cur,rfl,Nat.le_trans hb hg,h⟩⟩
theorem z0X (ad:Addr) (n c:Nat) (w:World):(binOp BinOp.eql 27 (.slice (some ad) n c) (.slice none 0 0)).run prog w=.ok (.bool false) w:=by kernel_rfl
theorem q0G (cs:List Cav) (hm:cs.length≤1000000) (A:Option Addr) (c:Nat) (w:World) (hs:Sl w A (c*5) (cs.flatMap cavV)) :
  Calls prog 53 #[.slice A cs.length c] w fun e w'=>∃B d,e=.returned (.slice B cs.length d)∧w'.ownsRow w.heap.size 43 5 (.slice B cs.length d) cs.length (cs.flatMap cavV)∧Below w.heap.size w w':=by
 cases A with
 | none =>
  have h0:cs.length=0:=by
   have h1:=hs.bare rfl
   have h2:=hs.room
   rw[b0P] at h2
   omega
  have hc:c=0:=by
   have h1:=hs.bare rfl
   omega
  obtain rfl:cs=[]:=List.eq_nil_of_length_eq_zero h0
  subst hc
  clear h0
  have hnil:=z0W
  go_enter func53,ntmps53
  go_wp2
  go_ret
  exact⟨none,0,rfl,World.ownsRow_nil w _ _ _,Below.refl _ _⟩
 | some ad =>
  obtain⟨i0,hi,hz0,hz1,hz2⟩:=m0K
  have HF:=f1D (b0P cs)
  have hone:=f1D (f0Q cs)
  have n1:0+cs.length≤maxLen:=by unfold maxLen;omega
  have n2:(0+cs.length)*64≤140737488355328:=by omega
  have hb1:=(Below.refl w.heap.size w).alloc (f1F _) (.cells #[] 43)
  have hs1:=hs.later (f1F _) hb1
  have hown1:(w.alloc (.cells #[] 43)).ownsRow w.heap.size 43 5 (.slice (some ⟨w.heap.size,0,none⟩) 0 0) 0 []:=World.ownsRow_lit w _ 0 (f1F _) (by decide) rfl
  generalize hw1:w.alloc (.cells #[] 43)=w1 at hb1 hs1 hown1
  have HW:=f1D hw1
  clear hw1 hs
  generalize cs.length=n at *
  have hnil:=z0X ad n c
  go_enter func53,ntmps53
  go_wp2_with (at_builtin;rw[HW.out];refine g0O rfl (.tmp 5) (.tmp 6) 27 rfl w.heap.size 43 i0 _ 5 64 underlying27 hi hz0 hz1 (by omega) hz2 rfl _ 0 [] rfl hown1 (some ad) n c (cs.flatMap cavV) rfl HF.out hs1 hone.out n1 n2 hb1.size ?_;intro v7 w7 hown7 hg7;have hb7:=hb1.grown hg7 hb1.size (fun k hk=>(hown1.lt k hk).1))
  rw[List.nil_append,Nat.zero_add] at hown7
  obtain⟨A7,c7,rfl,_,_⟩:=Sl.of_ownk hown7
  replace hown7:=f1D hown7
  go_ret
  exact⟨A7,c7,rfl,hown7.out,hb7⟩
theorem t0T (t:Tok) (ht:t.Ok) (hm:t.cavs.length≤1000000) (A:Option Addr) (c:Nat) (w:World) (hs:Sl w A (c*5) (t.cavs.flatMap cavV)) :
  Calls prog 30 #[.agg (tokV t A c).toArray] w fun e w'=>∃B d,e=.returned (.agg (tokV t B d).toArray)∧w'.ownsRow w.heap.size 43 5 (.slice B t.cavs.length d) t.cavs.length (t.cavs.flatMap cavV)∧Below w.heap.size w w':=by
 have hck:=f1D (fun w1 h=>q0G t.cavs hm A c w1 h)
 have hg:=i0p t A c
 have hVs:=f1D (fun B d=>show (tokV t A c).set 2 (.slice B t.cavs.length d)=tokV t B d from rfl)
 have hlen:=f1D (fun B d=>a0n ht B d)
 have hone:=f1D (fun B d=>b0d (a0X t B d))
 obtain⟨V,hV⟩:∃V,V=tokV t A c:=⟨_,rfl⟩
 rw[←hV] at hg hVs ⊢
 clear hV
 have c2:((w.alloc (.cells V.toArray 29)).alloc (.cells [Value.int .u64 0,.string { data:=#[] },.slice none 0 0,.bool false,.int .u8 0,.int .u8 0,.int .u8 0,.int .u8 0,.int .u8 0,.int .u8 0,.int .u8 0,.int .u8 0,.int .u8 0,.int .u8 0,.int .u8 0,.int .u8 0,.int .u8 0,.int .u8 0,.int .u8 0,.int .u8 0,.int .u8 0,.int .u8 0,.int .u8 0,.int .u8 0,.int .u8 0,.int .u8 0,.int .u8 0,.int .u8 0,.int .u8 0,.int .u8 0,.int .u8 0,.int .u8 0,.int .u8 0,.int .u8 0,.int .u8 0,.int .u8 0].toArray 29)).cell? ⟨w.heap.size,2,none⟩=some (.slice A t.cavs.length c):=by rw[(d0Y (w:=w) (A:=V) (B:=[Value.int .u64 0,.string { data:=#[] },.slice none 0 0,.bool false,.int .u8 0,.int .u8 0,.int .u8 0,.int .u8 0,.int .u8 0,.int .u8 0,.int .u8 0,.int .u8 0,.int .u8 0,.int .u8 0,.int .u8 0,.int .u8 0,.int .u8 0,.int .u8 0,.int .u8 0,.int .u8 0,.int .u8 0,.int .u8 0,.int .u8 0,.int .u8 0,.int .u8 0,.int .u8 0,.int .u8 0,.int .u8 0,.int .u8 0,.int .u8 0,.int .u8 0,.int .u8 0,.int .u8 0,.int .u8 0,.int .u8 0,.int .u8 0]) (tA:=29) (tB:=29) rfl).1.cell];exact hg.2.2.1
 go_enter func30,ntmps30
 go_wp2_with fail
 generalize hw2:World.alloc (World.alloc w _) _=w2 at c2 ⊢
 obtain⟨r0,r1,hb1,hsz⟩:=d0Y (A:=V) (B:=[Value.int .u64 0,.string { data:=#[] },.slice none 0 0,.bool false,.int .u8 0,.int .u8 0,.int .u8 0,.int .u8 0,.int .u8 0,.int .u8 0,.int .u8 0,.int .u8 0,.int .u8 0,.int .u8 0,.int .u8 0,.int .u8 0,.int .u8 0,.int .u8 0,.int .u8 0,.int .u8 0,.int .u8 0,.int .u8 0,.int .u8 0,.int .u8 0,.int .u8 0,.int .u8 0,.int .u8 0,.int .u8 0,.int .u8 0,.int .u8 0,.int .u8 0,.int .u8 0,.int .u8 0,.int .u8 0,.int .u8 0,.int .u8 0]) (tA:=29) (tB:=29) hw2
 have hs1:=hs.later (f1F _) hb1
 have hlt0:=r0.lt
 have hlt1:=r1.lt
 obtain⟨Z,hZ⟩:∃Z:List Value,Z=[Value.int .u64 0,.string { data:=#[] },.slice none 0 0,.bool false,.int .u8 0,.int .u8 0,.int .u8 0,.int .u8 0,.int .u8 0,.int .u8 0,.int .u8 0,.int .u8 0,.int .u8 0,.int .u8 0,.int .u8 0,.int .u8 0,.int .u8 0,.int .u8 0,.int .u8 0,.int .u8 0,.int .u8 0,.int .u8 0,.int .u8 0,.int .u8 0,.int .u8 0,.int .u8 0,.int .u8 0,.int .u8 0,.int .u8 0,.int .u8 0,.int .u8 0,.int .u8 0,.int .u8 0,.int .u8 0,.int .u8 0,.int .u8 0]:=⟨_,rfl⟩
 have hzl:Z.toArray.size=36:=by rw[hZ];rfl
 rw[←hZ] at r1
 clear hsz hw2 hs hZ c2
 have hsz36:=f1D (show (prog.info? 29).map (·.size)=some 36 from a0I)
 go_wp2_with (first
  | (go_at_call 53;refine (hck.out _ hs1).mono ?_;rintro e w3 ⟨B,d,rfl,hown3,hb3⟩;replace hown3:=f1D hown3;have hfz3:=(r0.later hb3 hlt0).free 2;have hcl3:w3.cell? ⟨w.heap.size,2,none⟩=some (.slice A t.cavs.length c):=(by rw[(r0.later hb3 hlt0).cell];exact hg.2.2.1);obtain⟨V4,hV4⟩:∃V4,V4=tokV t B d:=⟨_,rfl⟩;have hl4:V4.toArray.size=36:=(by rw[hV4,List.size_toArray];exact hlen.out B d);have hone4:=f1D (show V4.toArray.all (·.oneCell')=true by rw[hV4];exact hone.out B d);have R4:=f1D (show (w3.setCell ⟨w.heap.size,2,none⟩ (.slice B t.cavs.length d)).heap[w.heap.size]?=some (.cells V4.toArray 29 (0,0)) by rw[hV4,←hVs.out];exact (r0.later hb3 hlt0).set 2 _);have RZ:=f1D (show (w3.setCell ⟨w.heap.size,2,none⟩ (.slice B t.cavs.length d)).heap[w.heap.size+1]?=some (.cells Z.toArray 29 (0,0)) from (r1.later hb3 hlt1).far _ _ (by show w.heap.size+1≠w.heap.size;omega));have hzf4:=f1D (show (prog.info? 29).map (·.size)=some V4.toArray.size by rw[hl4];exact hsz36.out);have hzz:=f1D (show Z.toArray.size=V4.toArray.size by rw[hl4,hzl]);have HV4:=f1D hV4;clear hV4 hl4)
  | (with_reducible refine wpList_load_row rfl 29 (.tmp 1) rfl w.heap.size rfl 29 V4.toArray (0,0) _ R4.out underlying29 rfl hzf4.out ?_)
  | (with_reducible refine wpList_store_row rfl 29 (.tmp 2) (.tmp 7) rfl (w.heap.size+1) V4.toArray rfl rfl 29 Z.toArray RZ.out hzf4.out hzz.out hone4.out ?_;refine Hid.out ?_))
 refine f1D ?_
 generalize hw9:World.setRow _ _ _=w9
 obtain⟨r9,hg9⟩:=a0y (xs:=V4) (show Row _ (w.heap.size+1) 29 Z from RZ.out) hw9
 have R9:=f1D (show w9.heap[w.heap.size+1]?=some (.cells V4.toArray 29 (0,0)) from r9)
 have hb4:=(hb1.trans (hb3.mono hb1.size)).grown (a0q w3 w.heap.size 2 (.slice B t.cavs.length d)) (hb1.trans (hb3.mono hb1.size)).size (fun k h=>by cases h;exact f1F _)
 have hb9:=hb4.grown hg9 hb4.size (fun k h=>by cases h;exact Nat.le_succ _)
 have own9:=f1D (i0I (i0I hown3.out (a0q w3 w.heap.size 2 (.slice B t.cavs.length d)) hlt0) hg9 hlt1)
 clear hw9 r9 hg9 hzz hzl hfz3 hcl3
 go_wp2_with (with_reducible refine bodyPost_ret (results_cell_row rfl _ _ (w.heap.size+1) 29 V4.toArray (0,0) _ rfl R9.out underlying29 rfl hzf4.out) rfl ?_)
 exact⟨B,d,by rw[HV4.out],x0b own9.out hb1.size,hb9⟩
end Go.Proofs.YtcbilopdeiapjaaGreatDoor
