import Derived.Test.YtcbilopdeiapjaaGreatDoorRgaf
set_option maxHeartbeats 16000000
set_option maxRecDepth 100000
open Go.Proofs.Tryz
namespace Go.Proofs.YtcbilopdeiapjaaGreatDoor
open Go Go.RowKit
theorem k0R {P:Program} (w:World) (t ty e:TypeId) (i:TypeInfo) (z:Value) (k bytes:Nat) (ht:P.underlying t=some (.slice e)) (hi:P.info? e=some i) (hz:i.zero=some z)
  (hsize:i.size=k) (hk:0 < k) (hby:i.bytes=bytes) (hzs:z.cells.size=k) (b o n:Nat) (xs:List Value) (hxs:xs.length=n*k) (hsx:Sl w (some ⟨b,o,none⟩) (n*k) xs)
  (A:Option Addr) (m c:Nat) (news:List Value) (hm:news.length=m*k) (h0:0 < m) (hsl:Sl w A (c*k) news)
  (h63:n+m≤maxLen) (hbytes:(n+m)*bytes≤140737488355328) :
  ∃v' w',(Builtin.append_ #[t,t] ty #[.slice (some ⟨b,o,none⟩) n n,.slice A m c]).run P w=.ok v' w'∧w'.ownsRow w.heap.size e k v' (n+m) (xs++news)∧Below w.heap.size w w':=by
 subst hsize hby
 obtain⟨b',o',rfl,_,_⟩:=hsl.rd.get (i:=0) (by rw[hm];exact Nat.mul_pos h0 hk)
 have hr:=run_append_grow (P:=P) (w:=w) t ty e i z ht hi hz ⟨b,o,none⟩ n n xs hxs hsx.rd.at_add ⟨b',o',none⟩ m c news hm hsl.rd.at_add (by omega) (by unfold maxLen at h63;omega) (growslice_fits (by omega) hbytes)
 have hge:=grownCap_ge w (n+m) n e
 have hcm:grownCap w (n+m) n e≤maxLen:=grownCap_le_maxLen w (n+m) n e h63
 have hlen:(xs++news).length=(n+m)*i.size:=by rw[List.length_append,hxs,hm,Nat.add_mul]
 refine⟨_,_,hr,⟨hlen,.inr ⟨w.heap.size,_,_,rfl,f1F _,heap_alloc_new w.drew _,hge,hcm,?_,?_⟩⟩,((Below.refl _ w).drew).alloc (f1F _) _⟩
 ·simp only[Array.size_append,List.size_toArray,size_zeroCells,hzs,hxs,hm,←Nat.add_mul]
  congr 1
  omega
 ·simp only[Array.toList_append,List.append_assoc]
  rw[←List.append_assoc,←hlen]
  exact List.take_left
theorem b0s {P:Program} {w:World} {ops:Array Oper} {o:Oper} {a:Act} {K:Act→World→Prop} {Q:Exit→Act→World→Prop} {E:Prop} (dst:Option Tmp) (hdst:o.dst=dst) (hgd:Region.wanted o (yielded ops a.tmps)=true) (s x:Operand) (t:TypeId)
  (ho:o.op=.call { callee:=.builtin .append,args:=#[s,x],argTypes:=#[t,t] })
  (e:TypeId) (i:TypeInfo) (z:Value) (k bytes:Nat) (ht:P.underlying t=some (.slice e)) (hi:P.info? e=some i) (hz:i.zero=some z)
  (hsize:i.size=k) (hk:0 < k) (hby:i.bytes=bytes) (hzs:z.cells.size=k)
  (b off n:Nat) (xs:List Value) (hs:a.eval s=.slice (some ⟨b,off,none⟩) n n) (hxs:xs.length=n*k) (hsx:Sl w (some ⟨b,off,none⟩) (n*k) xs)
  (A:Option Addr) (m c:Nat) (news:List Value) (hx:a.eval x=.slice A m c) (hm:news.length=m*k) (h0:0 < m) (hsl:Sl w A (c*k) news)
  (h63:n+m≤maxLen) (hbytes:(n+m)*bytes≤140737488355328)
  (h:∀v' w',w'.ownsRow w.heap.size e k v' (n+m) (xs++news)→Below w.heap.size w w'→K (a.put dst v') w') :
  if Region.wanted o (yielded ops a.tmps)=true then Oper.wp P o a w K Q else E:=by
 subst hdst
 rw[if_pos hgd]
 obtain⟨v',w',hrun,h2,h3⟩:=k0R (P:=P) w t o.type e i z k bytes ht hi hz hsize hk hby hzs b off n xs hxs hsx A m c news hm h0 hsl h63 hbytes
 unfold Oper.wp execOp
 simp only[ho,resolve,invoke,builtin,Sem.run_bind,Sem.run_pure,Result.andThen_ok,List.map_toArray,List.map_cons,List.map_nil,hs,hx,hrun]
 exact h v' w' h2 h3
theorem u0h (x:UInt8) (s:List UInt8) (hs:s.length≤1000000) (w:World) :
  Calls prog 126 #[.agg (fdV (x,s)).toArray] w (a0H (c0X (x,s)) w):=by
 obtain⟨i0,hi,hz0,hz1,hz2⟩:=info_parts infoByte
 have hlL:=c0j s.length
 obtain⟨L,hL⟩:∃L,L=varL s.length:=⟨_,rfl⟩
 rw[←hL] at hlL
 have hL0:0 < L.length:=hlL.1
 have hz:=a0c s
 have hwz:IntKind.u64.wrap (s.length:Int)=(s.length:Int):=by rw[IntKind.wrap_u64];omega
 have hnum:=f1D (show ∀w1,Calls prog 169 #[.int .u64 s.length] w1 (a0H L w1) by rw[hL];exact fun w1=>k0J s.length (by omega) w1)
 have hF:=f1D (show c0X (x,s)=[x]++L++s by rw[hL];rfl)
 have n1:1+L.length≤maxLen:=by unfold maxLen;omega
 have n2:(1+L.length)*1≤140737488355328:=by omega
 have m1:1+L.length+s.length≤maxLen:=by unfold maxLen;omega
 have m2:(1+L.length+s.length)*1≤140737488355328:=by omega
 clear hL hlL
 go_enter func126,ntmps126
 go_wp2_with fail
 generalize hw3:World.alloc w _=w3
 have hr:Row w3 w.heap.size 180 (fdV (x,s)):=by rw[←hw3];exact Row.new w _ (fdV (x,s))
 have hb3:Below w.heap.size w w3:=by rw[←hw3];exact (Below.refl _ w).alloc (f1F _) _
 clear hw3
 have hcA:∀w',Below w3.heap.size w3 w'→w'.cell? ⟨w.heap.size,0,none⟩=some (.int .u8 (x.toNat:Int)):=fun w' h=>by rw[(hr.later h hr.lt).cell];rfl
 have hcB:∀w',Below w3.heap.size w3 w'→w'.cell? ⟨w.heap.size,1,none⟩=some (.string (bstr s)):=fun w' h=>by rw[(hr.later h hr.lt).cell];rfl
 refine wp_region_noPanic ?_
 refine wp_region_held_drew (S:=fun w'=>Below w3.heap.size w3 w') (by kernel_rfl) ((Below.refl _ _).drew) (fun hHeld=>?_)
 have hB:=hHeld
 refine rt 0 3 hHeld ?_
 refine rt 1 4 hHeld ?_
 refine rt 3 6 hHeld ?_
 refine rt 4 7 hHeld ?_
 refine rt 5 8 hHeld ?_
 refine rt 6 9 hHeld ?_
 refine rt 9 12 hHeld ?_
 refine rt 10 13 hHeld ?_
 refine wpAnyH_ready (rs:=[2,7,11]) (by kernel_rfl) (by simp) (AllReadyH.cons (o:=_) rfl (fun K hK=>?_) (AllReadyH.cons (o:=_) rfl (fun K hK=>?_) (AllReadyH.cons (o:=_) rfl (fun K hK=>?_) AllReadyH.nil)))
 ·refine b0q (some 5) rfl (by rfl) (.slice (some ⟨w3.heap.size,0,none⟩) 1 1) (.cells (byts [x]).toArray 5) (by go_simp;try rfl) ?_;intro ww32 hw hqw32;have hsl2:Sl ww32 (some ⟨w3.heap.size,0,none⟩) (1*1) (byts [x]):=(by rw[hw];exact⟨Rd.row (ys:=[]) (by rw[List.append_nil];exact Row.new w3.drew 5 (byts [x])),f1F _,fun h=>by cases h⟩);clear hw
  refine hK.out _ _ (hHeld.trans (hqw32.mono hHeld.size)) (fun hHeld'=>?_)
  clear hK K
  try (first | (rw[a0l];dsimp only[List.set]) | rw[a0u])
  have hB:=a0a hB hqw32
  have hB2:Below ww32.heap.size ww32 ww32:=Below.refl _ _
  clear hHeld
  have hHeld:=hHeld'
  refine rc2 7 11 (fun K hK=>?_) fun K hK=>?_
  ·go_simp
   refine (hnum.out _).mono ?_;rintro e ww37 ⟨v7,rfl,hown7,hqw37⟩;obtain⟨A7,c7,rfl,_,hsl7⟩:=Sl.of_ownk hown7;clear hown7
   try go_wp2_with fail
   refine hK.out _ _ (hHeld.trans (hqw37.mono hHeld.size)) (fun hHeld'=>?_)
   clear hK K
   have hB:=a0a hB hqw37
   have hB2:=a0a hB2 hqw37
   have hB7:Below ww37.heap.size ww37 ww37:=Below.refl _ _
   clear hHeld
   have hHeld:=hHeld'
   refine rc2 8 11 (fun K hK=>?_) fun K hK=>?_
   ·refine b0s (some 11) rfl (by rfl) (.tmp 5) (.tmp 10) 61 rfl 5 i0 _ 1 1 underlying61 hi hz0 hz1 (by omega) hz2 rfl _ 0 1 (byts [x]) rfl rfl (hsl2.later (f1F _) hB2) A7 L.length c7 (byts L) rfl (by rw[a0b,Nat.mul_one]) hL0 (hsl7.later (f1F _) hB7) n1 n2 ?_;intro v8 ww38 hown8 hqw38;rw[←a0h] at hown8;have hq8:=f1D (show w3.heap.size≤ww37.heap.size from hB.size)
    refine hK.out _ _ (hHeld.trans (hqw38.mono hHeld.size)) (fun hHeld'=>?_)
    clear hK K
    try (first | (rw[a0l];dsimp only[List.set]) | rw[a0u])
    have hB:=a0a hB hqw38
    have hB2:=a0a hB2 hqw38
    have hB7:=a0a hB7 hqw38
    have hB8:Below ww38.heap.size ww38 ww38:=Below.refl _ _
    clear hHeld
    have hHeld:=hHeld'
    refine rc1 11 fun K hK=>?_
    refine b0J (some 14) rfl (by rfl) (.tmp 13) rfl s rfl ?_;intro A11 c11 ww311 hsl11 hqw311
    refine hK.out _ _ (hHeld.trans (hqw311.mono hHeld.size)) (fun hHeld'=>?_)
    clear hK K
    try (first | (rw[a0l];dsimp only[List.set]) | rw[a0u])
    have hB:=a0a hB hqw311
    have hB2:=a0a hB2 hqw311
    have hB7:=a0a hB7 hqw311
    have hB8:=a0a hB8 hqw311
    have hB11:Below ww311.heap.size ww311 ww311:=Below.refl _ _
    clear hHeld
    have hHeld:=hHeld'
    refine rc1 12 fun K hK=>?_
    refine b0A (some 15) rfl (by rfl) (.tmp 11) (.tmp 14) 61 rfl w3.heap.size 5 i0 _ 1 underlying61 hi hz0 hz1 hz2 rfl _ (1+L.length) _ rfl (a0N (a0D hown8 hB8 (f1F _)) hq8.out) A11 s.length c11 (byts s) rfl (a0b s).symm (hsl11.later (f1F _) hB11) (a0o _) m1 m2 w3 rfl hB ?_;intro v12 ww312 hown12 hg _;have hqw312:Below w3.heap.size ww311 ww312:=(Below.refl w3.heap.size ww311).grown hg hB.size (fun k hk=>((a0N (a0D hown8 hB8 (f1F _)) hq8.out).lt k hk).1);clear hg;rw[←a0h] at hown12
    refine hK.out _ _ (hHeld.trans hqw312) (fun hHeld'=>?_)
    clear hK K
    try (first | (rw[a0l];dsimp only[List.set]) | rw[a0u])
    have hB:=hB.trans hqw312
    clear hB2 hB7 hB8 hB11
    have hB12:Below ww312.heap.size ww312 ww312:=Below.refl _ _
    refine a0f (S':=fun w'=>Below ww312.heap.size ww312 w') (fun _ h=>(hHeld.trans hqw312).trans (h.mono (hHeld.trans hqw312).size)) _ _ _ _ ?_
    clear hHeld
    have hHeld:Below ww312.heap.size ww312 ww312:=Below.refl _ _
    refine rt 13 2 hHeld ?_
    refine wpAnyH_done (by kernel_rfl) ?_ _
    refine NoPanic.normal ?_
    have hBe:=hb3.trans (hB.mono hb3.size)
    clear hHeld hsl2 hsl7 hsl11 hown8
    go_wp2
    go_ret
    refine⟨_,rfl,?_,hBe⟩
    rw[hF.out,show ([x]++L++s).length=1+L.length+s.length by simp;omega]
    exact a0N hown12 hb3.size
   ·refine b0J (some 14) rfl (by rfl) (.tmp 13) rfl s rfl ?_;intro A11 c11 ww311 hsl11 hqw311
    refine hK.out _ _ (hHeld.trans (hqw311.mono hHeld.size)) (fun hHeld'=>?_)
    clear hK K
    try (first | (rw[a0l];dsimp only[List.set]) | rw[a0u])
    have hB:=a0a hB hqw311
    have hB2:=a0a hB2 hqw311
    have hB7:=a0a hB7 hqw311
    have hB11:Below ww311.heap.size ww311 ww311:=Below.refl _ _
    clear hHeld
    have hHeld:=hHeld'
    refine rc1 8 fun K hK=>?_
    refine b0s (some 11) rfl (by rfl) (.tmp 5) (.tmp 10) 61 rfl 5 i0 _ 1 1 underlying61 hi hz0 hz1 (by omega) hz2 rfl _ 0 1 (byts [x]) rfl rfl (hsl2.later (f1F _) hB2) A7 L.length c7 (byts L) rfl (by rw[a0b,Nat.mul_one]) hL0 (hsl7.later (f1F _) hB7) n1 n2 ?_;intro v8 ww38 hown8 hqw38;rw[←a0h] at hown8;have hq8:=f1D (show w3.heap.size≤ww311.heap.size from hB.size)
    refine hK.out _ _ (hHeld.trans (hqw38.mono hHeld.size)) (fun hHeld'=>?_)
    clear hK K
    try (first | (rw[a0l];dsimp only[List.set]) | rw[a0u])
    have hB:=a0a hB hqw38
    have hB2:=a0a hB2 hqw38
    have hB7:=a0a hB7 hqw38
    have hB11:=a0a hB11 hqw38
    have hB8:Below ww38.heap.size ww38 ww38:=Below.refl _ _
    clear hHeld
    have hHeld:=hHeld'
    refine rc1 12 fun K hK=>?_
    refine b0A (some 15) rfl (by rfl) (.tmp 11) (.tmp 14) 61 rfl w3.heap.size 5 i0 _ 1 underlying61 hi hz0 hz1 hz2 rfl _ (1+L.length) _ rfl (a0N (a0D hown8 hB8 (f1F _)) hq8.out) A11 s.length c11 (byts s) rfl (a0b s).symm (hsl11.later (f1F _) hB11) (a0o _) m1 m2 w3 rfl hB ?_;intro v12 ww312 hown12 hg _;have hqw312:Below w3.heap.size ww38 ww312:=(Below.refl w3.heap.size ww38).grown hg hB.size (fun k hk=>((a0N (a0D hown8 hB8 (f1F _)) hq8.out).lt k hk).1);clear hg;rw[←a0h] at hown12
    refine hK.out _ _ (hHeld.trans hqw312) (fun hHeld'=>?_)
    clear hK K
    try (first | (rw[a0l];dsimp only[List.set]) | rw[a0u])
    have hB:=hB.trans hqw312
    clear hB2 hB7 hB11 hB8
    have hB12:Below ww312.heap.size ww312 ww312:=Below.refl _ _
    refine a0f (S':=fun w'=>Below ww312.heap.size ww312 w') (fun _ h=>(hHeld.trans hqw312).trans (h.mono (hHeld.trans hqw312).size)) _ _ _ _ ?_
    clear hHeld
    have hHeld:Below ww312.heap.size ww312 ww312:=Below.refl _ _
    refine rt 13 2 hHeld ?_
    refine wpAnyH_done (by kernel_rfl) ?_ _
    refine NoPanic.normal ?_
    have hBe:=hb3.trans (hB.mono hb3.size)
    clear hHeld hsl2 hsl7 hsl11 hown8
    go_wp2
    go_ret
    refine⟨_,rfl,?_,hBe⟩
    rw[hF.out,show ([x]++L++s).length=1+L.length+s.length by simp;omega]
    exact a0N hown12 hb3.size
  ·refine b0J (some 14) rfl (by rfl) (.tmp 13) rfl s rfl ?_;intro A11 c11 ww311 hsl11 hqw311
   refine hK.out _ _ (hHeld.trans (hqw311.mono hHeld.size)) (fun hHeld'=>?_)
   clear hK K
   try (first | (rw[a0l];dsimp only[List.set]) | rw[a0u])
   have hB:=a0a hB hqw311
   have hB2:=a0a hB2 hqw311
   have hB11:Below ww311.heap.size ww311 ww311:=Below.refl _ _
   clear hHeld
   have hHeld:=hHeld'
   refine rc1 7 fun K hK=>?_
   go_simp
   refine (hnum.out _).mono ?_;rintro e ww37 ⟨v7,rfl,hown7,hqw37⟩;obtain⟨A7,c7,rfl,_,hsl7⟩:=Sl.of_ownk hown7;clear hown7
   try go_wp2_with fail
   refine hK.out _ _ (hHeld.trans (hqw37.mono hHeld.size)) (fun hHeld'=>?_)
   clear hK K
   have hB:=a0a hB hqw37
   have hB2:=a0a hB2 hqw37
   have hB11:=a0a hB11 hqw37
   have hB7:Below ww37.heap.size ww37 ww37:=Below.refl _ _
   clear hHeld
   have hHeld:=hHeld'
   refine rc1 8 fun K hK=>?_
   refine b0s (some 11) rfl (by rfl) (.tmp 5) (.tmp 10) 61 rfl 5 i0 _ 1 1 underlying61 hi hz0 hz1 (by omega) hz2 rfl _ 0 1 (byts [x]) rfl rfl (hsl2.later (f1F _) hB2) A7 L.length c7 (byts L) rfl (by rw[a0b,Nat.mul_one]) hL0 (hsl7.later (f1F _) hB7) n1 n2 ?_;intro v8 ww38 hown8 hqw38;rw[←a0h] at hown8;have hq8:=f1D (show w3.heap.size≤ww37.heap.size from hB.size)
   refine hK.out _ _ (hHeld.trans (hqw38.mono hHeld.size)) (fun hHeld'=>?_)
   clear hK K
   try (first | (rw[a0l];dsimp only[List.set]) | rw[a0u])
   have hB:=a0a hB hqw38
   have hB2:=a0a hB2 hqw38
   have hB11:=a0a hB11 hqw38
   have hB7:=a0a hB7 hqw38
   have hB8:Below ww38.heap.size ww38 ww38:=Below.refl _ _
   clear hHeld
   have hHeld:=hHeld'
   refine rc1 12 fun K hK=>?_
   refine b0A (some 15) rfl (by rfl) (.tmp 11) (.tmp 14) 61 rfl w3.heap.size 5 i0 _ 1 underlying61 hi hz0 hz1 hz2 rfl _ (1+L.length) _ rfl (a0N (a0D hown8 hB8 (f1F _)) hq8.out) A11 s.length c11 (byts s) rfl (a0b s).symm (hsl11.later (f1F _) hB11) (a0o _) m1 m2 w3 rfl hB ?_;intro v12 ww312 hown12 hg _;have hqw312:Below w3.heap.size ww38 ww312:=(Below.refl w3.heap.size ww38).grown hg hB.size (fun k hk=>((a0N (a0D hown8 hB8 (f1F _)) hq8.out).lt k hk).1);clear hg;rw[←a0h] at hown12
   refine hK.out _ _ (hHeld.trans hqw312) (fun hHeld'=>?_)
   clear hK K
   try (first | (rw[a0l];dsimp only[List.set]) | rw[a0u])
   have hB:=hB.trans hqw312
   clear hB2 hB11 hB7 hB8
   have hB12:Below ww312.heap.size ww312 ww312:=Below.refl _ _
   refine a0f (S':=fun w'=>Below ww312.heap.size ww312 w') (fun _ h=>(hHeld.trans hqw312).trans (h.mono (hHeld.trans hqw312).size)) _ _ _ _ ?_
   clear hHeld
   have hHeld:Below ww312.heap.size ww312 ww312:=Below.refl _ _
   refine rt 13 2 hHeld ?_
   refine wpAnyH_done (by kernel_rfl) ?_ _
   refine NoPanic.normal ?_
   have hBe:=hb3.trans (hB.mono hb3.size)
   clear hHeld hsl2 hsl7 hsl11 hown8
   go_wp2
   go_ret
   refine⟨_,rfl,?_,hBe⟩
   rw[hF.out,show ([x]++L++s).length=1+L.length+s.length by simp;omega]
   exact a0N hown12 hb3.size
 ·go_simp
  refine (hnum.out _).mono ?_;rintro e ww37 ⟨v7,rfl,hown7,hqw37⟩;obtain⟨A7,c7,rfl,_,hsl7⟩:=Sl.of_ownk hown7;clear hown7
  try go_wp2_with fail
  refine hK.out _ _ (hHeld.trans (hqw37.mono hHeld.size)) (fun hHeld'=>?_)
  clear hK K
  have hB:=a0a hB hqw37
  have hB7:Below ww37.heap.size ww37 ww37:=Below.refl _ _
  clear hHeld
  have hHeld:=hHeld'
  refine rc2 2 11 (fun K hK=>?_) fun K hK=>?_
  ·refine b0q (some 5) rfl (by rfl) (.slice (some ⟨ww37.heap.size,0,none⟩) 1 1) (.cells (byts [x]).toArray 5) (by go_simp;try rfl) ?_;intro ww32 hw hqw32;have hsl2:Sl ww32 (some ⟨ww37.heap.size,0,none⟩) (1*1) (byts [x]):=(by rw[hw];exact⟨Rd.row (ys:=[]) (by rw[List.append_nil];exact Row.new ww37 5 (byts [x])),f1F _,fun h=>by cases h⟩);clear hw
   refine hK.out _ _ (hHeld.trans (hqw32.mono hHeld.size)) (fun hHeld'=>?_)
   clear hK K
   try (first | (rw[a0l];dsimp only[List.set]) | rw[a0u])
   have hB:=a0a hB hqw32
   have hB7:=a0a hB7 hqw32
   have hB2:Below ww32.heap.size ww32 ww32:=Below.refl _ _
   clear hHeld
   have hHeld:=hHeld'
   refine rc2 8 11 (fun K hK=>?_) fun K hK=>?_
   ·refine b0s (some 11) rfl (by rfl) (.tmp 5) (.tmp 10) 61 rfl 5 i0 _ 1 1 underlying61 hi hz0 hz1 (by omega) hz2 rfl _ 0 1 (byts [x]) rfl rfl (hsl2.later (f1F _) hB2) A7 L.length c7 (byts L) rfl (by rw[a0b,Nat.mul_one]) hL0 (hsl7.later (f1F _) hB7) n1 n2 ?_;intro v8 ww38 hown8 hqw38;rw[←a0h] at hown8;have hq8:=f1D (show w3.heap.size≤ww32.heap.size from hB.size)
    refine hK.out _ _ (hHeld.trans (hqw38.mono hHeld.size)) (fun hHeld'=>?_)
    clear hK K
    try (first | (rw[a0l];dsimp only[List.set]) | rw[a0u])
    have hB:=a0a hB hqw38
    have hB7:=a0a hB7 hqw38
    have hB2:=a0a hB2 hqw38
    have hB8:Below ww38.heap.size ww38 ww38:=Below.refl _ _
    clear hHeld
    have hHeld:=hHeld'
    refine rc1 11 fun K hK=>?_
    refine b0J (some 14) rfl (by rfl) (.tmp 13) rfl s rfl ?_;intro A11 c11 ww311 hsl11 hqw311
    refine hK.out _ _ (hHeld.trans (hqw311.mono hHeld.size)) (fun hHeld'=>?_)
    clear hK K
    try (first | (rw[a0l];dsimp only[List.set]) | rw[a0u])
    have hB:=a0a hB hqw311
    have hB7:=a0a hB7 hqw311
    have hB2:=a0a hB2 hqw311
    have hB8:=a0a hB8 hqw311
    have hB11:Below ww311.heap.size ww311 ww311:=Below.refl _ _
    clear hHeld
    have hHeld:=hHeld'
    refine rc1 12 fun K hK=>?_
    refine b0A (some 15) rfl (by rfl) (.tmp 11) (.tmp 14) 61 rfl w3.heap.size 5 i0 _ 1 underlying61 hi hz0 hz1 hz2 rfl _ (1+L.length) _ rfl (a0N (a0D hown8 hB8 (f1F _)) hq8.out) A11 s.length c11 (byts s) rfl (a0b s).symm (hsl11.later (f1F _) hB11) (a0o _) m1 m2 w3 rfl hB ?_;intro v12 ww312 hown12 hg _;have hqw312:Below w3.heap.size ww311 ww312:=(Below.refl w3.heap.size ww311).grown hg hB.size (fun k hk=>((a0N (a0D hown8 hB8 (f1F _)) hq8.out).lt k hk).1);clear hg;rw[←a0h] at hown12
    refine hK.out _ _ (hHeld.trans hqw312) (fun hHeld'=>?_)
    clear hK K
    try (first | (rw[a0l];dsimp only[List.set]) | rw[a0u])
    have hB:=hB.trans hqw312
    clear hB7 hB2 hB8 hB11
    have hB12:Below ww312.heap.size ww312 ww312:=Below.refl _ _
    refine a0f (S':=fun w'=>Below ww312.heap.size ww312 w') (fun _ h=>(hHeld.trans hqw312).trans (h.mono (hHeld.trans hqw312).size)) _ _ _ _ ?_
    clear hHeld
    have hHeld:Below ww312.heap.size ww312 ww312:=Below.refl _ _
    refine rt 13 2 hHeld ?_
    refine wpAnyH_done (by kernel_rfl) ?_ _
    refine NoPanic.normal ?_
    have hBe:=hb3.trans (hB.mono hb3.size)
    clear hHeld hsl2 hsl7 hsl11 hown8
    go_wp2
    go_ret
    refine⟨_,rfl,?_,hBe⟩
    rw[hF.out,show ([x]++L++s).length=1+L.length+s.length by simp;omega]
    exact a0N hown12 hb3.size
   ·refine b0J (some 14) rfl (by rfl) (.tmp 13) rfl s rfl ?_;intro A11 c11 ww311 hsl11 hqw311
    refine hK.out _ _ (hHeld.trans (hqw311.mono hHeld.size)) (fun hHeld'=>?_)
    clear hK K
    try (first | (rw[a0l];dsimp only[List.set]) | rw[a0u])
    have hB:=a0a hB hqw311
    have hB7:=a0a hB7 hqw311
    have hB2:=a0a hB2 hqw311
    have hB11:Below ww311.heap.size ww311 ww311:=Below.refl _ _
    clear hHeld
    have hHeld:=hHeld'
    refine rc1 8 fun K hK=>?_
    refine b0s (some 11) rfl (by rfl) (.tmp 5) (.tmp 10) 61 rfl 5 i0 _ 1 1 underlying61 hi hz0 hz1 (by omega) hz2 rfl _ 0 1 (byts [x]) rfl rfl (hsl2.later (f1F _) hB2) A7 L.length c7 (byts L) rfl (by rw[a0b,Nat.mul_one]) hL0 (hsl7.later (f1F _) hB7) n1 n2 ?_;intro v8 ww38 hown8 hqw38;rw[←a0h] at hown8;have hq8:=f1D (show w3.heap.size≤ww311.heap.size from hB.size)
    refine hK.out _ _ (hHeld.trans (hqw38.mono hHeld.size)) (fun hHeld'=>?_)
    clear hK K
    try (first | (rw[a0l];dsimp only[List.set]) | rw[a0u])
    have hB:=a0a hB hqw38
    have hB7:=a0a hB7 hqw38
    have hB2:=a0a hB2 hqw38
    have hB11:=a0a hB11 hqw38
    have hB8:Below ww38.heap.size ww38 ww38:=Below.refl _ _
    clear hHeld
    have hHeld:=hHeld'
    refine rc1 12 fun K hK=>?_
    refine b0A (some 15) rfl (by rfl) (.tmp 11) (.tmp 14) 61 rfl w3.heap.size 5 i0 _ 1 underlying61 hi hz0 hz1 hz2 rfl _ (1+L.length) _ rfl (a0N (a0D hown8 hB8 (f1F _)) hq8.out) A11 s.length c11 (byts s) rfl (a0b s).symm (hsl11.later (f1F _) hB11) (a0o _) m1 m2 w3 rfl hB ?_;intro v12 ww312 hown12 hg _;have hqw312:Below w3.heap.size ww38 ww312:=(Below.refl w3.heap.size ww38).grown hg hB.size (fun k hk=>((a0N (a0D hown8 hB8 (f1F _)) hq8.out).lt k hk).1);clear hg;rw[←a0h] at hown12
    refine hK.out _ _ (hHeld.trans hqw312) (fun hHeld'=>?_)
    clear hK K
    try (first | (rw[a0l];dsimp only[List.set]) | rw[a0u])
    have hB:=hB.trans hqw312
    clear hB7 hB2 hB11 hB8
    have hB12:Below ww312.heap.size ww312 ww312:=Below.refl _ _
    refine a0f (S':=fun w'=>Below ww312.heap.size ww312 w') (fun _ h=>(hHeld.trans hqw312).trans (h.mono (hHeld.trans hqw312).size)) _ _ _ _ ?_
    clear hHeld
    have hHeld:Below ww312.heap.size ww312 ww312:=Below.refl _ _
    refine rt 13 2 hHeld ?_
    refine wpAnyH_done (by kernel_rfl) ?_ _
    refine NoPanic.normal ?_
    have hBe:=hb3.trans (hB.mono hb3.size)
    clear hHeld hsl2 hsl7 hsl11 hown8
    go_wp2
    go_ret
    refine⟨_,rfl,?_,hBe⟩
    rw[hF.out,show ([x]++L++s).length=1+L.length+s.length by simp;omega]
    exact a0N hown12 hb3.size
  ·refine b0J (some 14) rfl (by rfl) (.tmp 13) rfl s rfl ?_;intro A11 c11 ww311 hsl11 hqw311
   refine hK.out _ _ (hHeld.trans (hqw311.mono hHeld.size)) (fun hHeld'=>?_)
   clear hK K
   try (first | (rw[a0l];dsimp only[List.set]) | rw[a0u])
   have hB:=a0a hB hqw311
   have hB7:=a0a hB7 hqw311
   have hB11:Below ww311.heap.size ww311 ww311:=Below.refl _ _
   clear hHeld
   have hHeld:=hHeld'
   refine rc1 2 fun K hK=>?_
   refine b0q (some 5) rfl (by rfl) (.slice (some ⟨ww311.heap.size,0,none⟩) 1 1) (.cells (byts [x]).toArray 5) (by go_simp;try rfl) ?_;intro ww32 hw hqw32;have hsl2:Sl ww32 (some ⟨ww311.heap.size,0,none⟩) (1*1) (byts [x]):=(by rw[hw];exact⟨Rd.row (ys:=[]) (by rw[List.append_nil];exact Row.new ww311 5 (byts [x])),f1F _,fun h=>by cases h⟩);clear hw
   refine hK.out _ _ (hHeld.trans (hqw32.mono hHeld.size)) (fun hHeld'=>?_)
   clear hK K
   try (first | (rw[a0l];dsimp only[List.set]) | rw[a0u])
   have hB:=a0a hB hqw32
   have hB7:=a0a hB7 hqw32
   have hB11:=a0a hB11 hqw32
   have hB2:Below ww32.heap.size ww32 ww32:=Below.refl _ _
   clear hHeld
   have hHeld:=hHeld'
   refine rc1 8 fun K hK=>?_
   refine b0s (some 11) rfl (by rfl) (.tmp 5) (.tmp 10) 61 rfl 5 i0 _ 1 1 underlying61 hi hz0 hz1 (by omega) hz2 rfl _ 0 1 (byts [x]) rfl rfl (hsl2.later (f1F _) hB2) A7 L.length c7 (byts L) rfl (by rw[a0b,Nat.mul_one]) hL0 (hsl7.later (f1F _) hB7) n1 n2 ?_;intro v8 ww38 hown8 hqw38;rw[←a0h] at hown8;have hq8:=f1D (show w3.heap.size≤ww32.heap.size from hB.size)
   refine hK.out _ _ (hHeld.trans (hqw38.mono hHeld.size)) (fun hHeld'=>?_)
   clear hK K
   try (first | (rw[a0l];dsimp only[List.set]) | rw[a0u])
   have hB:=a0a hB hqw38
   have hB7:=a0a hB7 hqw38
   have hB11:=a0a hB11 hqw38
   have hB2:=a0a hB2 hqw38
   have hB8:Below ww38.heap.size ww38 ww38:=Below.refl _ _
   clear hHeld
   have hHeld:=hHeld'
   refine rc1 12 fun K hK=>?_
   refine b0A (some 15) rfl (by rfl) (.tmp 11) (.tmp 14) 61 rfl w3.heap.size 5 i0 _ 1 underlying61 hi hz0 hz1 hz2 rfl _ (1+L.length) _ rfl (a0N (a0D hown8 hB8 (f1F _)) hq8.out) A11 s.length c11 (byts s) rfl (a0b s).symm (hsl11.later (f1F _) hB11) (a0o _) m1 m2 w3 rfl hB ?_;intro v12 ww312 hown12 hg _;have hqw312:Below w3.heap.size ww38 ww312:=(Below.refl w3.heap.size ww38).grown hg hB.size (fun k hk=>((a0N (a0D hown8 hB8 (f1F _)) hq8.out).lt k hk).1);clear hg;rw[←a0h] at hown12
   refine hK.out _ _ (hHeld.trans hqw312) (fun hHeld'=>?_)
   clear hK K
   try (first | (rw[a0l];dsimp only[List.set]) | rw[a0u])
   have hB:=hB.trans hqw312
   clear hB7 hB11 hB2 hB8
   have hB12:Below ww312.heap.size ww312 ww312:=Below.refl _ _
   refine a0f (S':=fun w'=>Below ww312.heap.size ww312 w') (fun _ h=>(hHeld.trans hqw312).trans (h.mono (hHeld.trans hqw312).size)) _ _ _ _ ?_
   clear hHeld
   have hHeld:Below ww312.heap.size ww312 ww312:=Below.refl _ _
   refine rt 13 2 hHeld ?_
   refine wpAnyH_done (by kernel_rfl) ?_ _
   refine NoPanic.normal ?_
   have hBe:=hb3.trans (hB.mono hb3.size)
   clear hHeld hsl2 hsl7 hsl11 hown8
   go_wp2
   go_ret
   refine⟨_,rfl,?_,hBe⟩
   rw[hF.out,show ([x]++L++s).length=1+L.length+s.length by simp;omega]
   exact a0N hown12 hb3.size
 ·refine b0J (some 14) rfl (by rfl) (.tmp 13) rfl s rfl ?_;intro A11 c11 ww311 hsl11 hqw311
  refine hK.out _ _ (hHeld.trans (hqw311.mono hHeld.size)) (fun hHeld'=>?_)
  clear hK K
  try (first | (rw[a0l];dsimp only[List.set]) | rw[a0u])
  have hB:=a0a hB hqw311
  have hB11:Below ww311.heap.size ww311 ww311:=Below.refl _ _
  clear hHeld
  have hHeld:=hHeld'
  refine rc2 2 7 (fun K hK=>?_) fun K hK=>?_
  ·refine b0q (some 5) rfl (by rfl) (.slice (some ⟨ww311.heap.size,0,none⟩) 1 1) (.cells (byts [x]).toArray 5) (by go_simp;try rfl) ?_;intro ww32 hw hqw32;have hsl2:Sl ww32 (some ⟨ww311.heap.size,0,none⟩) (1*1) (byts [x]):=(by rw[hw];exact⟨Rd.row (ys:=[]) (by rw[List.append_nil];exact Row.new ww311 5 (byts [x])),f1F _,fun h=>by cases h⟩);clear hw
   refine hK.out _ _ (hHeld.trans (hqw32.mono hHeld.size)) (fun hHeld'=>?_)
   clear hK K
   try (first | (rw[a0l];dsimp only[List.set]) | rw[a0u])
   have hB:=a0a hB hqw32
   have hB11:=a0a hB11 hqw32
   have hB2:Below ww32.heap.size ww32 ww32:=Below.refl _ _
   clear hHeld
   have hHeld:=hHeld'
   refine rc1 7 fun K hK=>?_
   go_simp
   refine (hnum.out _).mono ?_;rintro e ww37 ⟨v7,rfl,hown7,hqw37⟩;obtain⟨A7,c7,rfl,_,hsl7⟩:=Sl.of_ownk hown7;clear hown7
   try go_wp2_with fail
   refine hK.out _ _ (hHeld.trans (hqw37.mono hHeld.size)) (fun hHeld'=>?_)
   clear hK K
   have hB:=a0a hB hqw37
   have hB11:=a0a hB11 hqw37
   have hB2:=a0a hB2 hqw37
   have hB7:Below ww37.heap.size ww37 ww37:=Below.refl _ _
   clear hHeld
   have hHeld:=hHeld'
   refine rc1 8 fun K hK=>?_
   refine b0s (some 11) rfl (by rfl) (.tmp 5) (.tmp 10) 61 rfl 5 i0 _ 1 1 underlying61 hi hz0 hz1 (by omega) hz2 rfl _ 0 1 (byts [x]) rfl rfl (hsl2.later (f1F _) hB2) A7 L.length c7 (byts L) rfl (by rw[a0b,Nat.mul_one]) hL0 (hsl7.later (f1F _) hB7) n1 n2 ?_;intro v8 ww38 hown8 hqw38;rw[←a0h] at hown8;have hq8:=f1D (show w3.heap.size≤ww37.heap.size from hB.size)
   refine hK.out _ _ (hHeld.trans (hqw38.mono hHeld.size)) (fun hHeld'=>?_)
   clear hK K
   try (first | (rw[a0l];dsimp only[List.set]) | rw[a0u])
   have hB:=a0a hB hqw38
   have hB11:=a0a hB11 hqw38
   have hB2:=a0a hB2 hqw38
   have hB7:=a0a hB7 hqw38
   have hB8:Below ww38.heap.size ww38 ww38:=Below.refl _ _
   clear hHeld
   have hHeld:=hHeld'
   refine rc1 12 fun K hK=>?_
   refine b0A (some 15) rfl (by rfl) (.tmp 11) (.tmp 14) 61 rfl w3.heap.size 5 i0 _ 1 underlying61 hi hz0 hz1 hz2 rfl _ (1+L.length) _ rfl (a0N (a0D hown8 hB8 (f1F _)) hq8.out) A11 s.length c11 (byts s) rfl (a0b s).symm (hsl11.later (f1F _) hB11) (a0o _) m1 m2 w3 rfl hB ?_;intro v12 ww312 hown12 hg _;have hqw312:Below w3.heap.size ww38 ww312:=(Below.refl w3.heap.size ww38).grown hg hB.size (fun k hk=>((a0N (a0D hown8 hB8 (f1F _)) hq8.out).lt k hk).1);clear hg;rw[←a0h] at hown12
   refine hK.out _ _ (hHeld.trans hqw312) (fun hHeld'=>?_)
   clear hK K
   try (first | (rw[a0l];dsimp only[List.set]) | rw[a0u])
   have hB:=hB.trans hqw312
   clear hB11 hB2 hB7 hB8
   have hB12:Below ww312.heap.size ww312 ww312:=Below.refl _ _
   refine a0f (S':=fun w'=>Below ww312.heap.size ww312 w') (fun _ h=>(hHeld.trans hqw312).trans (h.mono (hHeld.trans hqw312).size)) _ _ _ _ ?_
   clear hHeld
   have hHeld:Below ww312.heap.size ww312 ww312:=Below.refl _ _
   refine rt 13 2 hHeld ?_
   refine wpAnyH_done (by kernel_rfl) ?_ _
   refine NoPanic.normal ?_
   have hBe:=hb3.trans (hB.mono hb3.size)
   clear hHeld hsl2 hsl7 hsl11 hown8
   go_wp2
   go_ret
   refine⟨_,rfl,?_,hBe⟩
   rw[hF.out,show ([x]++L++s).length=1+L.length+s.length by simp;omega]
   exact a0N hown12 hb3.size
  ·go_simp
   refine (hnum.out _).mono ?_;rintro e ww37 ⟨v7,rfl,hown7,hqw37⟩;obtain⟨A7,c7,rfl,_,hsl7⟩:=Sl.of_ownk hown7;clear hown7
   try go_wp2_with fail
   refine hK.out _ _ (hHeld.trans (hqw37.mono hHeld.size)) (fun hHeld'=>?_)
   clear hK K
   have hB:=a0a hB hqw37
   have hB11:=a0a hB11 hqw37
   have hB7:Below ww37.heap.size ww37 ww37:=Below.refl _ _
   clear hHeld
   have hHeld:=hHeld'
   refine rc1 2 fun K hK=>?_
   refine b0q (some 5) rfl (by rfl) (.slice (some ⟨ww37.heap.size,0,none⟩) 1 1) (.cells (byts [x]).toArray 5) (by go_simp;try rfl) ?_;intro ww32 hw hqw32;have hsl2:Sl ww32 (some ⟨ww37.heap.size,0,none⟩) (1*1) (byts [x]):=(by rw[hw];exact⟨Rd.row (ys:=[]) (by rw[List.append_nil];exact Row.new ww37 5 (byts [x])),f1F _,fun h=>by cases h⟩);clear hw
   refine hK.out _ _ (hHeld.trans (hqw32.mono hHeld.size)) (fun hHeld'=>?_)
   clear hK K
   try (first | (rw[a0l];dsimp only[List.set]) | rw[a0u])
   have hB:=a0a hB hqw32
   have hB11:=a0a hB11 hqw32
   have hB7:=a0a hB7 hqw32
   have hB2:Below ww32.heap.size ww32 ww32:=Below.refl _ _
   clear hHeld
   have hHeld:=hHeld'
   refine rc1 8 fun K hK=>?_
   refine b0s (some 11) rfl (by rfl) (.tmp 5) (.tmp 10) 61 rfl 5 i0 _ 1 1 underlying61 hi hz0 hz1 (by omega) hz2 rfl _ 0 1 (byts [x]) rfl rfl (hsl2.later (f1F _) hB2) A7 L.length c7 (byts L) rfl (by rw[a0b,Nat.mul_one]) hL0 (hsl7.later (f1F _) hB7) n1 n2 ?_;intro v8 ww38 hown8 hqw38;rw[←a0h] at hown8;have hq8:=f1D (show w3.heap.size≤ww32.heap.size from hB.size)
   refine hK.out _ _ (hHeld.trans (hqw38.mono hHeld.size)) (fun hHeld'=>?_)
   clear hK K
   try (first | (rw[a0l];dsimp only[List.set]) | rw[a0u])
   have hB:=a0a hB hqw38
   have hB11:=a0a hB11 hqw38
   have hB7:=a0a hB7 hqw38
   have hB2:=a0a hB2 hqw38
   have hB8:Below ww38.heap.size ww38 ww38:=Below.refl _ _
   clear hHeld
   have hHeld:=hHeld'
   refine rc1 12 fun K hK=>?_
   refine b0A (some 15) rfl (by rfl) (.tmp 11) (.tmp 14) 61 rfl w3.heap.size 5 i0 _ 1 underlying61 hi hz0 hz1 hz2 rfl _ (1+L.length) _ rfl (a0N (a0D hown8 hB8 (f1F _)) hq8.out) A11 s.length c11 (byts s) rfl (a0b s).symm (hsl11.later (f1F _) hB11) (a0o _) m1 m2 w3 rfl hB ?_;intro v12 ww312 hown12 hg _;have hqw312:Below w3.heap.size ww38 ww312:=(Below.refl w3.heap.size ww38).grown hg hB.size (fun k hk=>((a0N (a0D hown8 hB8 (f1F _)) hq8.out).lt k hk).1);clear hg;rw[←a0h] at hown12
   refine hK.out _ _ (hHeld.trans hqw312) (fun hHeld'=>?_)
   clear hK K
   try (first | (rw[a0l];dsimp only[List.set]) | rw[a0u])
   have hB:=hB.trans hqw312
   clear hB11 hB7 hB2 hB8
   have hB12:Below ww312.heap.size ww312 ww312:=Below.refl _ _
   refine a0f (S':=fun w'=>Below ww312.heap.size ww312 w') (fun _ h=>(hHeld.trans hqw312).trans (h.mono (hHeld.trans hqw312).size)) _ _ _ _ ?_
   clear hHeld
   have hHeld:Below ww312.heap.size ww312 ww312:=Below.refl _ _
   refine rt 13 2 hHeld ?_
   refine wpAnyH_done (by kernel_rfl) ?_ _
   refine NoPanic.normal ?_
   have hBe:=hb3.trans (hB.mono hb3.size)
   clear hHeld hsl2 hsl7 hsl11 hown8
   go_wp2
   go_ret
   refine⟨_,rfl,?_,hBe⟩
   rw[hF.out,show ([x]++L++s).length=1+L.length+s.length by simp;omega]
   exact a0N hown12 hb3.size
theorem z0H (A:Option Addr) (b o n c k:Nat) (hA:A=some ⟨b,o,none⟩) (hk:k < n) (w:World) :
  (Instr.indexAt 134 (.slice A n c) (.int .i64 k)).run prog w=.ok (.pointer (some ⟨b,o+k*2,none⟩)) w:=by
 subst hA
 have h:(k:Int) < (n:Int):=by omega
 go_simp
theorem x0Z:(prog.info? 180).map (·.size)=some 2:=by kernel_rfl
theorem x0B (A:Option Addr) (n c:Nat) (fs:List Fd) (w:World) (hs:Sl w A (c*2) (fs.flatMap fdV)) (hn:n=fs.length) (hm:(c0F fs).length≤1000000) :
  Calls prog 87 #[.slice A n c] w (a0H (c0F fs) w):=by
 subst hn
 obtain⟨i0,hi,hz0,hz1,hz2⟩:=info_parts infoByte
 have hln:=o0v fs
 have hown0:(w.alloc (.cells #[] 5)).ownsRow w.heap.size 5 1 (.slice (some ⟨w.heap.size,0,none⟩) 0 0) 0 []:=World.ownsRow_lit w #[] 0 (f1F _) (by unfold maxLen;omega) rfl
 have hb0:=(Below.refl w.heap.size w).alloc (f1F _) (.cells #[] 5)
 go_enter func87,ntmps87
 go_wp2_with fail
 go_loopw [3,9] (fun v i wr=>∃k:Nat,k≤fs.length∧i=.int .i64 k∧wr.ownsRow w.heap.size 5 1 v (c0F (fs.take k)).length (byts (c0F (fs.take k)))∧Below w.heap.size w wr) (fun _ i _=>fs.length - (intOf i).toNat)
 case atStart=>exact⟨0,by omega,rfl,hown0,hb0⟩
 case round =>
  clear hown0 hb0
  obtain⟨k,hk,rfl,hown,hb⟩:=hrel
  by_cases hlt:k < fs.length
  ·obtain⟨f,hf⟩:∃f,fs[k]?=some f:=⟨_,List.getElem?_eq_getElem hlt⟩
   obtain⟨b,o,rfl,hb0,hr0⟩:=hs.rd.get (i:=0) (by rw[k0q];omega)
   clear hb0 hr0
   have hix:=z0H (some ⟨b,o,none⟩) b o fs.length c k rfl hlt
   have hrg:=(hs.later (f1F _) hb).thing (k:=2) (fun _ _=>rfl) k f hf
   have HS:=f1D (l0L fs k f hf)
   have hjl:(c0F (fs.take (k+1))).length≤(c0F fs).length:=by
    have e:fs=fs.take (k+1)++fs.drop (k+1):=(List.take_append_drop (k+1) fs).symm
    conv=>rhs;rw[e]
    rw[i0T,List.length_append];omega
   rw[HS.out,List.length_append] at hjl
   have hfl:=d0o f
   have hby:=f1D (show ∀w1,Calls prog 126 #[.agg (fdV f).toArray] w1 (a0H (c0X f) w1) from fun w1=>u0h f.1 f.2 (by omega) w1)
   have hzf:=f1D (show (prog.info? 180).map (·.size)=some (fdV f).length from x0Z)
   have hzf2:=f1D (show (prog.info? 180).map (·.size)=some (fdV f).toArray.size from x0Z)
   have hof:=f1D (show (fdV f).toArray.all (·.oneCell')=true from b0d (fun v hv=>v0P [f] v (by simpa using hv)))
   obtain⟨V,hV⟩:∃V,V=fdV f:=⟨_,rfl⟩
   rw[←hV] at hrg hby hzf hzf2 hof
   have hV2:=f1D (show (2:Nat)=V.toArray.size by rw[hV];rfl)
   clear hV
   generalize c0F (fs.take k)=F at *
   have n1:F.length+(c0X f).length≤maxLen:=by unfold maxLen;omega
   have n2:(F.length+(c0X f).length)*1≤140737488355328:=by omega
   generalize c0X f=G at *
   have HG:=f1D (show G.length=(byts G).length from (a0b G).symm)
   clear hfl hf
   go_wp2_with (first
    | (with_reducible refine wpList_load_mid rfl 180 (.tmp 11) rfl b (o+k*2) rfl V _ hrg underlying180 rfl hzf.out ?_)
    | (with_reducible refine wpList_store_row rfl 180 (.tmp 5) (.tmp 12) rfl wr.heap.size V.toArray rfl rfl 180 _ (heap_alloc_new wr _) hzf2.out (Eq.trans (by kernel_rfl) hV2.out) hof.out ?_;refine Hid.out ?_))
   refine f1D ?_
   generalize hw5:World.setRow _ _ _=w5
   obtain⟨r5,hb5⟩:=a0v (xs:=V) hw5
   have R5:=f1D (show w5.heap[wr.heap.size]?=some (.cells V.toArray 180 (0,0)) from r5)
   have hown5:=a0D hown hb5 (f1F _)
   have hbw5:=hb.trans (hb5.mono hb.size)
   clear hw5 r5 hb5 hown
   go_wp2_with (first
    | (with_reducible refine wpList_load_row rfl 180 (.tmp 5) rfl wr.heap.size rfl 180 V.toArray (0,0) _ R5.out underlying180 rfl hzf2.out ?_)
    | (go_at_call 126;refine (hby.out _).mono ?_;rintro e w6 ⟨v6,rfl,hown6,hb6⟩;obtain⟨A6,c6,rfl,_,hsl6⟩:=Sl.of_own hown6;have hownF:=a0D hown5 hb6 (f1F _);have hbw6:=hbw5.trans (hb6.mono hbw5.size);clear hown6 hb6)
    | (at_builtin;refine a0j rfl (.tmp 13) (.tmp 15) 61 rfl w.heap.size 5 i0 _ 1 underlying61 hi hz0 hz1 hz2 rfl _ F.length (byts F) rfl hownF A6 G.length c6 (byts G) rfl HG.out hsl6 (a0o _) n1 n2 hbw6.size ?_;intro v7 w7 hown7 hg7;have hbw7:Below w.heap.size w w7:=hbw6.grown hg7 hbw6.size (fun k hk=>(hownF.lt k hk).1)))
   rw[←a0h,←List.length_append,←HS.out] at hown7
   go_roundw
   case rel=>exact⟨k+1,by omega,by go_num,hown7,hbw7⟩
   case measure=>simp[intOf];omega
  ·obtain rfl:k=fs.length:=by omega
   rw[List.take_length] at hown
   clear hlt hk hs
   generalize fs.length=n at *
   go_wp2
   go_ret
   exact⟨_,rfl,hown,hb⟩
theorem a1H (n:Nat) (h:n < 18446744073709551616) (w:World) :
  Calls prog 127 #[.int .u64 n] w fun e w'=>e=.returned (.string (bstr (varL n)))∧Below w.heap.size w w':=by
 have hv:=f1D (k0J n h)
 go_enter func127,ntmps127
 go_wp2_with (go_at_call 169;refine (hv.out _).mono ?_;rintro e w1 ⟨v1,rfl,hown1,hb1⟩;obtain⟨A1,c1,rfl,_,hsl1⟩:=Sl.of_own hown1;have hcv:=b0o hsl1 _ rfl;clear hown1 hsl1)
 go_ret
 exact⟨rfl,hb1⟩
theorem j0W (l:List UInt8):((bstr l).toList==({ data:=#[] } : ByteArray).toList)=decide (l=[]):=c0b l []
theorem a1B (c:Cav) (w:World) :
  Calls prog 18 #[.agg (cavV c).toArray] w fun e w'=>e=.returned (.bool (canC c))∧Below w.heap.size w w':=by
 obtain⟨third,text,party,id,vault⟩:=c
 have hb:=(Below.refl w.heap.size w).alloc (f1F _) (.cells (cavV ⟨third,text,party,id,vault⟩).toArray 43)
 have h1:=a0c text
 have h2:=a0c id
 have h3:=a0c vault
 have e1:=j0W text
 have e2:=j0W id
 have e3:=j0W vault
 unfold cavV
 clear h1 h2 h3 e1 e2 e3
 have h1:=a0c text
 have h2:=a0c id
 have h3:=a0c vault
 have e1:=a0p text
 have e2:=a0p id
 have e3:=a0p vault
 cases third
 ·go_enter func18,ntmps18
  go_wp2
  all_goals go_ret
  all_goals refine⟨?_,(Below.refl _ _).alloc (f1F _) _⟩
  all_goals simp_all [canC]
  all_goals first | (intro;omega) | (have hq:text.length≤512:=(by omega);cases vault<;>simp[hq]) | (have hq:id.length≤1024:=(by omega);rw[decide_eq_true hq,Bool.true_and];exact decide_eq_decide.2 (by omega))
 ·go_enter func18,ntmps18
  go_wp2
  all_goals go_ret
  all_goals refine⟨?_,(Below.refl _ _).alloc (f1F _) _⟩
  all_goals simp_all [canC]
  all_goals first | (intro;omega) | (have hq:text.length≤512:=(by omega);cases vault<;>simp[hq]) | (have hq:id.length≤1024:=(by omega);rw[decide_eq_true hq,Bool.true_and];exact decide_eq_decide.2 (by omega))
theorem a1C (c:Cav) (hp:c.party < 18446744073709551616) (w:World) :
  Calls prog 88 #[.agg (cavV c).toArray] w fun e w'=>∃A d,e=.returned (.slice A (cavF c).length d)∧Sl w' A (d*2) ((cavF c).flatMap fdV)∧Below w.heap.size w w':=by
 obtain⟨third,text,party,id,vault⟩:=c
 have hnum:=f1D (a1H party hp)
 have hb1:Below w.heap.size w (w.alloc (.cells (cavV ⟨third,text,party,id,vault⟩).toArray 43)):=(Below.refl _ _).alloc (f1F _) _
 have hr:Row (w.alloc (.cells (cavV ⟨third,text,party,id,vault⟩).toArray 43)) w.heap.size 43 (cavV ⟨third,text,party,id,vault⟩):=Row.new w 43 _
 unfold cavV at *
 cases third
 ·go_enter func88,ntmps88
  go_wp2
  go_ret
  exact⟨_,1,rfl,⟨Rd.block (fr:=(0,0)) (t:=180) (heap_alloc2_new w _ _),f1F _,fun h=>by cases h⟩,hb1.alloc hb1.size _⟩
 ·go_enter func88,ntmps88
  go_wp2_with fail
  generalize hw1:World.alloc w _=w1 at hb1 hr ⊢
  clear hw1
  have hc0:∀w',Below w1.heap.size w1 w'→w'.cell? ⟨w.heap.size,2,none⟩=some (.int .u64 party):=fun w' h=>by rw[(hr.later h hr.lt).cell];rfl
  have hc1:∀w',Below w1.heap.size w1 w'→w'.cell? ⟨w.heap.size,3,none⟩=some (.string (bstr id)):=fun w' h=>by rw[(hr.later h hr.lt).cell];rfl
  have hc2:∀w',Below w1.heap.size w1 w'→w'.cell? ⟨w.heap.size,4,none⟩=some (.string (bstr vault)):=fun w' h=>by rw[(hr.later h hr.lt).cell];rfl
  refine wp_region_noPanic ?_
  refine wp_region_held_drew (S:=fun w'=>Below w1.heap.size w1 w') (by kernel_rfl) ((Below.refl _ _).drew) (fun hHeld=>?_)
  refine rt 0 5 hHeld ?_
  refine rt 1 6 hHeld ?_
  refine rt 4 9 hHeld ?_
  refine rt 5 10 hHeld ?_
  refine rt 6 11 hHeld ?_
  refine rt 7 12 hHeld ?_
  refine rt 8 13 hHeld ?_
  refine rt 9 14 hHeld ?_
  refine rc1 2 fun K hK=>?_
  go_simp
  refine (hnum.out _).mono ?_;rintro e w2 ⟨rfl,hb2⟩;have hq2:=hHeld.trans (hb2.mono hHeld.size)
  try go_wp2_with fail
  refine hK.out _ _ (hq2) (fun hHeld=>?_)
  clear hK K
  refine rt 3 8 hHeld ?_
  refine rc1 10 fun K hK=>?_
  refine b0q (some 15) rfl (by rfl) (.slice (some ⟨w2.heap.size,0,none⟩) 3 3) (.cells (([(4,varL party),(5,id),(6,vault)]:List Fd).flatMap fdV).toArray 180) (by go_simp;try rfl) ?_;intro w3 hw3 hb3;have hsl:Sl w3 (some ⟨w2.heap.size,0,none⟩) (3*2) (([(4,varL party),(5,id),(6,vault)]:List Fd).flatMap fdV):=(by rw[hw3];exact⟨Rd.block (Go.heap_alloc_new w2 _),f1F _,fun h=>by cases h⟩);have hq3:=hHeld.trans (hb3.mono hHeld.size);clear hw3
  refine rk hK (hq3) fun hHeld=>?_
  clear hK K
  refine rt 11 2 hHeld ?_
  refine wpAnyH_done (by kernel_rfl) ?_ _
  refine NoPanic.normal ?_
  go_wp2
  go_ret
  exact⟨_,3,rfl,hsl,hb1.trans (hq3.mono hb1.size)⟩
theorem f0C (A:Option Addr) (b o n c k:Nat) (hA:A=some ⟨b,o,none⟩) (hk:k < n) (w:World) :
  (Instr.indexAt 27 (.slice A n c) (.int .i64 k)).run prog w=.ok (.pointer (some ⟨b,o+k*5,none⟩)) w:=by
 subst hA
 have h:(k:Int) < (n:Int):=by omega
 go_simp
theorem c0C:(prog.info? 43).map (·.size)=some 5:=by kernel_rfl
theorem a0I:(prog.info? 29).map (·.size)=some 36:=by kernel_rfl
theorem i0p (t:Tok) (A:Option Addr) (c:Nat):(tokV t A c)[0]?=some (.int .u64 t.key)∧(tokV t A c)[1]?=some (.string (bstr t.id))∧(tokV t A c)[2]?=some (.slice A t.cavs.length c)∧(tokV t A c)[3]?=some (.bool t.bound):=⟨rfl,rfl,rfl,rfl⟩
theorem r0q {t:Tok} (h:1024 < t.id.length):d0O t=false:=by
 unfold d0O
 rw[decide_eq_false (by omega),Bool.false_and,Bool.false_and]
theorem l0B {t:Tok} (h:64 < t.cavs.length):d0O t=false:=by
 unfold d0O
 rw[decide_eq_false (p:=t.cavs.length≤64) (by omega),Bool.and_false,Bool.false_and]
theorem l0A {t:Tok} (h:t.id.length≤1024) (h2:t.cavs.length≤64):d0O t=t.cavs.all canC:=by
 unfold d0O
 rw[decide_eq_true h,decide_eq_true h2];rfl
theorem r0n {cs:List Cav} {k:Nat} {c:Cav} (h:(cs.take k).all canC=true) (hc:cs[k]?=some c):(cs.take (k+1)).all canC=canC c:=by
 rw[List.take_add_one,hc,List.all_append,h]
 simp
theorem v0d {cs:List Cav} {k:Nat} {c:Cav} (hc:cs[k]?=some c) (h:canC c=false):cs.all canC=false:=by
 rw[List.all_eq_false]
 exact⟨c,List.mem_of_getElem? hc,by rw[h];exact Bool.false_ne_true⟩
theorem u0b (t:Tok) (A:Option Addr) (c:Nat) (w:World) (hs:Sl w A (c*5) (t.cavs.flatMap cavV)) :
  Calls prog 9 #[.agg (tokV t A c).toArray] w fun e w'=>e=.returned (.bool (d0O t))∧Below w.heap.size w w':=by
 have hb1:Below w.heap.size w (w.alloc (.cells (tokV t A c).toArray 29)):=(Below.refl _ _).alloc (f1F _) _
 have hr:Row (w.alloc (.cells (tokV t A c).toArray 29)) w.heap.size 29 (tokV t A c):=Row.new w 29 _
 have hg:=i0p t A c
 obtain⟨V,hV⟩:∃V,V=tokV t A c:=⟨_,rfl⟩
 rw[←hV] at hb1 hr hg ⊢
 clear hV
 have hc1:(w.alloc (.cells V.toArray 29)).cell? ⟨w.heap.size,1,none⟩=some (.string (bstr t.id)):=by rw[hr.cell];exact hg.2.1
 have hc2:(w.alloc (.cells V.toArray 29)).cell? ⟨w.heap.size,2,none⟩=some (.slice A t.cavs.length c):=by rw[hr.cell];exact hg.2.2.1
 have hz:=a0c t.id
 clear hg hr
 by_cases h1:1024 < t.id.length
 ·have HE:=f1D (r0q h1)
  have h1':(1024:Int) < (t.id.length:Int):=by omega
  clear hs h1
  go_enter func9,ntmps9
  go_wp2
  go_ret
  exact⟨by rw[HE.out];rfl,hb1⟩
 by_cases h2:64 < t.cavs.length
 ·have HE:=f1D (l0B h2)
  have h1':(t.id.length:Int)≤1024:=by omega
  have h2':(64:Int) < (t.cavs.length:Int):=by omega
  clear hs h1 h2
  go_enter func9,ntmps9
  go_wp2
  go_ret
  exact⟨by rw[HE.out];rfl,hb1⟩
 have HE:=f1D (l0A (t:=t) (by omega) (by omega))
 have h1':(t.id.length:Int)≤1024:=by omega
 have h2':(t.cavs.length:Int)≤64:=by omega
 obtain⟨cs,hcs⟩:∃cs,cs=t.cavs:=⟨_,rfl⟩
 rw[←hcs] at hs HE hc2 h2'
 clear h1 h2 hcs
 go_enter func9,ntmps9
 go_wp2_with fail
 generalize w.alloc (.cells V.toArray 29)=w1 at *
 clear hc1 hc2
 go_loopw [18] (fun i wr=>∃k:Nat,k≤cs.length∧i=.int .i64 k∧(cs.take k).all canC=true∧Below w.heap.size w wr) (fun i _=>cs.length - (intOf i).toNat)
 case atStart=>exact⟨0,by omega,rfl,rfl,hb1⟩
 case round =>
  clear hb1
  obtain⟨k,hk,rfl,hall,hb⟩:=hrel
  by_cases hlt:k < cs.length
  ·obtain⟨cv,hcv⟩:∃cv,cs[k]?=some cv:=⟨_,List.getElem?_eq_getElem hlt⟩
   obtain⟨b,o,rfl,hb0,hr0⟩:=hs.rd.get (i:=0) (by rw[b0P];omega)
   clear hb0 hr0
   have hix:=f0C (some ⟨b,o,none⟩) b o cs.length c k rfl hlt
   have hrg:=(hs.later (f1F _) hb).thing (k:=5) (fun _ _=>rfl) k cv hcv
   have HA:=f1D (r0n hall hcv)
   have HB:=f1D (v0d hcv)
   have hcan:=f1D (a1B cv)
   have hzf:=f1D (show (prog.info? 43).map (·.size)=some (cavV cv).length from c0C)
   have hzf2:=f1D (show (prog.info? 43).map (·.size)=some (cavV cv).toArray.size from c0C)
   have hof:=f1D (show (cavV cv).toArray.all (·.oneCell')=true from b0d (fun v hv=>f0Q [cv] v (by simpa using hv)))
   obtain⟨V2,hV2q⟩:∃V,V=cavV cv:=⟨_,rfl⟩
   rw[←hV2q] at hrg hcan hzf hzf2 hof
   have hV2:=f1D (show (5:Nat)=V2.toArray.size by rw[hV2q];rfl)
   clear hV2q hcv hall
   go_wp2_with (first
    | (with_reducible refine wpList_load_mid rfl 43 (.tmp 20) rfl b (o+k*5) rfl V2 _ hrg underlying43 rfl hzf.out ?_)
    | (with_reducible refine wpList_store_row rfl 43 (.tmp 4) (.tmp 21) rfl wr.heap.size V2.toArray rfl rfl 43 _ (heap_alloc_new wr _) hzf2.out (Eq.trans (by kernel_rfl) hV2.out) hof.out ?_;refine Hid.out ?_))
   refine f1D ?_
   generalize hw5:World.setRow _ _ _=w5
   obtain⟨r5,hb5⟩:=a0v (xs:=V2) hw5
   have R5:=f1D (show w5.heap[wr.heap.size]?=some (.cells V2.toArray 43 (0,0)) from r5)
   have hbw5:=hb.trans (hb5.mono hb.size)
   clear hw5 r5 hb5
   cases hcan2:canC cv with
   | false =>
    rw[hcan2] at hcan
    have HF:=f1D (HB.out hcan2)
    clear hcan2
    go_wp2_with (first
     | (with_reducible refine wpList_load_row rfl 43 (.tmp 4) rfl wr.heap.size rfl 43 V2.toArray (0,0) _ R5.out underlying43 rfl hzf2.out ?_)
     | (go_at_call 18;refine (hcan.out _).mono ?_;rintro e w6 ⟨rfl,hb6⟩;have hbw6:=hbw5.trans (hb6.mono hbw5.size)))
    go_ret
    exact⟨by rw[HE.out,HF.out];rfl,hbw6⟩
   | true =>
    rw[hcan2] at hcan HA
    clear hcan2
    go_wp2_with (first
     | (with_reducible refine wpList_load_row rfl 43 (.tmp 4) rfl wr.heap.size rfl 43 V2.toArray (0,0) _ R5.out underlying43 rfl hzf2.out ?_)
     | (go_at_call 18;refine (hcan.out _).mono ?_;rintro e w6 ⟨rfl,hb6⟩;have hbw6:=hbw5.trans (hb6.mono hbw5.size)))
    go_roundw
    case rel=>exact⟨k+1,by omega,by go_num,HA.out,hbw6⟩
    case measure=>simp[intOf];omega
  ·obtain rfl:k=cs.length:=by omega
   rw[List.take_length] at hall
   have HL:=f1D hall
   clear hlt hk hs hall h2'
   generalize cs.length=n at *
   go_wp2
   go_ret
   exact⟨by rw[HE.out,HL.out];rfl,hb⟩
def capC (c:Cav):Nat:=c.text.length+c.id.length+c.vault.length+1
def capT (t:Tok):Nat:=t.id.length+(t.cavs.map capC).sum
structure Tok.Fit (t:Tok):Prop where
 id:t.id.length≤140737488351232
 many:t.cavs.length≤9223372036854775807
 cav:∀c∈t.cavs,c.text.length≤140737488351232∧c.id.length≤140737488351232∧c.vault.length≤140737488351232
theorem m0x:∀cs:List Cav,cs.length≤(cs.map capC).sum
 | []=>f1F _
 | c :: cs=>by
  have:=m0x cs
  have h:1≤capC c:=by unfold capC;omega
  rw[List.map_cons,List.sum_cons,List.length_cons];omega
end Go.Proofs.YtcbilopdeiapjaaGreatDoor
