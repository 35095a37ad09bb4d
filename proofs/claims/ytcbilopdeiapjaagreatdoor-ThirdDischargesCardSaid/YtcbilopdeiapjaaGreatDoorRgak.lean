import Derived.Test.YtcbilopdeiapjaaGreatDoorRgaj
import Derived.Great.BuildSlice
set_option maxHeartbeats 16000000
set_option maxRecDepth 100000
open Go.Proofs.Tryz
namespace Go.Proofs.YtcbilopdeiapjaaGreatDoor
open Go Go.RowKit
theorem z0b (x:UInt8) (m:Nat):((x.toNat:Int)/2^(7 - m)).tmod 2=((bitB x m:Nat):Int):=by
 have e:(x.toNat:Int)/2^(7 - m)=((x.toNat/2^(7 - m):Nat):Int):=by push_cast;rfl
 rw[e]
 unfold bitB
 generalize x.toNat/2^(7 - m)=k
 rw[Int.tmod_eq_emod_of_nonneg (by omega)]
 omega
theorem t0Z (a:Adr) (h:a.Ok) (i:Nat) (hi:i < 128) (w:World) :
  Calls prog 166 #[.agg (adrV a).toArray,.int .i64 i] w fun e w'=>e=.returned (.int .i64 (bitL a.b i:Nat))∧Below w.heap.size w w':=by
 obtain⟨w1,hw1⟩:∃w1,w1=w.alloc (.cells (adrV a).toArray 67):=⟨_,rfl⟩
 have hr:Row w1 w.heap.size 67 (adrV a):=by rw[hw1];exact Row.new w _ _
 have hb:Below w.heap.size w w1:=by rw[hw1];exact (Below.refl _ w).alloc (f1F _) _
 have hcb:=c0P h hr (i/8) (by omega)
 have HV:=f1D (show bitL a.b i=bitB (a.b.getD (i/8) 0) (i%8) from rfl)
 obtain⟨q,hq⟩:∃q,q=i/8:=⟨_,rfl⟩
 obtain⟨m,hm⟩:∃m,m=i%8:=⟨_,rfl⟩
 rw[←hq] at hcb HV
 rw[←hm] at HV
 have hm8:m < 8:=by omega
 have hq1:IntKind.i64.wrap (q:Int)=(q:Int):=by rw[IntKind.wrap_i64];omega
 have hq2:(i:Int)/8=(q:Int):=by omega
 have hq3:(i:Int)%8=(m:Int):=by omega
 have hq4:(q:Int) < 16:=by omega
 have hx:=(a.b.getD q 0).toNat_lt
 generalize a.b.getD q 0=x at *
 obtain⟨V,hV⟩:∃V,V=adrV a:=⟨_,rfl⟩
 rw[←hV] at hw1 ⊢
 have HQ:=f1D hq
 have HM:=f1D hm
 clear hV hr hq hm
 go_enter func166,ntmps166
 subst hw1
 go_wp2
 go_ret
 exact⟨by rw[HV.out,←z0b];rfl,hb⟩
theorem q0M (a:Adr) (w:World) :
  Calls prog 165 #[.agg (adrV a).toArray] w fun e w'=>e=.returned (.int .i64 (d0L a.v6:Nat))∧Below w.heap.size w w':=by
 obtain⟨w1,hw1⟩:∃w1,w1=w.alloc (.cells (adrV a).toArray 67):=⟨_,rfl⟩
 have hr:Row w1 w.heap.size 67 (adrV a):=by rw[hw1];exact Row.new w _ _
 have hb:Below w.heap.size w w1:=by rw[hw1];exact (Below.refl _ w).alloc (f1F _) _
 have hc6:=j0R hr
 obtain⟨V,hV⟩:∃V,V=adrV a:=⟨_,rfl⟩
 rw[←hV] at hw1 ⊢
 clear hV hr
 cases h6:a.v6 with
 | true =>
  rw[h6] at hc6
  go_enter func165,ntmps165
  subst hw1
  go_wp2
  go_ret
  exact⟨rfl,hb⟩
 | false =>
  rw[h6] at hc6
  go_enter func165,ntmps165
  subst hw1
  go_wp2
  go_ret
  exact⟨rfl,hb⟩
theorem c0n:(prog.info? 69).map (·.size)=some 18:=by kernel_rfl
theorem d0a {w:World} {g:Nat} {t:TypeId} {V U:List Value} (h:Row w g t (V++U)):w.rangeAt g 0 V:=by
 have:=b0R (A:=[]) (C:=U) (show Row w g t ([]++(V++U)) from h)
 exact this
theorem q0O {w:World} {g:Nat} {t:TypeId} {V:List Value} {n:Int} (hl:V.length=17) (h:Row w g t (V++[Value.int .i64 n])):w.cell? ⟨g,17,none⟩=some (.int .i64 n):=by
 rw[h.cell,List.getElem?_append_right (by omega),hl];rfl
theorem s0O (r:Rng) (h:r.a.Ok) (i:Nat) (h1:r.n.toNat≤i) (h2:i < d0L r.a.v6) (hb:bitL r.a.b i=1):c0k r=false:=by
 cases hc:c0k r with
 | false=>rfl
 | true=>have:=((l0z r h).1 hc).2 i h1 h2;omega
theorem q0b (r:Rng) (h:c0k r=true):b0h r.a=true∧0≤r.n∧r.n≤d0L r.a.v6:=by
 unfold c0k at h
 exact ((m0I r r.a).1 h).1
theorem q0H (r:Rng) (h:r.Ok) (w:World) :
  Calls prog 117 #[.agg (rngV r).toArray] w fun e w'=>e=.returned (.bool (c0k r))∧Below w.heap.size w w':=by
 obtain⟨a,n⟩:=r
 obtain⟨ha,hlo,hhi⟩:=h
 have ha:a.Ok:=ha
 have hlo:-9223372036854775808≤n:=hlo
 have hhi:n≤9223372036854775807:=hhi
 have HI:=f1D (l0z ⟨a,n⟩ ha)
 have HL:=f1D (q0b ⟨a,n⟩)
 have HB:=f1D (s0O ⟨a,n⟩ ha)
 have hck:=f1D (fun w'=>f0Z a ha w')
 have hms:=f1D (fun w'=>q0M a w')
 have hbt:=f1D (fun i hi w'=>t0Z a ha i hi w')
 have hm:=j0x a.v6
 rw[show rngV ⟨a,n⟩=adrV a++[Value.int .i64 n] from rfl]
 obtain⟨V,hV⟩:∃V,V=adrV a:=⟨_,rfl⟩
 have hVl:=f1D (show V.length=17 by rw[hV];exact a0m ha)
 have hzV:=f1D (show (prog.info? 67).map (·.size)=some V.length by rw[hVl.out];exact b0b)
 rw[←hV] at hck hms hbt ⊢
 clear hV
 have r1:Row (w.alloc (.cells (V++[Value.int .i64 n]).toArray 69)) w.heap.size 69 (V++[Value.int .i64 n]):=Row.new w _ _
 have hb1:Below w.heap.size w (w.alloc (.cells (V++[Value.int .i64 n]).toArray 69)):=(Below.refl _ w).alloc (f1F _) _
 obtain⟨X,hX⟩:∃X,X=V++[Value.int .i64 n]:=⟨_,rfl⟩
 rw[←hX] at r1 hb1 ⊢
 have HX:=f1D hX
 obtain⟨w1,hw1⟩:∃w1,w1=w.alloc (.cells X.toArray 69):=⟨_,rfl⟩
 rw[←hw1] at r1 hb1
 rw[HX.out] at r1
 clear hX
 by_cases hc:b0h a=true
 case neg =>
  have HC:=f1D (show c0k ⟨a,n⟩=false by
   cases hh:c0k ⟨a,n⟩ with
   | false=>rfl
   | true=>exact absurd (HL.out hh).1 hc)
  have hc:b0h a=false:=by simpa using hc
  rw[hc] at hck
  go_enter func117,ntmps117
  go_wp2
  rw[←hw1]
  clear hw1 HI HL HB
  refine wp_region_noPanic ?_
  refine wp_region_held_drew (S:=fun w'=>Below w1.heap.size w1 w') (by kernel_rfl) ((Below.refl _ _).drew) (fun hHeld=>?_)
  have hB:=hHeld
  refine rt 0 4 hHeld ?_
  refine rt 1 5 hHeld ?_ (hy:=by intro w hS;exact a0s 67 (.tmp 4) rfl _ 0 rfl V _ (d0a (r1.later hS r1.lt)) underlying67 rfl hzV.out)
  refine rc1 2 fun K hK=>?_
  go_simp
  refine (hck.out _).mono ?_;rintro e ww12 ⟨rfl,hqw12⟩
  try go_wp2_with fail
  refine hK.out _ _ (hHeld.trans (hqw12.mono hHeld.size)) (fun hHeld'=>?_)
  clear hK K
  have hB:=a0a hB hqw12
  have hB2:Below ww12.heap.size ww12 ww12:=Below.refl _ _
  refine a0f (S':=fun w'=>Below ww12.heap.size ww12 w') (fun _ h=>(hHeld.trans (hqw12.mono hHeld.size)).trans (h.mono (hHeld.trans (hqw12.mono hHeld.size)).size)) _ _ _ _ ?_
  clear hHeld
  have hHeld:Below ww12.heap.size ww12 ww12:=Below.refl _ _
  refine rt 3 7 hHeld ?_
  refine rt 4 8 hHeld ?_
  refine rsk 5 9 hHeld ?_
  refine rsk 6 10 hHeld ?_
  refine rsk 7 11 hHeld ?_
  refine rt 8 12 hHeld ?_
  refine rt 9 13 hHeld ?_
  refine rsk 10 14 hHeld ?_
  refine rsk 11 15 hHeld ?_
  refine rsk 12 16 hHeld ?_
  refine rsk 13 17 hHeld ?_
  refine rsk 14 18 hHeld ?_
  refine rsk 15 19 hHeld ?_
  refine rt 16 20 hHeld ?_
  refine wpAnyH_done (by kernel_rfl) ?_ _
  refine NoPanic.normal ?_
  have hBe:=hb1.trans (hB.mono hb1.size)
  clear hHeld
  go_wp2
  go_ret
  exact⟨by rw[HC.out];rfl,hBe⟩
 case pos =>
  rw[hc] at hck
  by_cases h0:n < 0
  ·have HC:=f1D (show c0k ⟨a,n⟩=false by
    cases hh:c0k ⟨a,n⟩ with
    | false=>rfl
    | true=>have:0≤n:=(HL.out hh).2.1;exact absurd h0 (by omega))
   go_enter func117,ntmps117
   go_wp2
   rw[←hw1]
   clear hw1 HI HL HB hc
   refine wp_region_noPanic ?_
   refine wp_region_held_drew (S:=fun w'=>Below w1.heap.size w1 w') (by kernel_rfl) ((Below.refl _ _).drew) (fun hHeld=>?_)
   have hB:=hHeld
   refine rt 0 4 hHeld ?_
   refine rt 1 5 hHeld ?_ (hy:=by intro w hS;exact a0s 67 (.tmp 4) rfl _ 0 rfl V _ (d0a (r1.later hS r1.lt)) underlying67 rfl hzV.out)
   refine rc1 2 fun K hK=>?_
   go_simp
   refine (hck.out _).mono ?_;rintro e ww12 ⟨rfl,hqw12⟩
   try go_wp2_with fail
   refine hK.out _ _ (hHeld.trans (hqw12.mono hHeld.size)) (fun hHeld'=>?_)
   clear hK K
   have hB:=a0a hB hqw12
   have hB2:Below ww12.heap.size ww12 ww12:=Below.refl _ _
   refine a0f (S':=fun w'=>Below ww12.heap.size ww12 w') (fun _ h=>(hHeld.trans (hqw12.mono hHeld.size)).trans (h.mono (hHeld.trans (hqw12.mono hHeld.size)).size)) _ _ _ _ ?_
   clear hHeld
   have hHeld:Below ww12.heap.size ww12 ww12:=Below.refl _ _
   refine rt 3 7 hHeld ?_
   refine rt 4 8 hHeld ?_
   refine rt 5 9 hHeld ?_
   refine rt 6 10 hHeld ?_ (hy:=by intro w hS;have hn:=q0O hVl.out (r1.later (hB.trans (hS.mono hB.size)) r1.lt);go_simp;try with_reducible rfl)
   refine rt 7 11 hHeld ?_
   refine rt 8 12 hHeld ?_
   refine rt 9 13 hHeld ?_
   refine rsk 10 14 hHeld ?_
   refine rsk 11 15 hHeld ?_
   refine rsk 12 16 hHeld ?_
   refine rsk 13 17 hHeld ?_
   refine rsk 14 18 hHeld ?_
   refine rsk 15 19 hHeld ?_
   refine rt 16 20 hHeld ?_
   refine wpAnyH_done (by kernel_rfl) ?_ _
   refine NoPanic.normal ?_
   have hBe:=hb1.trans (hB.mono hb1.size)
   clear hHeld
   go_wp2
   go_ret
   exact⟨by rw[HC.out];rfl,hBe⟩
  ·have h0':0≤n:=by omega
   by_cases hM:(d0L a.v6:Int) < n
   ·have HC:=f1D (show c0k ⟨a,n⟩=false by
     cases hh:c0k ⟨a,n⟩ with
     | false=>rfl
     | true=>have:n≤(d0L a.v6:Int):=(HL.out hh).2.2;exact absurd hM (by omega))
    generalize d0L a.v6=m at *
    go_enter func117,ntmps117
    go_wp2
    rw[←hw1]
    have hd0:decide (n < 0)=false:=decide_eq_false (by omega)
    have hdM:decide ((m:Int) < n)=true:=decide_eq_true hM
    clear hw1 HI HL HB hc h0 h0' hM
    refine wp_region_noPanic ?_
    refine wp_region_held_drew (S:=fun w'=>Below w1.heap.size w1 w') (by kernel_rfl) ((Below.refl _ _).drew) (fun hHeld=>?_)
    have hB:=hHeld
    refine rt 0 4 hHeld ?_
    refine rt 1 5 hHeld ?_ (hy:=by intro w hS;exact a0s 67 (.tmp 4) rfl _ 0 rfl V _ (d0a (r1.later hS r1.lt)) underlying67 rfl hzV.out)
    refine rc1 2 fun K hK=>?_
    go_simp
    refine (hck.out _).mono ?_;rintro e ww12 ⟨rfl,hqw12⟩
    try go_wp2_with fail
    refine hK.out _ _ (hHeld.trans (hqw12.mono hHeld.size)) (fun hHeld'=>?_)
    clear hK K
    have hB:=a0a hB hqw12
    have hB2:Below ww12.heap.size ww12 ww12:=Below.refl _ _
    refine a0f (S':=fun w'=>Below ww12.heap.size ww12 w') (fun _ h=>(hHeld.trans (hqw12.mono hHeld.size)).trans (h.mono (hHeld.trans (hqw12.mono hHeld.size)).size)) _ _ _ _ ?_
    clear hHeld
    have hHeld:Below ww12.heap.size ww12 ww12:=Below.refl _ _
    refine rt 3 7 hHeld ?_
    refine rt 4 8 hHeld ?_
    refine rt 5 9 hHeld ?_
    refine rt 6 10 hHeld ?_ (hy:=by intro w hS;have hn:=q0O hVl.out (r1.later (hB.trans (hS.mono hB.size)) r1.lt);go_simp;try with_reducible rfl)
    refine rt 7 11 hHeld ?_
    refine rt 8 12 hHeld ?_
    refine rt 9 13 hHeld ?_
    refine rt 10 14 hHeld ?_
    refine rt 11 15 hHeld ?_ (hy:=by intro w hS;have hn:=q0O hVl.out (r1.later (hB.trans (hS.mono hB.size)) r1.lt);go_simp;try with_reducible rfl)
    refine rt 12 16 hHeld ?_
    refine rt 13 17 hHeld ?_ (hy:=by intro w hS;exact a0s 67 (.tmp 16) rfl _ 0 rfl V _ (d0a (r1.later (hB.trans (hS.mono hB.size)) r1.lt)) underlying67 rfl hzV.out)
    refine rc1 14 fun K hK=>?_
    go_simp
    refine (hms.out _).mono ?_;rintro e ww114 ⟨rfl,hqw114⟩
    try go_wp2_with fail
    refine hK.out _ _ (hHeld.trans (hqw114.mono hHeld.size)) (fun hHeld'=>?_)
    clear hK K
    have hB:=a0a hB hqw114
    have hB2:=a0a hB2 hqw114
    have hB14:Below ww114.heap.size ww114 ww114:=Below.refl _ _
    refine a0f (S':=fun w'=>Below ww114.heap.size ww114 w') (fun _ h=>(hHeld.trans (hqw114.mono hHeld.size)).trans (h.mono (hHeld.trans (hqw114.mono hHeld.size)).size)) _ _ _ _ ?_
    clear hHeld
    have hHeld:Below ww114.heap.size ww114 ww114:=Below.refl _ _
    refine rt 15 19 hHeld ?_
    refine rt 16 20 hHeld ?_
    refine wpAnyH_done (by kernel_rfl) ?_ _
    refine NoPanic.normal ?_
    have hBe:=hb1.trans (hB.mono hb1.size)
    clear hHeld
    go_wp2
    go_ret
    exact⟨by rw[HC.out];rfl,hBe⟩
   ·have hM':n≤(d0L a.v6:Int):=by omega
    have HI:=f1D (show (∀i,n.toNat≤i→i < d0L a.v6→bitL a.b i=0)→c0k ⟨a,n⟩=true from fun hz=>HI.out.2 ⟨⟨hc,h0',hM'⟩,hz⟩)
    have HB:=f1D (show ∀i,n.toNat≤i→i < d0L a.v6→bitL a.b i=1→c0k ⟨a,n⟩=false from HB.out)
    obtain⟨m,hmm⟩:∃m,m=d0L a.v6:=⟨_,rfl⟩
    rw[←hmm] at hms hm hM hM' HI HB
    clear hmm
    go_enter func117,ntmps117
    go_wp2
    rw[←hw1]
    have hd0:decide (n < 0)=false:=decide_eq_false (by omega)
    have hdM:decide ((m:Int) < n)=false:=decide_eq_false (by omega)
    clear hw1 HL hc h0 hM
    refine wp_region_noPanic ?_
    refine wp_region_held_drew (S:=fun w'=>Below w1.heap.size w1 w') (by kernel_rfl) ((Below.refl _ _).drew) (fun hHeld=>?_)
    have hB:=hHeld
    refine rt 0 4 hHeld ?_
    refine rt 1 5 hHeld ?_ (hy:=by intro w hS;exact a0s 67 (.tmp 4) rfl _ 0 rfl V _ (d0a (r1.later hS r1.lt)) underlying67 rfl hzV.out)
    refine rc1 2 fun K hK=>?_
    go_simp
    refine (hck.out _).mono ?_;rintro e ww12 ⟨rfl,hqw12⟩
    try go_wp2_with fail
    refine hK.out _ _ (hHeld.trans (hqw12.mono hHeld.size)) (fun hHeld'=>?_)
    clear hK K
    have hB:=a0a hB hqw12
    have hB2:Below ww12.heap.size ww12 ww12:=Below.refl _ _
    refine a0f (S':=fun w'=>Below ww12.heap.size ww12 w') (fun _ h=>(hHeld.trans (hqw12.mono hHeld.size)).trans (h.mono (hHeld.trans (hqw12.mono hHeld.size)).size)) _ _ _ _ ?_
    clear hHeld
    have hHeld:Below ww12.heap.size ww12 ww12:=Below.refl _ _
    refine rt 3 7 hHeld ?_
    refine rt 4 8 hHeld ?_
    refine rt 5 9 hHeld ?_
    refine rt 6 10 hHeld ?_ (hy:=by intro w hS;have hn:=q0O hVl.out (r1.later (hB.trans (hS.mono hB.size)) r1.lt);go_simp;try with_reducible rfl)
    refine rt 7 11 hHeld ?_
    refine rt 8 12 hHeld ?_
    refine rt 9 13 hHeld ?_
    refine rt 10 14 hHeld ?_
    refine rt 11 15 hHeld ?_ (hy:=by intro w hS;have hn:=q0O hVl.out (r1.later (hB.trans (hS.mono hB.size)) r1.lt);go_simp;try with_reducible rfl)
    refine rt 12 16 hHeld ?_
    refine rt 13 17 hHeld ?_ (hy:=by intro w hS;exact a0s 67 (.tmp 16) rfl _ 0 rfl V _ (d0a (r1.later (hB.trans (hS.mono hB.size)) r1.lt)) underlying67 rfl hzV.out)
    refine rc1 14 fun K hK=>?_
    go_simp
    refine (hms.out _).mono ?_;rintro e ww114 ⟨rfl,hqw114⟩
    try go_wp2_with fail
    refine hK.out _ _ (hHeld.trans (hqw114.mono hHeld.size)) (fun hHeld'=>?_)
    clear hK K
    have hB:=a0a hB hqw114
    have hB2:=a0a hB2 hqw114
    have hB14:Below ww114.heap.size ww114 ww114:=Below.refl _ _
    refine a0f (S':=fun w'=>Below ww114.heap.size ww114 w') (fun _ h=>(hHeld.trans (hqw114.mono hHeld.size)).trans (h.mono (hHeld.trans (hqw114.mono hHeld.size)).size)) _ _ _ _ ?_
    clear hHeld
    have hHeld:Below ww114.heap.size ww114 ww114:=Below.refl _ _
    refine rt 15 19 hHeld ?_
    refine rt 16 20 hHeld ?_
    refine wpAnyH_done (by kernel_rfl) ?_ _
    refine NoPanic.normal ?_
    obtain⟨w2,rfl⟩:∃x:World,x=ww114:=⟨_,rfl⟩
    have hb2:=hb1.trans (hB.mono hb1.size)
    have r2:=r1.later hB r1.lt
    clear hHeld hB hB2 hB14 r1 hck hd0 hdM
    have hn:=q0O hVl.out r2
    go_wp2
    clear hn
    go_loopw [3] (fun i wr=>∃k:Nat,n.toNat≤k∧k≤m∧i=.int .i64 k∧Row wr w.heap.size 69 (V++[Value.int .i64 n])∧Below w.heap.size w wr∧∀j,n.toNat≤j→j < k→bitL a.b j=0) (fun i _=>m - (intOf i).toNat)
    case atStart=>exact⟨n.toNat,f1F _,by omega,by rw[Int.toNat_of_nonneg h0'],r2,hb2,fun j h1 h2=>by omega⟩
    case round =>
     clear r2 hb2
     obtain⟨k,hk0,hkm,rfl,r2,hb2,hz⟩:=hrel
     by_cases hlt:k < m
     ·have hlt':(k:Int) < (m:Int):=by omega
      have hbt:=f1D (fun w'=>hbt.out k (by omega) w')
      have h2:=b1z a.b k
      have HZ:=f1D hz
      by_cases hbk:bitL a.b k=1
      ·have HC:=f1D (HB.out k hk0 hlt hbk)
       rw[hbk] at hbt
       clear hz hbk h2 HI HB
       go_wp2_with (first
        | (with_reducible refine wpList_load_mid rfl 67 (.tmp 24) rfl w.heap.size 0 rfl V _ (d0a r2) underlying67 rfl hzV.out ?_)
        | (go_at_call 165;refine (hms.out _).mono ?_;rintro e w3 ⟨rfl,hb3⟩;have r3:=r2.later hb3 r2.lt;have hb3:=hb2.trans (hb3.mono hb2.size))
        | (with_reducible refine wpList_load_mid rfl 67 (.tmp 30) rfl w.heap.size 0 rfl V _ (d0a r3) underlying67 rfl hzV.out ?_)
        | (go_at_call 166;refine (hbt.out _).mono ?_;rintro e w4 ⟨rfl,hb4⟩;have hb4:=hb3.trans (hb4.mono hb3.size)))
       go_ret
       exact⟨by rw[HC.out];rfl,hb4⟩
      ·have hb0:bitL a.b k=0:=by omega
       have HZ:=f1D (show ∀j,n.toNat≤j→j < k+1→bitL a.b j=0 from fun j h1 h2=>by
        by_cases e:j=k
        ·rw[e];exact hb0
        ·exact hz j h1 (by omega))
       rw[hb0] at hbt
       clear hz hbk h2 hb0 HI HB
       go_wp2_with (first
        | (with_reducible refine wpList_load_mid rfl 67 (.tmp 24) rfl w.heap.size 0 rfl V _ (d0a r2) underlying67 rfl hzV.out ?_)
        | (go_at_call 165;refine (hms.out _).mono ?_;rintro e w3 ⟨rfl,hb3⟩;have r3:=r2.later hb3 r2.lt;have hb3:=hb2.trans (hb3.mono hb2.size))
        | (with_reducible refine wpList_load_mid rfl 67 (.tmp 30) rfl w.heap.size 0 rfl V _ (d0a r3) underlying67 rfl hzV.out ?_)
        | (go_at_call 166;refine (hbt.out _).mono ?_;rintro e w4 ⟨rfl,hb4⟩;have r4:=r3.later hb4 r3.lt;have hb4:=hb3.trans (hb4.mono hb3.size)))
       go_roundw
       case rel=>exact⟨k+1,by omega,by omega,by go_num,r4,hb4,HZ.out⟩
       case measure=>simp[intOf];omega
     ·obtain rfl:k=m:=by omega
      have HC:=f1D (HI.out hz)
      clear hz HI HB
      go_wp2_with (first
       | (with_reducible refine wpList_load_mid rfl 67 (.tmp 24) rfl w.heap.size 0 rfl V _ (d0a r2) underlying67 rfl hzV.out ?_)
       | (go_at_call 165;refine (hms.out _).mono ?_;rintro e w3 ⟨rfl,hb3⟩;have hb3:=hb2.trans (hb3.mono hb2.size)))
      go_ret
      exact⟨by rw[HC.out];rfl,hb3⟩
theorem i0k:∀(V:List Value) (k:Nat) (Z:List Value),k+V.length≤Z.length→(V.zipIdx k).foldl (fun (cs:Array Value) x=>cs.setIfInBounds x.2 x.1) Z.toArray=(Z.take k++V++Z.drop (k+V.length)).toArray
 | [],k,Z,_=>by simp
 | v :: V,k,Z,h=>by
  rw[List.length_cons] at h
  rw[List.zipIdx_cons,List.foldl_cons]
  show (V.zipIdx (k+1)).foldl _ (Z.toArray.setIfInBounds k v)=_
  have e:Z.toArray.setIfInBounds k v=(Z.set k v).toArray:=by simp
  rw[e,i0k V (k+1) (Z.set k v) (by rw[List.length_set];omega)]
  congr 1
  rw[List.length_cons,List.take_succ_eq_append_getElem (by rw[List.length_set];omega),List.getElem_set_self,List.take_set_of_le (by omega),List.drop_set_of_lt (by omega),show k+1+V.length=k+(V.length+1) by omega]
  simp
theorem g0r (V:List Value) (n:Int) (h:V.length=17) (w:World):(Instr.build 69 #[(0,.agg V.toArray),(1,.int .i64 n)]).run prog w=.ok (.agg (V++[Value.int .i64 n]).toArray) w:=by
 have hz:=i0k V 0 [Value.bool false,.int .u8 0,.int .u8 0,.int .u8 0,.int .u8 0,.int .u8 0,.int .u8 0,.int .u8 0,.int .u8 0,.int .u8 0,.int .u8 0,.int .u8 0,.int .u8 0,.int .u8 0,.int .u8 0,.int .u8 0,.int .u8 0,.int .i64 0] (by rw[h];decide)
 rw[h] at hz
 have e:([Value.bool false,.int .u8 0,.int .u8 0,.int .u8 0,.int .u8 0,.int .u8 0,.int .u8 0,.int .u8 0,.int .u8 0,.int .u8 0,.int .u8 0,.int .u8 0,.int .u8 0,.int .u8 0,.int .u8 0,.int .u8 0,.int .u8 0,.int .i64 0].take 0++V++[Value.bool false,.int .u8 0,.int .u8 0,.int .u8 0,.int .u8 0,.int .u8 0,.int .u8 0,.int .u8 0,.int .u8 0,.int .u8 0,.int .u8 0,.int .u8 0,.int .u8 0,.int .u8 0,.int .u8 0,.int .u8 0,.int .u8 0,.int .i64 0].drop (0+17))=V++[Value.int .i64 0]:=rfl
 rw[e] at hz
 have hl:(V++[Value.int .i64 0]).toArray.size=18:=by rw[List.size_toArray,List.length_append,h];rfl
 have hs:(V++[Value.int .i64 0]).toArray.setIfInBounds 17 (.int .i64 n)=(V++[Value.int .i64 n]).toArray:=by
  rw[List.setIfInBounds_toArray,List.set_append_right _ _ (by omega),h];rfl
 generalize (V++[Value.int .i64 0]).toArray=B at *
 clear e
 go_simp
theorem b0g {P:Program} {w:World} {ops:Array Oper} {rest:List Oper} {o:Oper} {a:Act} {Q:Exit→Act→World→Prop} (hgd:o.guard=none) (ty:TypeId) (k0 k1:Nat) (x0 x1:Operand) (ho:o.op=.build ty #[(k0,x0),(k1,x1)]) (v0 v1 v:Value) (hx0:a.eval x0=v0) (hx1:a.eval x1=v1)
  (hv:(Instr.build ty #[(k0,v0),(k1,v1)]).run P w=.ok v w) (h:wpList P ops Q rest (a.put o.dst v) w):wpList P ops Q (o :: rest) a w:=by
 refine wpList_plain hgd fun _ hK=>?_
 unfold Oper.wp execOp
 simp only[ho,Sem.run_bind,Sem.run_pure,Result.andThen_ok,List.map_toArray,List.map_cons,List.map_nil,hx0,hx1,hv]
 exact hK _ _ h
def b0L (u:Tok) (n:Int) (w:World) (e:Ending) (w':World):Prop :=
 ∃(A:Option Addr) (c:Nat),e=.returned (.tuple #[.agg (tokV u A c).toArray,.int .i64 n])∧Sl w' A (c*5) (u.cavs.flatMap cavV)∧(∀a,A=some a→w.heap.size≤a.block)∧Below w.heap.size w w'
theorem c0x (w:World):Sl w none (0*5) (b0l.cavs.flatMap cavV):=⟨.inl rfl,f1F _,fun _=>rfl⟩
theorem t0b (V:List Value) (off:Nat):∀(k:Nat) (Z:Array Value),(V.zipIdx k).foldl (fun cs x=>cs.setIfInBounds (off+x.2) x.1) Z=(V.zipIdx (off+k)).foldl (fun cs x=>cs.setIfInBounds x.2 x.1) Z:=by
 induction V with
 | nil=>intro k Z;rfl
 | cons a V ih=>intro k Z;rw[List.zipIdx_cons,List.zipIdx_cons,List.foldl_cons,List.foldl_cons,ih];rfl
theorem s0H (n:Nat) (id:List UInt8) (V:List Value) (h:V.length=32) (w:World) :
  (Instr.build 29 #[(0,.int .u64 (n:Int)),(1,.string (bstr id)),(4,.agg V.toArray)]).run prog w=.ok (.agg ([Value.int .u64 (n:Int),.string (bstr id),.slice none 0 0,.bool false]++V).toArray) w:=by
 have hz:=i0k V 4 [Value.int .u64 (n:Int),.string (bstr id),.slice none 0 0,.bool false,.int .u8 0,.int .u8 0,.int .u8 0,.int .u8 0,.int .u8 0,.int .u8 0,.int .u8 0,.int .u8 0,.int .u8 0,.int .u8 0,.int .u8 0,.int .u8 0,.int .u8 0,.int .u8 0,.int .u8 0,.int .u8 0,.int .u8 0,.int .u8 0,.int .u8 0,.int .u8 0,.int .u8 0,.int .u8 0,.int .u8 0,.int .u8 0,.int .u8 0,.int .u8 0,.int .u8 0,.int .u8 0,.int .u8 0,.int .u8 0,.int .u8 0,.int .u8 0] (by rw[h];exact (by decide:(36:Nat)≤36))
 rw[h] at hz
 have e:([Value.int .u64 (n:Int),.string (bstr id),.slice none 0 0,.bool false,.int .u8 0,.int .u8 0,.int .u8 0,.int .u8 0,.int .u8 0,.int .u8 0,.int .u8 0,.int .u8 0,.int .u8 0,.int .u8 0,.int .u8 0,.int .u8 0,.int .u8 0,.int .u8 0,.int .u8 0,.int .u8 0,.int .u8 0,.int .u8 0,.int .u8 0,.int .u8 0,.int .u8 0,.int .u8 0,.int .u8 0,.int .u8 0,.int .u8 0,.int .u8 0,.int .u8 0,.int .u8 0,.int .u8 0,.int .u8 0,.int .u8 0,.int .u8 0].take 4++V++[Value.int .u64 (n:Int),.string (bstr id),.slice none 0 0,.bool false,.int .u8 0,.int .u8 0,.int .u8 0,.int .u8 0,.int .u8 0,.int .u8 0,.int .u8 0,.int .u8 0,.int .u8 0,.int .u8 0,.int .u8 0,.int .u8 0,.int .u8 0,.int .u8 0,.int .u8 0,.int .u8 0,.int .u8 0,.int .u8 0,.int .u8 0,.int .u8 0,.int .u8 0,.int .u8 0,.int .u8 0,.int .u8 0,.int .u8 0,.int .u8 0,.int .u8 0,.int .u8 0,.int .u8 0,.int .u8 0,.int .u8 0,.int .u8 0].drop (4+32))=[Value.int .u64 (n:Int),.string (bstr id),.slice none 0 0,.bool false]++V:=by
  show ([Value.int .u64 (n:Int),.string (bstr id),.slice none 0 0,.bool false]++V)++[]=_
  rw[List.append_nil]
 rw[e,show (4:Nat)=4+0 from rfl,←t0b] at hz
 clear e
 go_simp
theorem n0t {P:Program} {w:World} {ops:Array Oper} {rest:List Oper} {o:Oper} {a:Act} {Q:Exit→Act→World→Prop} (hgd:o.guard=none) (ty:TypeId) (k0 k1 k2:Nat) (x0 x1 x2:Operand) (ho:o.op=.build ty #[(k0,x0),(k1,x1),(k2,x2)]) (v0 v1 v2 v:Value) (hx0:a.eval x0=v0) (hx1:a.eval x1=v1) (hx2:a.eval x2=v2)
  (hv:(Instr.build ty #[(k0,v0),(k1,v1),(k2,v2)]).run P w=.ok v w) (h:wpList P ops Q rest (a.put o.dst v) w):wpList P ops Q (o :: rest) a w:=by
 refine wpList_plain hgd fun _ hK=>?_
 unfold Oper.wp execOp
 simp only[ho,Sem.run_bind,Sem.run_pure,Result.andThen_ok,List.map_toArray,List.map_cons,List.map_nil,hx0,hx1,hx2,hv]
 exact hK _ _ h
theorem x0C (key:List UInt8) (hk:key.length=32) (n:Nat) (hn:n < 18446744073709551616) (id:List UInt8) (hi:id.length≤100000000) (w:World) :
  Calls prog 16 #[.agg (byts key).toArray,.int .u64 (n:Int),.string (bstr id)] w (b0L (c0R key n id) (b0C id) w):=by
 obtain⟨Z,hZ⟩:∃Z,Z=tokV b0l none 0:=⟨_,rfl⟩
 have hZl:Z.length=36:=by rw[hZ];exact a0n b0Z none 0
 have hZe:=f1D (hZ.trans ztok)
 have hzZ:=f1D (show (prog.info? 29).map (·.size)=some Z.toArray.size by rw[List.size_toArray,hZl];exact a0I)
 have hZ1:=f1D (show Z.toArray.all (·.oneCell')=true by rw[hZ,List.all_toArray,List.all_eq_true];exact a0X _ _ _)
 have HZ:=f1D hZ
 obtain⟨w1,hw1⟩:∃w1,w1=(w.alloc (.cells (byts key).toArray 23)).alloc (.cells Z.toArray 29):=⟨_,rfl⟩
 obtain⟨r1,r2,hb1⟩:=c0V hw1.symm
 have HW:=f1D (hw1.trans (by rw[hZe.out]))
 have hkz:=f1D (show (prog.info? 23).map (·.size)=some (byts key).toArray.size by rw[List.size_toArray,a0U key hk];exact a0t)
 have R1:=f1D (show w1.heap[w.heap.size]?=some (.cells (byts key).toArray 23 (0,0)) from r1)
 have R2:=f1D (show w1.heap[w.heap.size+1]?=some (.cells Z.toArray 29 (0,0)) from r2)
 have tok1:True:=trivial
 clear hw1 hZ r1 r2
 by_cases hb:1024 < id.length
 ·have HE:=f1D (show b0C id=1 by unfold b0C;rw[if_pos hb])
  have HG:=f1D (show c0R key n id=b0l by unfold c0R;rw[if_pos hb])
  have hlen:(1024:Int) < ((bstr id).size:Int):=by simp[bstr,ByteArray.size];omega
  generalize c0R key n id=U at *
  generalize b0C id=er at *
  go_enter func16,ntmps16
  go_wp2_with (first
   | (have _t:=tok1;rw[←HW.out];clear tok1)
   | (have _t:=R2;refine wpList_store_row rfl 29 (.tmp 6) (.tmp 11) rfl (w.heap.size+1) Z.toArray rfl (by rw[hZe.out];rfl) 29 Z.toArray R2.out hzZ.out rfl hZ1.out ?_;refine Hid.out ?_))
  refine f1D ?_
  generalize hw8:World.setRow _ _ _=w8
  obtain⟨r8,hg8⟩:=a0y (show Row w1 (w.heap.size+1) 29 Z from R2.out) hw8
  have hb8:=hb1.grown hg8 hb1.size (fun k h=>by cases h;omega)
  have R8:=f1D (show w8.heap[w.heap.size+1]?=some (.cells Z.toArray 29 (0,0)) from r8)
  clear hw8 r8 R2
  go_wp2_with fail
  exact⟨rfl,_,a0d rfl _ _ (w.heap.size+1) 29 Z.toArray (0,0) _ rfl R8.out underlying29 rfl hzZ.out _ rfl,none,0,by rw[HE.out,HG.out,HZ.out];rfl,by rw[HG.out];exact c0x _,(fun a h=>by cases h),hb8⟩
 ·have HE:=f1D (show b0C id=0 by unfold b0C;rw[if_neg hb])
  have HG:=f1D (show c0R key n id=⟨n,id,[],false,c0D key n id⟩ by unfold c0R;rw[if_neg hb])
  have hlen:¬(1024:Int) < ((bstr id).size:Int):=by simp[bstr,ByteArray.size];omega
  obtain⟨V,hV⟩:∃V,V=tokV ⟨n,id,[],false,c0D key n id⟩ none 0:=⟨_,rfl⟩
  have hVl:V.length=36:=by rw[hV];exact a0n ⟨hn,(fun c h=>by cases h),c0u _ _ _⟩ none 0
  have hzV:=f1D (show (prog.info? 29).map (·.size)=some V.toArray.size by rw[List.size_toArray,hVl];exact a0I)
  have hV1:=f1D (show V.toArray.all (·.oneCell')=true by rw[hV,List.all_toArray,List.all_eq_true];exact a0X _ _ _)
  have hVZ:=f1D (show Z.toArray.size=V.toArray.size by rw[List.size_toArray,List.size_toArray,hVl,hZl])
  have HV:=f1D hV
  have hbld:=fun x=>s0H n id (byts (c0D key n id)) (a0U _ (c0u _ _ _)) x
  rw[show [Value.int .u64 (n:Int),.string (bstr id),.slice none 0 0,.bool false]++byts (c0D key n id)=V from hV.symm] at hbld
  have hst:=p0m key hk n hn id hi
  have Hst:=f1D hst
  have Hbl:=f1D hbld
  clear hst hbld hV
  generalize c0R key n id=U at *
  generalize c0D key n id=st at *
  generalize b0C id=er at *
  have tok2:True:=trivial
  go_enter func16,ntmps16
  go_wp2_with (first
   | (have _t:=tok1;rw[←HW.out];clear tok1)
   | (with_reducible refine wpList_load_row rfl 23 (.tmp 3) rfl w.heap.size rfl 23 (byts key).toArray (0,0) _ R1.out underlying23 rfl hkz.out ?_)
   | (have _t:=tok2;refine (Hst.out _).mono ?_;rintro e w2 ⟨rfl,hb2⟩;have R2:=f1D (show w2.heap[w.heap.size+1]?=some (.cells Z.toArray 29 (0,0)) from Row.later (show Row w1 (w.heap.size+1) 29 Z from R2.out) hb2 (Row.lt (show Row w1 (w.heap.size+1) 29 Z from R2.out)));have hb2:=hb1.trans (hb2.mono hb1.size);clear tok2)
   | (have _t:=hb2;refine n0t rfl 29 0 1 4 (.tmp 12) (.tmp 13) (.tmp 17) rfl (.int .u64 (n:Int)) (.string (bstr id)) (.agg (byts st).toArray) (.agg V.toArray) rfl rfl rfl (Hbl.out _) ?_)
   | (have _t:=hb2;refine wpList_store_row rfl 29 (.tmp 6) (.tmp 18) rfl (w.heap.size+1) V.toArray rfl rfl 29 Z.toArray R2.out hzV.out hVZ.out hV1.out ?_;refine Hid.out ?_))
  refine f1D ?_
  generalize hw8:World.setRow _ _ _=w8
  obtain⟨r8,hg8⟩:=a0y (show Row w2 (w.heap.size+1) 29 Z from R2.out) hw8
  have hb8:=hb2.grown hg8 hb2.size (fun k h=>by cases h;omega)
  have R8:=f1D (show w8.heap[w.heap.size+1]?=some (.cells V.toArray 29 (0,0)) from r8)
  clear hw8 r8 R2
  go_wp2_with fail
  exact⟨rfl,_,a0d rfl _ _ (w.heap.size+1) 29 V.toArray (0,0) _ rfl R8.out underlying29 rfl hzV.out _ rfl,none,0,by rw[HE.out,HG.out,HV.out];rfl,by rw[HG.out];exact⟨.inl rfl,f1F _,fun _=>rfl⟩,(fun a h=>by cases h),hb8⟩
theorem f0y {P:Program} {w w':World} {ops:Array Oper} {rest:List Oper} {o:Oper} {a:Act} {Q:Exit→Act→World→Prop} (hgd:o.guard=none) (ty:TypeId) (n:Nat) (parts:List (Nat×Operand)) (ho:o.op=.buildSlice ty n parts.toArray) (vals:List (Nat×Value)) (hx:parts.map (fun p=>(p.1,a.eval p.2))=vals) (v:Value)
  (hv:(Instr.buildSlice ty n vals.toArray).run P w=.ok v w') (h:wpList P ops Q rest (a.put o.dst v) w'):wpList P ops Q (o :: rest) a w:=by
 refine wpList_plain hgd fun _ hK=>?_
 subst hx
 unfold Oper.wp execOp
 simp only[ho,Sem.run_bind,Sem.run_pure,Result.andThen_ok,List.map_toArray,hv]
 exact hK _ _ h
theorem m0d (X:List Value) (h:X.length=32) (w:World):(Instr.buildSlice 62 1 #[(0,.agg X.toArray)]).run prog w=.ok (.slice (some ⟨w.heap.size,0,none⟩) 1 1) (w.alloc (.cells X.toArray 23)):=by
 obtain⟨ie,hie,hsz⟩:∃ie,prog.info? 23=some ie∧ie.size=32:=by
  have:=a0t
  cases hi:prog.info? 23 with
  | none=>rw[hi] at this;cases this
  | some ie=>rw[hi] at this;exact⟨ie,rfl,Option.some.inj this⟩
 obtain⟨z,hz⟩:∃z,ie.zero=some z:=by
  have:(prog.info? 23).map (·.zero.isSome)=some true:=by kernel_rfl
  rw[hie] at this
  exact Option.isSome_iff_exists.1 (Option.some.inj this)
 obtain⟨r,h1,h2,h3⟩:=Great.fill_dense (s:=32) (by omega) [.agg X.toArray] 0 ((Array.range (1*ie.size)).map (z.cells[· % z.cells.size]!))
  (by intro v hv;rw[List.mem_singleton.1 hv];show X.toArray.size=32;rw[List.size_toArray,h])
  (by rw[Array.size_map,Array.size_range,hsz];exact f1F _)
 rw[Array.size_map,Array.size_range,hsz] at h2
 have hr:r=X.toArray:=by
  apply Array.ext_getElem?
  intro k
  rw[h3 k]
  by_cases hk:k < 32
  ·rw[if_pos (by simp only[List.length_cons,List.length_nil];omega),show k/32 - 0=0 by omega,show k%32=k by omega]
   rfl
  ·have e2:X.toArray[k]?=none:=Array.getElem?_eq_none (by rw[List.size_toArray,h];omega)
   rw[if_neg (by simp only[List.length_cons,List.length_nil];omega),e2]
   exact Array.getElem?_eq_none (by rw[Array.size_map,Array.size_range,hsz];omega)
 subst hr
 rw[run_buildSlice w _ 23 1 _ X.toArray ie z underlying62 hie hz (by rw[hsz];decide) (by rw[hsz];decide) (by rw[hsz];exact hsz ▸ h1)]
theorem t0m:∃i,prog.info? 23=some i∧i.zero=some (.agg (byts (List.replicate 32 0)).toArray)∧i.size=32∧i.bytes=32:=by
 have h:(prog.info? 23).map (fun i=>(i.zero,i.size,i.bytes))=some (some (.agg (byts (List.replicate 32 0)).toArray),32,32):=by kernel_rfl
 cases hq:prog.info? 23 with
 | none=>rw[hq] at h;cases h
 | some i =>
  rw[hq] at h
  simp only[Option.map_some,Option.some.injEq,Prod.mk.injEq] at h
  exact⟨i,rfl,h.1,h.2.1,h.2.2⟩
def l0d (l:List (List UInt8)):List Value:=l.flatMap byts
theorem y0n (l m:List (List UInt8)):l0d (l++m)=l0d l++l0d m:=List.flatMap_append
theorem p0C (x:List UInt8):l0d [x]=byts x:=by unfold l0d;rw[List.flatMap_cons,List.flatMap_nil,List.append_nil]
theorem p0T (x:List UInt8):(byts x).toArray.all (·.oneCell')=true:=by rw[List.all_toArray,List.all_eq_true];exact a0o x
end Go.Proofs.YtcbilopdeiapjaaGreatDoor
