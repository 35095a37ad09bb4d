import Derived.Test.YtcbilopdeiapjaaGreatDoorRgae
set_option maxHeartbeats 16000000
set_option maxRecDepth 100000
open Go.Proofs.Tryz
namespace Go.Proofs.YtcbilopdeiapjaaGreatDoor
open Go Go.RowKit
theorem s0w (x:UInt8) (k:List UInt8) (j:Nat) (h:j < k.length):xorL x (k.take (j+1))=xorL x (k.take j)++[k.getD j 0 ^^^ x]:=by
 have e:k.take (j+1)=k.take j++[k[j]]:=by rw[List.take_add_one];simp[h]
 have g:k.getD j 0=k[j]:=by simp[h]
 rw[e,g]
 unfold xorL
 rw[List.map_append]
 rfl
theorem b1i {s k:List UInt8} {j:Nat} (hs:s=g0j k) (h:j < s.length):(keyL k).getD j 0=s.getD j 0:=by
 unfold keyL
 rw[←hs,List.getD_eq_getElem?_getD,List.getElem?_append_left h,List.getD_eq_getElem?_getD]
theorem w0A {s k:List UInt8} {j:Nat} (hs:s=g0j k) (h:s.length≤j):(keyL k).getD j 0=0:=by
 unfold keyL
 rw[←hs,List.getD_eq_getElem?_getD,List.getElem?_append_right h,List.getElem?_replicate]
 split<;>rfl
theorem k0P (A:Option Addr) (n c:Nat) (k:List UInt8) (x:UInt8) (w:World) (hs:Sl w A c (byts k)) (hn:n=k.length) (hm:k.length≤35184372088832) :
  Calls prog 112 #[.slice A n c,.int .u8 (x.toNat:Int)] w (a0H (xorL x (keyL k)) w):=by
 subst hn
 obtain⟨i0,hi,hz0,hz1,hz2⟩:=info_parts infoByte
 have HKL:=f1D (c0J k)
 by_cases h64:k.length≤64
 ·have HS:=f1D (show k=g0j k by unfold g0j;rw[if_pos h64])
  have hb1:=Below.refl w.heap.size w
  go_enter func112,ntmps112
  go_wp2
  have hown0:(w.alloc (.cells #[] 5)).ownsRow w.heap.size 5 1 (.slice (some ⟨w.heap.size,0,none⟩) 0 0) 0 []:=World.ownsRow_lit w #[] 0 (f1F _) (by unfold maxLen;omega) rfl
  have hb0:=(Below.refl w.heap.size w).alloc (f1F _) (.cells #[] 5)
  go_loopw [5,6] (fun v i wr=>∃j:Nat,j≤64∧i=.int .i64 j∧wr.ownsRow w.heap.size 5 1 v j (byts (xorL x ((keyL k).take j)))∧Below w.heap.size w wr) (fun _ i _=>64 - (intOf i).toNat)
  case atStart=>exact⟨0,by omega,rfl,hown0,hb0⟩
  case round =>
   clear hown0 hb0
   obtain⟨j,hj,rfl,hown,hb⟩:=hrel
   by_cases hlt:j < 64
   ·have hd1:j+1≤maxLen:=by unfold maxLen;omega
    have hd2:(j+1)*1≤140737488355328:=by omega
    have HX:=f1D (s0w x (keyL k) j (by rw[HKL.out];exact hlt))
    by_cases hin:j < k.length
    ·obtain⟨b,o,hA,_,hcj⟩:=(hs.later (f1F _) hb).rd.get (i:=j) (by rw[a0b];exact hin)
     have hix:=c0I A b o k.length c j hA hin
     rw[c0d _ _ hin] at hcj
     have HY:=f1D (b1i HS.out hin)
     generalize k.getD j 0=y at *
     have hby:=f1D (show byts [y ^^^ x]=[Value.int .u8 (bits .xor .u8 (y.toNat:Int) (x.toNat:Int))] by rw[f0P];rfl)
     have HA:=f1D hA
     clear hA
     go_wp2_with (at_builtin;go_loud (refine wpList_append_own _ rfl (.tmp 26) (.tmp 30) 61 rfl w.heap.size 5 i0 _ 1 1 underlying61 hi hz0 hz1 hz2 rfl (by omega) _ j (byts (xorL x ((keyL k).take j))) rfl (hown.alloc _) ⟨wr.heap.size,0,none⟩ 1 1 (byts [y ^^^ x]) rfl (a0b _) (by rw[hby.out];exact d0m _ _ _) (a0o _) hd1 hd2 (by rw[World.size_alloc];have:=hb.size;omega) ?_;intro v3 w3 hown3 hg3 _;have hb3:Below w.heap.size w w3:=(hb.alloc hb.size _).grown hg3 (by rw[World.size_alloc];have:=hb.size;omega) (fun k hk=>(hown.lt k hk).1)))
     rw[←a0h,←HY.out,←HX.out] at hown3
     clear hb hown hg3
     go_roundw
     case rel=>exact⟨j+1,by omega,by go_num,hown3,hb3⟩
     case measure=>simp[intOf];omega
    ·have HY:=f1D (w0A HS.out (Nat.le_of_not_lt hin))
     have hby:=f1D (show byts [0 ^^^ x]=[Value.int .u8 (bits .xor .u8 0 (x.toNat:Int))] by rw[show (0:Int)=((0:UInt8).toNat:Int) from rfl,f0P];rfl)
     go_wp2_with (at_builtin;go_loud (refine wpList_append_own _ rfl (.tmp 26) (.tmp 30) 61 rfl w.heap.size 5 i0 _ 1 1 underlying61 hi hz0 hz1 hz2 rfl (by omega) _ j (byts (xorL x ((keyL k).take j))) rfl (hown.alloc _) ⟨wr.heap.size,0,none⟩ 1 1 (byts [0 ^^^ x]) rfl (a0b _) (by rw[hby.out];exact d0m _ _ _) (a0o _) hd1 hd2 (by rw[World.size_alloc];have:=hb.size;omega) ?_;intro v3 w3 hown3 hg3 _;have hb3:Below w.heap.size w w3:=(hb.alloc hb.size _).grown hg3 (by rw[World.size_alloc];have:=hb.size;omega) (fun k hk=>(hown.lt k hk).1)))
     rw[←a0h,←HY.out,←HX.out] at hown3
     clear hb hown hg3
     go_roundw
     case rel=>exact⟨j+1,by omega,by go_num,hown3,hb3⟩
     case measure=>simp[intOf];omega
   ·have e64:j=64:=by omega
    rw[e64,List.take_of_length_le (by rw[HKL.out];exact f1F _)] at hown
    go_wp2
    go_ret
    refine⟨_,rfl,?_,hb1.trans (hb.mono hb1.size)⟩
    rw[b0W,HKL.out]
    exact a0N hown hb1.size
 ·have hr:=f1D (q0P A k.length c k w hs rfl hm)
  obtain⟨s,hsq⟩:∃s,s=shaL k:=⟨_,rfl⟩
  have HS:=f1D (show s=g0j k by unfold g0j;rw[if_neg h64,hsq])
  have hsl64:=f1D (show s.length=32 by rw[hsq];exact c0K k)
  rw[←hsq] at hr
  clear hsq
  go_enter func112,ntmps112
  go_wp2_with (go_at_call 111;refine hr.out.mono ?_;rintro e w1 ⟨v1,rfl,hown1,hb1⟩;obtain⟨A1,c1,rfl,_,hsl1⟩:=Sl.of_own hown1;clear hown1)
  have hown0:(w1.alloc (.cells #[] 5)).ownsRow w1.heap.size 5 1 (.slice (some ⟨w1.heap.size,0,none⟩) 0 0) 0 []:=World.ownsRow_lit w1 #[] 0 (f1F _) (by unfold maxLen;omega) rfl
  have hb0:=(Below.refl w1.heap.size w1).alloc (f1F _) (.cells #[] 5)
  go_loopw [5,6] (fun v i wr=>∃j:Nat,j≤64∧i=.int .i64 j∧wr.ownsRow w1.heap.size 5 1 v j (byts (xorL x ((keyL k).take j)))∧Below w1.heap.size w1 wr) (fun _ i _=>64 - (intOf i).toNat)
  case atStart=>exact⟨0,by omega,rfl,hown0,hb0⟩
  case round =>
   clear hown0 hb0
   obtain⟨j,hj,rfl,hown,hb⟩:=hrel
   by_cases hlt:j < 64
   ·have hd1:j+1≤maxLen:=by unfold maxLen;omega
    have hd2:(j+1)*1≤140737488355328:=by omega
    have HX:=f1D (s0w x (keyL k) j (by rw[HKL.out];exact hlt))
    by_cases hin:j < s.length
    ·obtain⟨b,o,hA,_,hcj⟩:=(hsl1.later (f1F _) hb).rd.get (i:=j) (by rw[a0b];exact hin)
     have hix:=c0I A1 b o s.length c1 j hA hin
     rw[c0d _ _ hin] at hcj
     have HY:=f1D (b1i HS.out hin)
     generalize s.getD j 0=y at *
     have hby:=f1D (show byts [y ^^^ x]=[Value.int .u8 (bits .xor .u8 (y.toNat:Int) (x.toNat:Int))] by rw[f0P];rfl)
     have HA:=f1D hA
     clear hA
     go_wp2_with (at_builtin;go_loud (refine wpList_append_own _ rfl (.tmp 26) (.tmp 30) 61 rfl w1.heap.size 5 i0 _ 1 1 underlying61 hi hz0 hz1 hz2 rfl (by omega) _ j (byts (xorL x ((keyL k).take j))) rfl (hown.alloc _) ⟨wr.heap.size,0,none⟩ 1 1 (byts [y ^^^ x]) rfl (a0b _) (by rw[hby.out];exact d0m _ _ _) (a0o _) hd1 hd2 (by rw[World.size_alloc];have:=hb.size;omega) ?_;intro v3 w3 hown3 hg3 _;have hb3:Below w1.heap.size w1 w3:=(hb.alloc hb.size _).grown hg3 (by rw[World.size_alloc];have:=hb.size;omega) (fun k hk=>(hown.lt k hk).1)))
     rw[←a0h,←HY.out,←HX.out] at hown3
     clear hb hown hg3
     go_roundw
     case rel=>exact⟨j+1,by omega,by go_num,hown3,hb3⟩
     case measure=>simp[intOf];omega
    ·have HY:=f1D (w0A HS.out (Nat.le_of_not_lt hin))
     have hby:=f1D (show byts [0 ^^^ x]=[Value.int .u8 (bits .xor .u8 0 (x.toNat:Int))] by rw[show (0:Int)=((0:UInt8).toNat:Int) from rfl,f0P];rfl)
     go_wp2_with (at_builtin;go_loud (refine wpList_append_own _ rfl (.tmp 26) (.tmp 30) 61 rfl w1.heap.size 5 i0 _ 1 1 underlying61 hi hz0 hz1 hz2 rfl (by omega) _ j (byts (xorL x ((keyL k).take j))) rfl (hown.alloc _) ⟨wr.heap.size,0,none⟩ 1 1 (byts [0 ^^^ x]) rfl (a0b _) (by rw[hby.out];exact d0m _ _ _) (a0o _) hd1 hd2 (by rw[World.size_alloc];have:=hb.size;omega) ?_;intro v3 w3 hown3 hg3 _;have hb3:Below w1.heap.size w1 w3:=(hb.alloc hb.size _).grown hg3 (by rw[World.size_alloc];have:=hb.size;omega) (fun k hk=>(hown.lt k hk).1)))
     rw[←a0h,←HY.out,←HX.out] at hown3
     clear hb hown hg3
     go_roundw
     case rel=>exact⟨j+1,by omega,by go_num,hown3,hb3⟩
     case measure=>simp[intOf];omega
   ·have e64:j=64:=by omega
    rw[e64,List.take_of_length_le (by rw[HKL.out];exact f1F _)] at hown
    go_wp2
    go_ret
    refine⟨_,rfl,?_,hb1.trans (hb.mono hb1.size)⟩
    rw[b0W,HKL.out]
    exact a0N hown hb1.size
theorem a1G (A:Option Addr) (n c:Nat) (k:List UInt8) (B:Option Addr) (m d:Nat) (l:List UInt8) (w:World) (hs:Sl w A c (byts k)) (hn:n=k.length) (hk:k.length≤35184372088832) (hp:Sl w B d (byts l)) (hmn:m=l.length) (hm:64+l.length≤35184372088832) :
  Calls prog 73 #[.slice A n c,.slice B m d] w (a0H (macL k l) w):=by
 subst hmn
 obtain⟨i0,hi,hz0,hz1,hz2⟩:=info_parts infoByte
 obtain⟨XI,hXI⟩:∃XI,XI=xorL 54 (keyL k):=⟨_,rfl⟩
 obtain⟨XO,hXO⟩:∃XO,XO=xorL 92 (keyL k):=⟨_,rfl⟩
 have hXIl:XI.length=64:=by rw[hXI,b0W,c0J]
 have hXOl:XO.length=64:=by rw[hXO,b0W,c0J]
 have ht1:=f1D (show Calls prog 112 #[.slice A n c,.int .u8 54] w (a0H XI w) by rw[hXI];exact k0P A n c k 54 w hs hn hk)
 have ht2:=f1D (show ∀w1,Below w.heap.size w w1→Calls prog 112 #[.slice A n c,.int .u8 92] w1 (a0H XO w1) by rw[hXO];exact fun w1 hb=>k0P A n c k 92 w1 (hs.later (f1F _) hb) hn hk)
 have HM:=f1D (show macL k l=shaL (XO++shaL (XI++l)) by unfold macL;rw[hXI,hXO])
 have m1:XI.length+l.length≤maxLen:=by unfold maxLen;omega
 have m2:(XI.length+l.length)*1≤140737488355328:=by omega
 have m3:XO.length+(shaL (XI++l)).length≤maxLen:=by rw[c0K];unfold maxLen;omega
 have m4:(XO.length+(shaL (XI++l)).length)*1≤140737488355328:=by rw[c0K];omega
 have m5:(XI++l).length≤35184372088832:=by rw[List.length_append];omega
 have m6:(XO++shaL (XI++l)).length≤35184372088832:=by rw[List.length_append,c0K];omega
 have tok1:True:=trivial
 have tok2:True:=trivial
 have tok3:True:=trivial
 have tok4:True:=trivial
 have tok5:True:=trivial
 have tok6:True:=trivial
 have HL1:=f1D (show XI.length+l.length=(XI++l).length by rw[List.length_append])
 have HL2:=f1D (show XO.length+(shaL (XI++l)).length=(XO++shaL (XI++l)).length by rw[List.length_append])
 clear hXI hXO hXIl hXOl hs hn hk hm
 generalize hD:XI++l=D at *
 generalize hS:shaL D=S at *
 go_enter func73,ntmps73
 go_wp2_with (first
  | (go_at_call 112;have _t:=tok1;refine ht1.out.mono ?_;rintro e w1 ⟨v1,rfl,hown1,hb1⟩;have hp1:=hp.later (f1F _) hb1;clear tok1)
  | (at_builtin;have _t:=tok5;clear tok5;refine a0j rfl (.tmp 7) (.tmp 8) 61 rfl w.heap.size 5 i0 _ 1 underlying61 hi hz0 hz1 hz2 rfl _ XI.length (byts XI) rfl hown1 B l.length d (byts l) rfl (a0b _).symm hp1 (a0o _) m1 m2 hb1.size ?_;intro v2 w2 hown2 hg2;have hb2:Below w.heap.size w w2:=hb1.grown hg2 hb1.size (fun k hk=>(hown1.lt k hk).1);rw[←a0h,hD,HL1.out] at hown2;obtain⟨A2,c2,rfl,_,hsl2⟩:=Sl.of_own hown2)
  | (go_at_call 111;have _t:=tok2;refine (q0P A2 D.length c2 D _ hsl2 rfl m5).mono ?_;rw[hS];rintro e w3 ⟨v3,rfl,hown3,hb3⟩;obtain⟨A3,c3,rfl,_,hsl3⟩:=Sl.of_own hown3;have hbB:=hb2.trans (hb3.mono hb2.size);clear tok2)
  | (go_at_call 112;have _t:=tok3;refine (ht2.out _ hbB).mono ?_;rintro e w4 ⟨v4,rfl,hown4,hb4⟩;have hsl4:=hsl3.later (f1F _) hb4;clear tok3)
  | (at_builtin;have _t:=tok6;clear tok6;refine a0j rfl (.tmp 12) (.tmp 13) 61 rfl w3.heap.size 5 i0 _ 1 underlying61 hi hz0 hz1 hz2 rfl _ XO.length (byts XO) rfl hown4 A3 S.length c3 (byts S) rfl (a0b _).symm hsl4 (a0o _) m3 m4 hb4.size ?_;intro v5 w5 hown5 hg5;have hb5:Below w3.heap.size w3 w5:=hb4.grown hg5 hb4.size (fun k hk=>(hown4.lt k hk).1);rw[←a0h,HL2.out] at hown5;obtain⟨A5,c5,rfl,_,hsl5⟩:=Sl.of_own hown5)
  | (go_at_call 111;have _t:=tok4;refine (q0P A5 _ c5 (XO++S) _ hsl5 HL2.out m6).mono ?_;rintro e w6 ⟨v6,rfl,hown6,hb6⟩;have hbC:=hbB.trans ((a0a hb5 hb6).mono hbB.size);clear tok4))
 go_ret
 rw[HM.out]
 exact⟨v6,rfl,a0N hown6 (Nat.le_trans hbB.size hb5.size),hbC⟩
theorem u0i (A:Option Addr) (n c:Nat) (ss:List (List UInt8)) (w:World) (hs:Sl w A c (a0F ss)) (hn:n=ss.length) (hm:sumS ss≤1000000000) :
  Calls prog 74 #[.slice A n c] w (a0H (c0z ss) w):=by
 subst hn
 obtain⟨i0,hi,hz0,hz1,hz2⟩:=info_parts infoByte
 have hl1:=j0I ss
 have hown0:(w.alloc (.cells #[] 5)).ownsRow w.heap.size 5 1 (.slice (some ⟨w.heap.size,0,none⟩) 0 0) 0 []:=World.ownsRow_lit w #[] 0 (f1F _) (by unfold maxLen;omega) rfl
 have hb0:=(Below.refl w.heap.size w).alloc (f1F _) (.cells #[] 5)
 go_enter func74,ntmps74
 go_wp2_with fail
 go_loopw [3,9] (fun v i wr=>∃k:Nat,k≤ss.length∧i=.int .i64 k∧wr.ownsRow w.heap.size 5 1 v (c0z (ss.take k)).length (byts (c0z (ss.take k)))∧Below w.heap.size w wr) (fun _ i _=>ss.length - (intOf i).toNat)
 case atStart=>exact⟨0,by omega,rfl,hown0,hb0⟩
 case round =>
  clear hown0 hb0
  obtain⟨k,hk,rfl,hown,hb⟩:=hrel
  by_cases hlt:k < ss.length
  ·obtain⟨b,o,rfl,hb0,hr0⟩:=hs.rd.get (i:=0) (by rw[a0w];omega)
   clear hb0 hr0
   have hix:=b0w (some ⟨b,o,none⟩) b o ss.length c k rfl hlt
   have hc:=c0g (hs.later (f1F _) hb) k hlt
   have HS:=f1D (k0i ss k hlt)
   have hq1:=j0J ss (ss.getD k []) (by rw[List.getD_eq_getElem?_getD,List.getElem?_eq_getElem hlt];exact List.getElem_mem hlt)
   have hF:=o0f ss k
   have hF2:=d0T ss
   generalize ss.getD k []=q at *
   generalize c0z (ss.take k)=F at *
   have hz:=a0c q
   have n1:F.length+(b0j q.length).length≤maxLen:=by rw[b0a];unfold maxLen;omega
   have n2:(F.length+(b0j q.length).length)*1≤140737488355328:=by rw[b0a];omega
   have m1:F.length+(b0j q.length).length+q.length≤maxLen:=by rw[b0a];unfold maxLen;omega
   have m2:(F.length+(b0j q.length).length+q.length)*1≤140737488355328:=by rw[b0a];omega
   have hql:(q.length:Int)≤1000000000:=by omega
   have hnum:=k0L q.length (by omega)
   have HL8:=f1D (show (b0j q.length).length=(byts (b0j q.length)).length from (a0b _).symm)
   have HLq:=f1D (show q.length=(byts q).length from (a0b q).symm)
   have HP:=f1D (show t0R q=b0j q.length++q from rfl)
   have hbs:=hb.size
   clear hq1 hF hF2
   generalize b0j q.length=e8 at *
   go_wp2_with (first
    | (go_at_call 46;refine (hnum _).mono ?_;rintro e w1 ⟨v1,rfl,hown1,hb1⟩;obtain⟨A1,c1,rfl,_,hsl1⟩:=Sl.of_own hown1;have hownF:=a0D hown hb1 (f1F _);have hbw1:=hb.trans (hb1.mono hbs);clear hown1)
    | (at_builtin;refine a0j rfl (.tmp 13) (.tmp 17) 61 rfl w.heap.size 5 i0 _ 1 underlying61 hi hz0 hz1 hz2 rfl _ F.length (byts F) rfl hownF A1 e8.length c1 (byts e8) rfl HL8.out hsl1 (a0o _) n1 n2 hbw1.size ?_;intro v2 w2 hown2 hg2;have hbw2:Below w.heap.size w w2:=hbw1.grown hg2 hbw1.size (fun k hk=>(hownF.lt k hk).1);clear hg2 hownF hsl1)
    | (refine c0i rfl (.tmp 20) rfl q rfl ?_;intro A3 c3 w3 hsl3 hb3;have hown3:=a0D hown2 hb3 (f1F _);have hbw3:=hbw2.trans (hb3.mono hbw2.size);clear hown2 hb3)
    | (at_builtin;refine a0j rfl (.tmp 19) (.tmp 21) 61 rfl w.heap.size 5 i0 _ 1 underlying61 hi hz0 hz1 hz2 rfl _ (F.length+e8.length) (byts F++byts e8) rfl hown3 A3 q.length c3 (byts q) rfl HLq.out hsl3 (a0o _) m1 m2 hbw3.size ?_;intro v4 w4 hown4 hg4;have hbw4:Below w.heap.size w w4:=hbw3.grown hg4 hbw3.size (fun k hk=>(hown3.lt k hk).1)))
   go_roundw
   case rel =>
    refine⟨k+1,by omega,by go_num,?_,hbw4⟩
    rw[HS.out,HP.out]
    have e1:byts F++byts e8++byts q=byts (F++(e8++q)):=by rw[a0h,a0h,List.append_assoc]
    have e2:F.length+e8.length+q.length=(F++(e8++q)).length:=by simp only[List.length_append];omega
    rw[e1,e2] at hown4
    exact hown4
   case measure=>simp[intOf];omega
  ·obtain rfl:k=ss.length:=by omega
   rw[List.take_length] at hown
   clear hlt hk hs
   generalize ss.length=n at *
   go_wp2
   go_ret
   exact⟨_,rfl,hown,hb⟩
theorem y0r (l:List UInt8) (k:Nat) (hk:k < l.length) (n:Nat) (hn:k < n):(l.take k++List.replicate (n - k) 0).set k (l.getD k 0)=l.take (k+1)++List.replicate (n - (k+1)) 0:=by
 have hl:(l.take k).length=k:=by rw[List.length_take];omega
 have e:l.take (k+1)=l.take k++[l.getD k 0]:=by rw[List.take_add_one];simp[hk]
 rw[List.set_append_right _ _ (by omega),hl,Nat.sub_self,show n - k=n - (k+1)+1 by omega,List.replicate_succ,List.set_cons_zero,e,List.append_assoc]
 rfl
theorem x0M (A:Option Addr) (n c:Nat) (l:List UInt8) (w:World) (hs:Sl w A c (byts l)) (hn:n=l.length) (h32:l.length=32) :
  Calls prog 72 #[.slice A n c] w fun e w'=>e=.returned (.agg (byts l).toArray)∧Below w.heap.size w w':=by
 obtain rfl:n=32:=by omega
 clear hn
 obtain⟨b,o,rfl,hb0,hr0⟩:=hs.rd.get (i:=0) (by rw[a0b];omega)
 clear hb0 hr0
 obtain⟨Z,hZ⟩:∃Z,Z=byts d1m:=⟨_,rfl⟩
 have HZ:=f1D hZ
 obtain⟨V,hV⟩:∃V,V=byts l:=⟨_,rfl⟩
 have hVl:V.length=32:=by rw[hV,a0b];exact h32
 have hone:=f1D (b0d (show ∀v∈V,v.oneCell'=true by rw[hV];exact a0o _))
 have hsz2:=f1D (show (prog.info? 23).map (·.size)=some V.toArray.size by rw[a0t,List.size_toArray,hVl])
 have hzv:=f1D (show Z.toArray.size=V.toArray.size by rw[List.size_toArray,List.size_toArray,hVl,hZ];rfl)
 have HV:=f1D hV
 have HL:=f1D h32
 clear hV hVl hZ h32
 go_enter func72,ntmps72
 go_wp2_with (with_reducible refine wpList_store_row rfl 23 (.tmp 3) (.tmp 5) rfl (w.heap.size+1) _ rfl rfl 23 _ (heap_alloc2_new w _ _) (by kernel_rfl) (by kernel_rfl) (by kernel_rfl) ?_;refine Hid.out ?_)
 refine f1D ?_
 generalize hw4:World.setRow _ _ _=w4
 obtain⟨r0,r1,hb4⟩:=j0a hw4
 have r0:Row w4 w.heap.size 23 Z:=by rw[HZ.out,←m0p];exact r0
 have r1:Row w4 (w.heap.size+1) 23 (byts (l.take 0++List.replicate (32 - 0) 0)):=r1
 clear hw4
 go_wp2_with fail
 go_loopw [6] (fun i wr=>∃k:Nat,k≤32∧i=.int .i64 k∧Row wr (w.heap.size+1) 23 (byts (l.take k++List.replicate (32 - k) 0))∧Row wr w.heap.size 23 Z∧Below w.heap.size w wr) (fun i _=>32 - (intOf i).toNat)
 case atStart=>exact⟨0,by omega,rfl,r1,r0,hb4⟩
 case round =>
  clear r0 r1 hb4
  obtain⟨k,hk,rfl,hrow,hres,hb⟩:=hrel
  by_cases hlt:k < 32
  ·have hc:=(hs.later (f1F _) hb).range k _ (c0d l k (by rw[HL.out];exact hlt))
   have hix:=c0I (some ⟨b,o,none⟩) b o 32 c k rfl hlt
   have HS:=f1D (y0r l k (by rw[HL.out];exact hlt) 32 hlt)
   have hlen:(l.take k++List.replicate (32 - k) 0).length=32:=by rw[List.length_append,List.length_take,List.length_replicate,HL.out];omega
   have hd:=hrow.cell k
   rw[c0d _ _ (by omega)] at hd
   have hf:=hrow.free k
   generalize (((l.take k++List.replicate (32 - k) 0).getD k 0).toNat:Int)=y at *
   generalize l.getD k 0=x at *
   clear hlen
   go_wp2
   go_roundw
   case rel =>
    refine⟨k+1,by omega,by go_num,?_,hres.far _ _ (by show w.heap.size≠w.heap.size+1;omega),hb.grown (a0q _ _ _ _) hb.size (fun k h=>by cases h;omega)⟩
    rw[←HS.out,←g0Q]
    exact hrow.set _ _
   case measure=>simp[intOf];omega
  ·obtain rfl:k=32:=by omega
   rw[List.take_of_length_le (by rw[HL.out];exact f1F _),show 32 - 32=0 from rfl,List.replicate_zero,List.append_nil,←HV.out] at hrow
   have HR:=f1D (show wr.heap[w.heap.size+1]?=some (.cells V.toArray 23 (0,0)) from hrow)
   have H0:=f1D (show wr.heap[w.heap.size]?=some (.cells Z.toArray 23 (0,0)) from hres)
   clear hrow hres hs
   go_wp2_with (first
    | (with_reducible refine wpList_load_row rfl 23 (.tmp 3) rfl (w.heap.size+1) rfl 23 V.toArray (0,0) _ HR.out underlying23 rfl hsz2.out ?_)
    | (with_reducible refine wpList_store_row rfl 23 (.tmp 2) (.tmp 16) rfl w.heap.size V.toArray rfl rfl 23 _ H0.out hsz2.out hzv.out hone.out ?_;refine Hid.out ?_))
   refine f1D ?_
   generalize hw5:World.setRow _ _ _=w5
   obtain⟨r4,hg4⟩:=a0y (show Row wr w.heap.size 23 Z from H0.out) hw5
   have R4:=f1D (show w5.heap[w.heap.size]?=some (.cells V.toArray 23 (0,0)) from r4)
   have hb5:=hb.grown hg4 hb.size (fun k h=>by cases h;exact f1F _)
   clear hw5 r4 hg4 HR H0
   go_wp2_with (with_reducible refine bodyPost_ret (results_cell_row rfl _ _ w.heap.size 23 V.toArray (0,0) (.array 32 5) rfl R4.out underlying23 rfl hsz2.out) rfl ?_)
   exact⟨by rw[HV.out],hb5⟩
def keyD (key use:List UInt8) (ss:List (List UInt8)):List UInt8:=macL key (c0z (use :: ss))
theorem b0H (key use:List UInt8) (ss:List (List UInt8)):(keyD key use ss).length=32:=k0r _ _
theorem s0g (key:List UInt8) (hk:key.length=32) (use:List UInt8) (A:Option Addr) (n c:Nat) (ss:List (List UInt8)) (w:World) (hs:Sl w A c (a0F ss)) (hn:n=ss.length) (hm:sumS (use :: ss)≤1000000000) :
  Calls prog 45 #[.agg (byts key).toArray,.string (bstr use),.slice A n c] w fun e w'=>e=.returned (.agg (byts (keyD key use ss)).toArray)∧Below w.heap.size w w':=by
 subst hn
 obtain⟨i0,hi,hz0,hz1,hz2⟩:=info_parts k0l
 have hsl:=j0I (use :: ss)
 rw[List.length_cons] at hsl
 have hFl:=d0T (use :: ss)
 obtain⟨K,hK⟩:∃K,K=byts key:=⟨_,rfl⟩
 have HK:=f1D hK
 have hKl:K.length=32:=by rw[hK,a0b];exact hk
 obtain⟨V,hV⟩:∃V,V=byts (keyD key use ss):=⟨_,rfl⟩
 have hVl:V.length=32:=by rw[hV,a0b];exact b0H _ _ _
 have hone:=f1D (show ∀v∈V,v.oneCell'=true by rw[hV];exact a0o _)
 have hszl:=f1D (show (prog.info? 23).map (·.size)=some V.length by rw[a0t,hVl])
 have hsz2:=f1D (show (prog.info? 23).map (·.size)=some V.toArray.size by rw[a0t,List.size_toArray,hVl])
 have hfit:=f1D (show 0+V.length≤(List.replicate 32 (Value.int .u8 0)).length by rw[hVl,List.length_replicate];decide)
 have HVr:=f1D (show splice (List.replicate 32 (Value.int .u8 0)) 0 V=V by
  unfold splice
  rw[List.take_zero,List.nil_append,Nat.zero_add,hVl,List.drop_of_length_le (by rw[List.length_replicate];exact f1F _),List.append_nil])
 have hkl:=f1D hk
 have n1:1+ss.length≤maxLen:=by unfold maxLen;omega
 have n2:(1+ss.length)*16≤140737488355328:=by omega
 obtain⟨F,hF⟩:∃F,F=c0z (use :: ss):=⟨_,rfl⟩
 have hFm:64+F.length≤35184372088832:=by rw[hF];omega
 have hfr:=f1D (show ∀w1 B d,Sl w1 B d (a0F (use :: ss))→Calls prog 74 #[.slice B (1+ss.length) d] w1 (a0H F w1) by
  rw[hF]
  exact fun w1 B d h=>u0i B (1+ss.length) d (use :: ss) w1 h (by rw[List.length_cons];omega) hm)
 have HV:=f1D (show V=byts (macL key F) by rw[hV,hF];rfl)
 have HVD:=f1D hV
 have HLs:=f1D (show ss.length=(a0F ss).length from (a0w ss).symm)
 rw[←hK]
 clear hV hVl hK hF hFl hk hsl
 go_enter func45,ntmps45
 go_wp2_with (at_builtin;refine Hid.out ?_)
 refine f1D ?_
 generalize hw1:World.alloc (World.alloc (World.alloc w _) _) _=w1
 obtain⟨r0,r1,r2,hb1,hs1⟩:=i0i (A:=K) (B:=List.replicate 32 (.int .u8 0)) (C:=a0F [use]) hw1
 have hown1:w1.ownsRow (w.heap.size+1+1) 9 1 (.slice (some ⟨w.heap.size+1+1,0,none⟩) 1 1) 1 (a0F [use]):=f0H r2 (f1F _) (by rw[a0w];unfold maxLen;simp)
 have hsl1:=hs.later (f1F _) hb1
 clear hw1 r2
 go_wp2_with (at_builtin;refine a0j rfl (.tmp 9) (.tmp 10) 24 rfl (w.heap.size+1+1) 9 i0 _ 16 underlying24 hi hz0 hz1 hz2 rfl _ 1 (a0F [use]) rfl hown1 A ss.length c (a0F ss) rfl HLs.out hsl1 (d0I _) n1 n2 (by omega) ?_;intro v2 w2 hown2 hg2;obtain⟨A2,c2,rfl,_,hslA⟩:=Sl.of_own hown2)
 have hg2:w1.grownBy w2 (some (w.heap.size+1+1)):=hg2
 have r0:=r0.grown hg2 (by omega)
 have r1:=r1.grown hg2 (by omega)
 have hb2:=hb1.grown hg2 hb1.size (fun k h=>by cases h;omega)
 have hslA:Sl w2 A2 c2 (a0F (use :: ss)):=hslA
 have hslK:Sl w2 (some ⟨w.heap.size,0,none⟩) 32 (byts key):=⟨Rd.row (ys:=[]) (by rw[List.append_nil,←HK.out];exact r0),by rw[a0b,hkl.out];exact f1F _,fun h=>by cases h⟩
 clear hg2 r0 hown1 hown2 hsl1 hb1 hs1 hs
 refine wp_region_noPanic ?_
 refine wp_region_held_drew (S:=fun _=>True) (by kernel_rfl) (trivial) (fun hHeld=>?_)
 refine rt 0 12 hHeld ?_
 refine rt 1 13 hHeld ?_
 refine rc1 2 fun K hK=>?_
 go_simp
 refine (hfr.out _ _ _ (hslA.later (f1F _) ((Below.refl w2.heap.size w2).drew))).mono ?_;rintro e w6 ⟨v6,rfl,hown6,hb6⟩;obtain⟨A6,c6,rfl,_,hsl6⟩:=Sl.of_own hown6;have hb26:=a0a ((Below.refl w2.heap.size w2).drew) hb6;clear hown6
 try go_wp2_with fail
 refine hK.out _ _ (trivial) (fun hHeld=>?_)
 clear hK K
 refine rc1 3 fun K hK=>?_
 go_simp
 refine (a1G (some ⟨w.heap.size,0,none⟩) 32 32 key A6 F.length c6 F _ (hslK.later (f1F _) hb26) hkl.out.symm (by rw[hkl.out];decide) hsl6 rfl hFm).mono ?_;rintro e w7 ⟨v7,rfl,hown7,hb7⟩;obtain⟨A7,c7,rfl,_,hsl7⟩:=Sl.of_own hown7;have hb27:=a0a hb26 hb7;clear hown7
 try go_wp2_with fail
 refine hK.out _ _ (trivial) (fun hHeld=>?_)
 clear hK K
 refine rc1 4 fun K hK=>?_
 go_simp
 refine (x0M A7 _ c7 (macL key F) _ hsl7 rfl (k0r _ _)).mono ?_;rintro e w8 ⟨rfl,hb8⟩;have hb28:=a0a hb27 hb8;rw[←HV.out]
 try go_wp2_with fail
 refine hK.out _ _ (trivial) (fun hHeld=>?_)
 clear hK K
 refine rc1 5 fun K hK=>?_
 refine a0R none rfl (by rfl) 23 (.tmp 6) (.tmp 16) rfl (w.heap.size+1) 0 23 _ V rfl rfl (r1.later hb28 r1.lt) hfit.out hszl.out hone.out ?_;intro w9 r9 hg9
 refine hK.out _ _ (trivial) (fun _=>?_)
 clear hK K
 rw[a0u]
 refine wpAnyH_done (by kernel_rfl) ?_ _
 refine NoPanic.normal ?_
 have r9:Row w9 (w.heap.size+1) 23 V:=by rw[HVr.out] at r9;exact r9
 have hb9:=(hb2.trans (hb28.mono hb2.size)).grown hg9 (Nat.le_trans hb2.size hb28.size) (fun k h=>by cases h;omega)
 have R9:=f1D (show w9.heap[w.heap.size+1]?=some (.cells V.toArray 23 (0,0)) from r9)
 clear r9 hg9 r1 hslA hslK hsl6 hsl7 hb6 hb7 hb8 hb26 hb27 hb28 hb2
 go_wp2_with (with_reducible refine bodyPost_ret (results_cell_row rfl _ _ (w.heap.size+1) 23 V.toArray (0,0) (.array 32 5) rfl R9.out underlying23 rfl hsz2.out) rfl ?_)
 exact⟨by rw[HVD.out],hb9⟩
def varF:Nat→Nat→List UInt8
 | 0,n=>[UInt8.ofNat n]
 | k+1,n=>if n < 128 then [UInt8.ofNat n] else UInt8.ofNat (n%128+128) :: varF k (n/128)
def varL (n:Nat):List UInt8:=varF 9 n
theorem d0x (k n:Nat) (h:n < 128):varF k n=[UInt8.ofNat n]:=by
 cases k with
 | zero=>rfl
 | succ k=>unfold varF;rw[if_pos h]
theorem i0q (k n:Nat) (h:¬n < 128):varF (k+1) n=UInt8.ofNat (n%128+128) :: varF k (n/128):=by
 rw[varF,if_neg h]
theorem p0I:∀(k n:Nat),n < 128^(k+1)→varF (k+1) n=varF k n
 | 0,n,h=>by rw[d0x 1 n (by simpa using h),d0x 0 n (by simpa using h)]
 | k+1,n,h=>by
  by_cases h0:n < 128
  ·rw[d0x _ n h0,d0x _ n h0]
  ·rw[i0q _ n h0,i0q k n h0,p0I k (n/128) (by rw[Nat.div_lt_iff_lt_mul (by omega)];rw[Nat.pow_succ] at h;exact h)]
theorem m0m (n:Nat) (h:n < 128):varL n=[UInt8.ofNat n]:=d0x 9 n h
theorem s0u (n:Nat) (h:¬n < 128) (hn:n < 18446744073709551616):varL n=UInt8.ofNat (n%128+128) :: varL (n/128):=by
 unfold varL
 rw [i0q 8 n h, p0I 8 (n / 128) (by have : (128 : Nat) ^ (8 + 1) = 9223372036854775808 := by decide
                                    omega)]
theorem h0B:∀(k n:Nat),1≤(varF k n).length∧(varF k n).length≤k+1
 | 0,n=>by simp[varF]
 | k+1,n=>by
  by_cases h0:n < 128
  ·rw[d0x _ n h0];simp
  ·have:=h0B k (n/128)
   rw[i0q k n h0,List.length_cons];omega
theorem c0j (n:Nat):1≤(varL n).length∧(varL n).length≤10:=h0B 9 n
def i0r (w:World) (base:Nat) (e:TypeId) (v:Value) (n:Nat) (xs:List Value):Prop:=((∃b,v=.slice (some b) 0 0)∧n=0∧xs=[])∨w.ownsRow base e 1 v n xs
theorem i0r.lit (w:World) (base:Nat) (e:TypeId) (b:Addr):i0r w base e (.slice (some b) 0 0) 0 []:=.inl ⟨⟨b,rfl⟩,rfl,rfl⟩
theorem i0r.later {w w':World} {base B n:Nat} {e:TypeId} {v:Value} {xs:List Value} (h:i0r w base e v n xs) (hb:Below B w w') (hB:w.heap.size≤B):i0r w' base e v n xs:=by
 rcases h with h | h
 ·exact .inl h
 ·exact .inr (a0D h hb hB)
theorem j0l {P:Program} (w:World) (base:Nat) (t ty e:TypeId) (i:TypeInfo) (z:Value) (bytes:Nat) (ht:P.underlying t=some (.slice e)) (hi:P.info? e=some i) (hz:i.zero=some z)
  (hsize:i.size=1) (hby:i.bytes=bytes) (hzs:z.cells.size=1) (v:Value) (n:Nat) (xs:List Value) (hb:i0r w base e v n xs)
  (A:Option Addr) (m c:Nat) (news:List Value) (hm:m=news.length) (h0:0 < m) (hsl:Sl w A c news) (h1:∀u∈news,u.oneCell'=true)
  (h63:n+m≤maxLen) (hbytes:(n+m)*bytes≤140737488355328) (hbase:base≤w.heap.size) :
  ∃v' w',(Builtin.append_ #[t,t] ty #[v,.slice A m c]).run P w=.ok v' w'∧w'.ownsRow base e 1 v' (n+m) (xs++news)∧Below base w w':=by
 rcases hb with ⟨⟨b,rfl⟩,rfl,rfl⟩ | hown
 ·subst hm
  obtain⟨v',w',hr,h2,h3⟩:=g0b (P:=P) w base t ty e i z bytes ht hi hz hsize hby hzs (.slice none 0 0) 0 [] (World.ownsRow_nil w base e 1) A news.length c news rfl hsl h1 h63 hbytes hbase
  refine⟨v',w',?_,h2,⟨h3.os,h3.tape,h3.output,h3.size,fun k hk=>h3.block k (by omega) (by simp[Value.ownBlock])⟩⟩
  obtain⟨b',o',rfl,_,_⟩:=hsl.rd.get h0
  have hw63:((news.length:Nat):Int)≤9223372036854775807:=by unfold maxLen at h63;omega
  have e1:=run_append_nil (P:=P) (w:=w) t ty e i z ht hi hz ⟨b',o',none⟩ news.length c news (by rw[hsize,Nat.mul_one]) hsl.rd.at_add h0 hw63 (by rw[hby];rw[Nat.zero_add] at hbytes;omega)
  have e2:=run_append_grow (P:=P) (w:=w) t ty e i z ht hi hz b 0 0 [] (by simp) (fun j v hv=>by simp at hv) ⟨b',o',none⟩ news.length c news (by rw[hsize,Nat.mul_one]) hsl.rd.at_add (by omega) (by rw[Nat.zero_add];exact hw63) (by rw[Nat.zero_add,nextslicecap_zero h0,hby];rw[Nat.zero_add] at hbytes;omega)
  rw[e2,←hr,e1]
  simp
 ·obtain⟨v',w',hr,h2,h3⟩:=g0b (P:=P) w base t ty e i z bytes ht hi hz hsize hby hzs v n xs hown A m c news hm hsl h1 h63 hbytes hbase
  exact⟨v',w',hr,h2,(Below.refl base w).grown h3 hbase (fun k hk=>(hown.lt k hk).1)⟩
theorem f0k {P:Program} {w:World} {ops:Array Oper} {rest:List Oper} {o:Oper} {a:Act} {Q:Exit→Act→World→Prop} (hgd:o.guard=none) (s x:Operand) (t:TypeId)
  (ho:o.op=.call { callee:=.builtin .append,args:=#[s,x],argTypes:=#[t,t] })
  (base:Nat) (e:TypeId) (i:TypeInfo) (z:Value) (bytes:Nat) (ht:P.underlying t=some (.slice e)) (hi:P.info? e=some i) (hz:i.zero=some z)
  (hsize:i.size=1) (hby:i.bytes=bytes) (hzs:z.cells.size=1)
  (v:Value) (n:Nat) (xs:List Value) (hs:a.eval s=v) (hb:i0r w base e v n xs)
  (A:Option Addr) (m c:Nat) (news:List Value) (hx:a.eval x=.slice A m c) (hm:m=news.length) (h0:0 < m) (hsl:Sl w A c news) (h1:∀u∈news,u.oneCell'=true)
  (h63:n+m≤maxLen) (hbytes:(n+m)*bytes≤140737488355328) (hbase:base≤w.heap.size)
  (h:∀v' w',w'.ownsRow base e 1 v' (n+m) (xs++news)→Below base w w'→wpList P ops Q rest (a.put o.dst v') w'):wpList P ops Q (o :: rest) a w:=by
 refine wpList_plain hgd fun _ hK=>?_
 obtain⟨v',w',hrun,h2,h3⟩:=j0l (P:=P) w base t o.type e i z bytes ht hi hz hsize hby hzs v n xs hb A m c news hm h0 hsl h1 h63 hbytes hbase
 unfold Oper.wp execOp
 simp only[ho,resolve,invoke,builtin,Sem.run_bind,Sem.run_pure,Result.andThen_ok,List.map_toArray,List.map_cons,List.map_nil,hs,hx,hrun]
 exact hK _ _ (h v' w' h2 h3)
theorem i0w {w:World} {A:Option Addr} {c g:Nat} {l:List UInt8} (h:Sl w A c (byts l)) (n:Nat) (hn:n=l.length) (hne:0 < l.length→∀a,A=some a→a.block≠g) :
  ∀w':World,w.grownBy w' (some g)→(convert 61 9 (.slice A n c)).run prog w'=.ok (.string (bstr l)) w' :=
 fun _ hg=>b0o (h.apart hg (by rw[a0b];exact hne)) n hn
theorem d0Y {w w1:World} {A B:List Value} {tA tB:TypeId} (h:(w.alloc (.cells A.toArray tA)).alloc (.cells B.toArray tB)=w1) :
  Row w1 w.heap.size tA A∧Row w1 (w.heap.size+1) tB B∧Below w.heap.size w w1∧w1.heap.size=w.heap.size+2:=by
 subst h
 have s1:(w.alloc (.cells A.toArray tA)).heap.size=w.heap.size+1:=World.size_alloc _ _
 exact⟨heap_alloc2_old w _ _,heap_alloc2_new w _ _,((Below.refl _ w).alloc (f1F _) _).alloc (by omega) _,by rw[World.size_alloc,s1]⟩
theorem Sl.of_ownk {w:World} {base t k n:Nat} {v:Value} {xs:List Value} (h:w.ownsRow base t k v n xs):∃A c,v=.slice A n c∧xs.length=n*k∧Sl w A (c*k) xs:=by
 rcases h.2 with ⟨rfl,rfl⟩ | ⟨g,cap,cur,rfl,_,hg,hle,_,hs,htake⟩
 ·have hn:xs.length=0:=by simpa using h.1
  exact⟨none,0,rfl,h.1,⟨.inl (List.eq_nil_of_length_eq_zero hn),by omega,fun _=>Nat.zero_mul k⟩⟩
 ·refine⟨some ⟨g,0,none⟩,cap,rfl,h.1,⟨.inr ⟨g,0,rfl,(Array.getElem?_eq_some_iff.1 hg).1,fun i hi=>?_⟩,by rw[h.1];exact Nat.mul_le_mul_right k hle,fun h=>by cases h⟩⟩
  have hi':i < n*k:=by rw[←h.1];exact hi
  rw[Nat.zero_add,cell_of_row w g i cur t (0,0) hg,←htake,List.getElem?_take,if_pos hi']
  simp
theorem c0p {w w':World} {base t k n B:Nat} {v:Value} {xs:List Value} (h:w.ownsRow base t k v n xs) (hb:Below B w w') (hB:w.heap.size≤B):w'.ownsRow base t k v n xs:=by
 refine⟨h.1,?_⟩
 rcases h.2 with hn | ⟨g,cap,cur,rfl,hbg,hg,rest⟩
 ·exact .inl hn
 ·exact .inr ⟨g,cap,cur,rfl,hbg,(hb.block g (Nat.lt_of_lt_of_le (Array.getElem?_eq_some_iff.1 hg).1 hB)).trans hg,rest⟩
theorem g0H {P:Program} (w:World) (base:Nat) (t ty e:TypeId) (i:TypeInfo) (z:Value) (k bytes:Nat) (ht:P.underlying t=some (.slice e)) (hi:P.info? e=some i) (hz:i.zero=some z)
  (hsize:i.size=k) (hk:0 < k) (hby:i.bytes=bytes) (hzs:z.cells.size=k) (v:Value) (n:Nat) (xs:List Value) (hown:w.ownsRow base e k v n xs)
  (A:Option Addr) (m c:Nat) (news:List Value) (hm:news.length=m*k) (hsl:Sl w A (c*k) news) (h1:∀u∈news,u.oneCell'=true)
  (h63:n+m≤maxLen) (hbytes:(n+m)*bytes≤140737488355328) (hbase:base≤w.heap.size) :
  ∃v' w',(Builtin.append_ #[t,t] ty #[v,.slice A m c]).run P w=.ok v' w'∧w'.ownsRow base e k v' (n+m) (xs++news)∧w.grownBy w' v.ownBlock:=by
 cases A with
 | none =>
  have hc:=hsl.bare rfl
  have hl:=hsl.room
  have hm0:m=0:=by
   have h0:m*k=0:=by omega
   rcases Nat.mul_eq_zero.1 h0 with h | h
   ·exact h
   ·omega
  have hc0:c=0:=by
   rcases Nat.mul_eq_zero.1 hc with h | h
   ·exact h
   ·omega
  subst hm0 hc0
  obtain rfl:news=[]:=List.eq_nil_of_length_eq_zero (by omega)
  exact⟨v,w,run_append_owned_none (P:=P) (w:=w) base t ty e i k ht hi v n xs hown,by simpa using hown,World.grownBy.refl w _⟩
 | some ad =>
  obtain⟨v',w',h1',h2,h3,_⟩:=run_append_own (P:=P) w base t ty e i z k bytes ht hi hz hsize hby hzs hk v n xs hown ad m c news hm hsl.rd.at_add h1 h63 hbytes hbase
  exact⟨v',w',h1',h2,h3⟩
theorem g0O {P:Program} {w:World} {ops:Array Oper} {rest:List Oper} {o:Oper} {a:Act} {Q:Exit→Act→World→Prop} (hgd:o.guard=none) (s x:Operand) (t:TypeId)
  (ho:o.op=.call { callee:=.builtin .append,args:=#[s,x],argTypes:=#[t,t] })
  (base:Nat) (e:TypeId) (i:TypeInfo) (z:Value) (k bytes:Nat) (ht:P.underlying t=some (.slice e)) (hi:P.info? e=some i) (hz:i.zero=some z)
  (hsize:i.size=k) (hk:0 < k) (hby:i.bytes=bytes) (hzs:z.cells.size=k)
  (v:Value) (n:Nat) (xs:List Value) (hs:a.eval s=v) (hown:w.ownsRow base e k v n xs)
  (A:Option Addr) (m c:Nat) (news:List Value) (hx:a.eval x=.slice A m c) (hm:news.length=m*k) (hsl:Sl w A (c*k) news) (h1:∀u∈news,u.oneCell'=true)
  (h63:n+m≤maxLen) (hbytes:(n+m)*bytes≤140737488355328) (hbase:base≤w.heap.size)
  (h:∀v' w',w'.ownsRow base e k v' (n+m) (xs++news)→w.grownBy w' v.ownBlock→wpList P ops Q rest (a.put o.dst v') w'):wpList P ops Q (o :: rest) a w:=by
 refine wpList_plain hgd fun _ hK=>?_
 obtain⟨v',w',hrun,h2,h3⟩:=g0H (P:=P) w base t o.type e i z k bytes ht hi hz hsize hk hby hzs v n xs hown A m c news hm hsl h1 h63 hbytes hbase
 unfold Oper.wp execOp
 simp only[ho,resolve,invoke,builtin,Sem.run_bind,Sem.run_pure,Result.andThen_ok,List.map_toArray,List.map_cons,List.map_nil,hs,hx,hrun]
 exact hK _ _ (h v' w' h2 h3)
theorem c0U {P:Program} {w:World} {ops:Array Oper} {o:Oper} {a:Act} {K:Act→World→Prop} {Q:Exit→Act→World→Prop} {E:Prop} (dst:Option Tmp) (hdst:o.dst=dst) (hgd:Region.wanted o (yielded ops a.tmps)=true) (s x:Operand) (t:TypeId)
  (ho:o.op=.call { callee:=.builtin .append,args:=#[s,x],argTypes:=#[t,t] })
  (base:Nat) (e:TypeId) (i:TypeInfo) (z:Value) (k bytes:Nat) (ht:P.underlying t=some (.slice e)) (hi:P.info? e=some i) (hz:i.zero=some z)
  (hsize:i.size=k) (hk:0 < k) (hby:i.bytes=bytes) (hzs:z.cells.size=k)
  (v:Value) (n:Nat) (xs:List Value) (hs:a.eval s=v) (hown:w.ownsRow base e k v n xs)
  (A:Option Addr) (m c:Nat) (news:List Value) (hx:a.eval x=.slice A m c) (hm:news.length=m*k) (hsl:Sl w A (c*k) news) (h1:∀u∈news,u.oneCell'=true)
  (h63:n+m≤maxLen) (hbytes:(n+m)*bytes≤140737488355328) (hbase:base≤w.heap.size)
  (h:∀v' w',w'.ownsRow base e k v' (n+m) (xs++news)→w.grownBy w' v.ownBlock→K (a.put dst v') w') :
  if Region.wanted o (yielded ops a.tmps)=true then Oper.wp P o a w K Q else E:=by
 subst hdst
 rw[if_pos hgd]
 obtain⟨v',w',hrun,h2,h3⟩:=g0H (P:=P) w base t o.type e i z k bytes ht hi hz hsize hk hby hzs v n xs hown A m c news hm hsl h1 h63 hbytes hbase
 unfold Oper.wp execOp
 simp only[ho,resolve,invoke,builtin,Sem.run_bind,Sem.run_pure,Result.andThen_ok,List.map_toArray,List.map_cons,List.map_nil,hs,hx,hrun]
 exact h v' w' h2 h3
theorem b1R {α:Type} (f:α→List Value) (k:Nat) (fs:List α) (hf:∀a∈fs,(f a).length=k):∀(i:Nat) (a:α),fs[i]?=some a→∀j,j < k→(fs.flatMap f)[i*k+j]?=(f a)[j]?:=by
 induction fs with
 | nil=>intro i a h;simp at h
 | cons b fs ih =>
  intro i a h j hj
  have hb:=hf b (List.mem_cons_self ..)
  rw[List.flatMap_cons]
  cases i with
  | zero =>
   simp only[List.getElem?_cons_zero,Option.some.injEq] at h
   subst h
   rw[Nat.zero_mul,Nat.zero_add,List.getElem?_append_left (by omega)]
  | succ i =>
   rw[List.getElem?_append_right (by rw[hb,Nat.succ_mul];omega),hb,show (i+1)*k+j - k=i*k+j by rw[Nat.succ_mul];omega]
   exact ih (fun a ha=>hf a (List.mem_cons_of_mem _ ha)) i a (by simpa using h) j hj
theorem h0w {α:Type} (f:α→List Value) (k:Nat) (fs:List α) (hf:∀a∈fs,(f a).length=k):(fs.flatMap f).length=fs.length*k:=by
 induction fs with
 | nil=>simp
 | cons b fs ih =>
  rw[List.flatMap_cons,List.length_append,hf b (List.mem_cons_self ..),ih (fun a ha=>hf a (List.mem_cons_of_mem _ ha)),List.length_cons,Nat.succ_mul];omega
theorem Sl.thing {α:Type} {f:α→List Value} {k:Nat} {fs:List α} {w:World} {b o c:Nat} (h:Sl w (some ⟨b,o,none⟩) c (fs.flatMap f)) (hf:∀a∈fs,(f a).length=k) (i:Nat) (a:α) (ha:fs[i]?=some a):w.rangeAt b (o+i*k) (f a):=by
 intro j v hj
 have hlen:(f a).length=k:=hf a (List.mem_of_getElem? ha)
 have hjk:j < k:=by have:=(List.getElem?_eq_some_iff.1 hj).1;omega
 have hi:=(List.getElem?_eq_some_iff.1 ha).1
 have hlt:i*k+j < (fs.flatMap f).length:=by
  rw[h0w f k fs hf]
  have:(i+1)*k≤fs.length*k:=Nat.mul_le_mul_right k hi
  rw[Nat.succ_mul] at this
  omega
 obtain⟨b',o',he,_,hc⟩:=h.rd.get hlt
 cases he
 rw[Nat.add_assoc,hc,b1R f k fs hf i a ha j hjk,hj]
abbrev Fd:=UInt8×List UInt8
def fdV (f:Fd):List Value:=[.int .u8 (f.1.toNat:Int),.string (bstr f.2)]
theorem v0P (fs:List Fd):∀v∈fs.flatMap fdV,v.oneCell'=true:=by
 intro v hv
 obtain⟨f,_,hf⟩:=List.mem_flatMap.1 hv
 simp only[fdV,List.mem_cons,List.not_mem_nil,or_false] at hf
 rcases hf with rfl | rfl<;>rfl
theorem k0q (fs:List Fd):(fs.flatMap fdV).length=fs.length*2:=h0w fdV 2 fs (fun _ _=>rfl)
def c0X (f:Fd):List UInt8:=f.1 :: (varL f.2.length++f.2)
def c0F (fs:List Fd):List UInt8:=fs.flatMap c0X
theorem d0o (f:Fd):(c0X f).length=1+(varL f.2.length).length+f.2.length:=by unfold c0X;rw[List.length_cons,List.length_append];omega
theorem s0V (f:Fd):2≤(c0X f).length:=by have:=c0j f.2.length;rw[d0o];omega
theorem i0T (fs gs:List Fd):c0F (fs++gs)=c0F fs++c0F gs:=by unfold c0F;rw[List.flatMap_append]
theorem o0v (fs:List Fd):fs.length*2≤(c0F fs).length:=by
 induction fs with
 | nil=>simp
 | cons f fs ih =>
  have:=s0V f
  have e:c0F (f :: fs)=c0X f++c0F fs:=by unfold c0F;rw[List.flatMap_cons]
  rw[e,List.length_append,List.length_cons];omega
theorem l0L (fs:List Fd) (k:Nat) (f:Fd) (h:fs[k]?=some f):c0F (fs.take (k+1))=c0F (fs.take k)++c0X f:=by
 unfold c0F
 rw[List.take_add_one,List.flatMap_append,h]
 simp
structure Cav where
 third:Bool
 text:List UInt8
 party:Nat
 id:List UInt8
 vault:List UInt8
structure Tok where
 key:Nat
 id:List UInt8
 cavs:List Cav
 bound:Bool
 tag:List UInt8
theorem Cav.ext_iff' (a b:Cav):a=b↔a.third=b.third∧a.text=b.text∧a.party=b.party∧a.id=b.id∧a.vault=b.vault:=by
 cases a;cases b;simp
instance:DecidableEq Cav:=fun a b=>decidable_of_iff _ (Cav.ext_iff' a b).symm
theorem Tok.ext_iff' (a b:Tok):a=b↔a.key=b.key∧a.id=b.id∧a.cavs=b.cavs∧a.bound=b.bound∧a.tag=b.tag:=by
 cases a;cases b;simp
instance:DecidableEq Tok:=fun a b=>decidable_of_iff _ (Tok.ext_iff' a b).symm
def cavV (c:Cav):List Value:=[.bool c.third,.string (bstr c.text),.int .u64 c.party,.string (bstr c.id),.string (bstr c.vault)]
theorem f0Q (cs:List Cav):∀v∈cs.flatMap cavV,v.oneCell'=true:=by
 intro v hv
 obtain⟨f,_,hf⟩:=List.mem_flatMap.1 hv
 simp only[cavV,List.mem_cons,List.not_mem_nil,or_false] at hf
 rcases hf with rfl | rfl | rfl | rfl | rfl<;>rfl
theorem b0P (cs:List Cav):(cs.flatMap cavV).length=cs.length*5:=h0w cavV 5 cs (fun _ _=>rfl)
def tokH (t:Tok) (A:Option Addr) (c:Nat):List Value:=[.int .u64 t.key,.string (bstr t.id),.slice A t.cavs.length c,.bool t.bound]
def tokV (t:Tok) (A:Option Addr) (c:Nat):List Value:=tokH t A c++byts t.tag
theorem a0X (t:Tok) (A:Option Addr) (c:Nat):∀v∈tokV t A c,v.oneCell'=true:=by
 intro v hv
 rcases List.mem_append.1 hv with h | h
 ·simp only[tokH,List.mem_cons,List.not_mem_nil,or_false] at h
  rcases h with rfl | rfl | rfl | rfl<;>rfl
 ·exact a0o _ v h
structure Tok.Ok (t:Tok):Prop where
 key:t.key < 18446744073709551616
 party:∀c∈t.cavs,c.party < 18446744073709551616
 tag:t.tag.length=32
theorem a0n {t:Tok} (h:t.Ok) (A:Option Addr) (c:Nat):(tokV t A c).length=36:=by
 unfold tokV;rw[List.length_append,a0b,h.tag];rfl
def canC (c:Cav):Bool :=
 if c.third then decide (c.text=[])&&decide (c.id.length≤1024)&&decide (c.vault.length≤1024)
 else decide (c.text.length≤512)&&decide (c.party=0)&&decide (c.id=[])&&decide (c.vault=[])
def d0O (t:Tok):Bool:=decide (t.id.length≤1024)&&decide (t.cavs.length≤64)&&t.cavs.all canC
def cavF (c:Cav):List Fd:=if c.third then [(4,varL c.party),(5,c.id),(6,c.vault)] else [(3,c.text)]
def b0l:Tok:=⟨0,[],[],false,List.replicate 32 0⟩
theorem b0Z:b0l.Ok:=⟨by decide,by simp[b0l],rfl⟩
def capB (c:Cav):List UInt8:=c0F (cavF c)
def c0D (key:List UInt8) (n:Nat) (id:List UInt8):List UInt8:=keyD key [109,105,110,116] [b0j n,id]
def d0U (t:List UInt8) (c:Cav):List UInt8:=keyD t [99,97,118,101,97,116] [capB c]
theorem c0u (key:List UInt8) (n:Nat) (id:List UInt8):(c0D key n id).length=32:=b0H _ _ _
theorem c0r (t:List UInt8) (c:Cav):(d0U t c).length=32:=b0H _ _ _
def h0l (x:List UInt8):List Cav→List (List UInt8)
 | []=>[x]
 | c :: cs=>x :: h0l (d0U x c) cs
def endF (x:List UInt8) (cs:List Cav):List UInt8:=cs.foldl d0U x
theorem i0X (cs:List Cav):∀x,(h0l x cs).length=cs.length+1:=by
 induction cs with
 | nil=>intro x;rfl
 | cons c cs ih=>intro x;rw[h0l,List.length_cons,ih,List.length_cons]
theorem v0N (x:List UInt8) (cs:List Cav) (c:Cav):endF x (cs++[c])=d0U (endF x cs) c:=by
 unfold endF;rw[List.foldl_append];rfl
theorem u0G (cs:List Cav) (c:Cav):∀x,h0l x (cs++[c])=h0l x cs++[endF x (cs++[c])]:=by
 induction cs with
 | nil=>intro x;rfl
 | cons d cs ih=>intro x;rw[List.cons_append,h0l,h0l,ih,List.cons_append];rfl
theorem y0t (cs:List Cav) (k:Nat) (c:Cav) (h:cs[k]?=some c):cs.take (k+1)=cs.take k++[c]:=by
 rw[List.take_add_one,h];rfl
theorem y0o (x:List UInt8) (cs:List Cav) (k:Nat) (c:Cav) (h:cs[k]?=some c):h0l x (cs.take (k+1))=h0l x (cs.take k)++[d0U (endF x (cs.take k)) c]∧endF x (cs.take (k+1))=d0U (endF x (cs.take k)) c:=by
 rw[y0t cs k c h,u0G,v0N]
 exact⟨rfl,rfl⟩
theorem k0p (cs:List Cav) (x:List UInt8) (hx:x.length=32):(endF x cs).length=32:=by
 induction cs generalizing x with
 | nil=>exact hx
 | cons c cs ih=>exact ih _ (c0r _ _)
theorem y0m (cs:List Cav):∀x,x.length=32→∀t∈h0l x cs,t.length=32:=by
 induction cs with
 | nil=>intro x hx t ht;rw[List.mem_singleton.1 ht];exact hx
 | cons c cs ih =>
  intro x hx t ht
  rcases List.mem_cons.1 ht with rfl | ht
  ·exact hx
  ·exact ih _ (c0r _ _) t ht
theorem y0l (cs:List Cav):∀x,(h0l x cs)[cs.length]?=some (endF x cs):=by
 induction cs with
 | nil=>intro x;rfl
 | cons c cs ih=>intro x;rw[List.length_cons,h0l,List.getElem?_cons_succ,ih];rfl
def p0B (key:List UInt8) (t:Tok):List (List UInt8):=h0l (c0D key t.key t.id) t.cavs
def endT (key:List UInt8) (t:Tok):List UInt8:=endF (c0D key t.key t.id) t.cavs
def c0G (t:Tok) (c:Cav):Tok:={ t with cavs:=t.cavs++[c],tag:=d0U t.tag c }
theorem f0U {t:Tok} {c:Cav} (h:t.Ok) (hc:c.party < 18446744073709551616):(c0G t c).Ok:=by
 refine⟨h.key,?_,c0r _ _⟩
 intro d hd
 rcases List.mem_append.1 hd with hd | hd
 ·exact h.party d hd
 ·rw[List.mem_singleton.1 hd];exact hc
def b0B (t:Tok) (c:Cav):Int:=if t.bound=true then 6 else if d0O (c0G t c)=true then 0 else 1
def addT (t:Tok) (c:Cav):Tok:=if b0B t c=0 then c0G t c else b0l
def b0C (id:List UInt8):Int:=if 1024 < id.length then 1 else 0
def c0R (key:List UInt8) (n:Nat) (id:List UInt8):Tok:=if 1024 < id.length then b0l else ⟨n,id,[],false,c0D key n id⟩
def b0F (s:List UInt8):Cav:=⟨false,s,0,[],[]⟩
theorem x0a:1≤maxLen:=by unfold maxLen;omega
theorem f0r (n:Nat) (h:n < 256):((UInt8.ofNat n).toNat:Int)=(n:Int):=by rw[UInt8.toNat_ofNat'];omega
theorem i0f (n:Nat) (h:n < 128) (k:Nat) (w:World):Calls prog 169 #[.int .u64 n] w (a0H (varF k n) w):=by
 have hw:IntKind.u8.wrap (n:Int)=(n:Int):=by rw[IntKind.wrap_u8];omega
 have hlt:(n:Int) < 128:=by omega
 have HV:=f1D (d0x k n h)
 have HB:=f1D (show (#[Value.int .u8 (n:Int)]:Array Value)=(byts [UInt8.ofNat n]).toArray by
  show _=#[Value.int .u8 ((UInt8.ofNat n).toNat:Int)]
  rw[f0r n (by omega)])
 clear h
 go_enter func169,ntmps169
 go_wp2
 go_ret
 rw[HV.out,HB.out]
 exact⟨_,rfl,f0H (Row.new w 5 (byts [UInt8.ofNat n])) (f1F _) (by rw[a0b];exact x0a),(Below.refl _ w).alloc (f1F _) _⟩
theorem p0c (k:Nat):∀n:Nat,k≤9→n < 128^(k+1)→n < 18446744073709551616→∀w:World,Calls prog 169 #[.int .u64 n] w (a0H (varF k n) w):=by
 induction k with
 | zero=>exact fun n _ h _ w=>i0f n (by simpa using h) 0 w
 | succ k IH =>
  intro n hk9 h h64 w
  by_cases h0:n < 128
  ·exact i0f n h0 (k+1) w
  obtain⟨i0,hi,hz0,hz1,hz2⟩:=info_parts infoByte
  obtain⟨x,hx⟩:∃x,x=n%128:=⟨_,rfl⟩
  obtain⟨q,hq⟩:∃q,q=n/128:=⟨_,rfl⟩
  have hrem:(n:Int)%128=(x:Int):=by rw[hx];omega
  have hquo:(n:Int)/128=(q:Int):=by rw[hq];omega
  have hw1:IntKind.u8.wrap (x:Int)=(x:Int):=by rw[IntKind.wrap_u8];omega
  have hw2:IntKind.u8.wrap ((x:Int)+128)=(x:Int)+128:=by rw[IntKind.wrap_u8];omega
  have hwq:IntKind.u64.wrap (q:Int)=(q:Int):=by rw[IntKind.wrap_u64];omega
  have hge:¬(n:Int) < 128:=by omega
  have hlow:(128:Int)≤(n:Int):=by omega
  have ih:=f1D (show ∀w1,Calls prog 169 #[.int .u64 q] w1 (a0H (varF k q) w1) from fun w1=>IH q (by omega) (by rw[hq,Nat.div_lt_iff_lt_mul (by omega)];rw[Nat.pow_succ] at h;exact h) (by omega) w1)
  have HV:=f1D (show varF (k+1) n=UInt8.ofNat (x+128) :: varF k q by rw[hx,hq];exact i0q k n h0)
  have HB:=f1D (show (#[Value.int .u8 ((x:Int)+128)]:Array Value)=(byts [UInt8.ofNat (x+128)]).toArray by
   show _=#[Value.int .u8 ((UInt8.ofNat (x+128)).toNat:Int)]
   rw[f0r (x+128) (by omega)];rfl)
  have hl:=h0B k q
  have n1:1+(varF k q).length≤maxLen:=by unfold maxLen;omega
  have n2:(1+(varF k q).length)*1≤140737488355328:=by omega
  generalize varF k q=L at *
  have HL:=f1D (show L.length=(byts L).length from (a0b L).symm)
  clear IH h h64 hx hq h0 hl hk9
  go_enter func169,ntmps169
  go_wp2_with (first
   | (go_at_call 169;refine (ih.out _).mono ?_;rintro e w2 ⟨v2,rfl,hown2,hb2⟩;obtain⟨A2,c2,rfl,_,hsl2⟩:=Sl.of_own hown2;have hown1:w2.ownsRow w.heap.size 5 1 (.slice (some ⟨w.heap.size,0,none⟩) 1 1) 1 (byts [UInt8.ofNat (x+128)]):=a0D (by rw[HB.out];exact f0H (Row.new w 5 (byts [UInt8.ofNat (x+128)])) (f1F _) (by rw[a0b];exact x0a)) hb2 (f1F _);have hbw2:Below w.heap.size w w2:=((Below.refl w.heap.size w).alloc (f1F _) _).trans (hb2.mono (by rw[World.size_alloc];omega));clear hb2 hown2)
   | (at_builtin;refine a0j rfl (.tmp 12) (.tmp 15) 61 rfl w.heap.size 5 i0 _ 1 underlying61 hi hz0 hz1 hz2 rfl _ 1 (byts [UInt8.ofNat (x+128)]) rfl hown1 A2 L.length c2 (byts L) rfl HL.out hsl2 (a0o _) n1 n2 hbw2.size ?_;intro v4 w4 hown4 hg4;have hbw4:Below w.heap.size w w4:=hbw2.grown hg4 hbw2.size (fun k hk=>(hown1.lt k hk).1)))
  go_ret
  refine⟨_,rfl,?_,hbw4⟩
  rw[←a0h] at hown4
  rw[HV.out,show (UInt8.ofNat (x+128) :: L).length=1+L.length by rw[List.length_cons];omega]
  exact hown4
theorem k0J (n:Nat) (h:n < 18446744073709551616) (w:World):Calls prog 169 #[.int .u64 n] w (a0H (varL n) w) :=
 p0c 9 n (by omega) (by have : (128 : Nat) ^ (9 + 1) = 1180591620717411303424 := by decide
                        omega) h w
end Go.Proofs.YtcbilopdeiapjaaGreatDoor
