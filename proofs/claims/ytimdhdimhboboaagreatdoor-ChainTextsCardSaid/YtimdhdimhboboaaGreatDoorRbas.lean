import Derived.Test.YtimdhdimhboboaaGreatDoorRbaq
import Derived.Test.YtimdhdimhboboaaGreatDoorRbai
import Derived.Deep.DeepCutAuto
import Derived.Test.YtimdhdimhboboaaGreatDoorRbar
import Derived.Test.YtimdhdimhboboaaGreatDoorRbak
namespace Go.Proofs.YtimdhdimhboboaaGreatDoor
set_option maxRecDepth 100000
open Go Go.RowKit
theorem q0H (c:UInt8):digI 10 c=if 48≤c.toNat∧c.toNat≤57 then (c.toNat:Int) - 48 else -1:=by
 have h:∀n:Fin 256,digI 10 (UInt8.ofNat n.1)=if 48≤n.1∧n.1≤57 then (n.1:Int) - 48 else -1:=by decide +kernel
 have:=h ⟨c.toNat,c.toNat_lt⟩
 simpa using this
theorem u0Z (s:List UInt8) (k m:Nat) (h:k < s.length) (hc:¬(48≤(s.getD k 0).toNat∧(s.getD k 0).toNat≤57)):b0U 10 m (s.drop k)=none:=by
 rw[g0F 10 m k s h,q0H,if_neg hc];rfl
theorem s0i (s:List UInt8) (k m:Nat) (h:k < s.length) (hc:48≤(s.getD k 0).toNat∧(s.getD k 0).toNat≤57):b0U 10 m (s.drop k)=b0U 10 (m*10+((s.getD k 0).toNat - 48)) (s.drop (k+1)):=by
 rw[g0F 10 m k s h,q0H,if_pos hc,if_neg (by omega)]
 congr 1
 omega
def r0G (most:Nat) (s:List UInt8) (w:World) (e:Ending) (w':World):Prop :=
 ∃n:Nat,e=.returned (.tuple #[.int .u64 (n:Int),.bool (a0M 10 most s).isSome])∧n < 10^most∧(∀v,a0M 10 most s=some v→n=v)∧Below w.heap.size w w'
set_option maxHeartbeats 4000000 in
theorem j0I (s:List UInt8) (hs:s.length≤1000) (most:Nat) (hm:most≤16) (w:World):Calls Tryz.prog 82 #[.string (bstr s),.int .i64 most] w (r0G most s w):=by
 have hz:=a0f s
 by_cases hlong:most < s.length
 ·have HV:=Lib.hid (show a0M 10 most s=none by unfold a0M;rw[if_pos (.inr hlong)])
  have a1:(most:Int) < (s.length:Int):=by omega
  clear hlong
  go_enter Tryz.func82,Tryz.ntmps82
  go_wp2
  go_ret2
  exact⟨0,by rw[HV.out];rfl,Nat.pow_pos (by omega),(fun v h=>by rw[HV.out] at h;cases h),Below.refl _ _⟩
 ·have a1:(s.length:Int)≤(most:Int):=by omega
  have HV:=Lib.hid (show a0M 10 most s=if s.length=0 then none else match b0U 10 0 s with
   | none=>none
   | some n=>if numL 10 n=s then some n else none by
    unfold a0M
    by_cases h0:s.length=0
    ·rw[if_pos (.inl h0),if_pos h0]
    ·rw[if_neg (by omega),if_neg h0];rfl)
  have hl16:s.length≤16:=by omega
  go_enter Tryz.func82,Tryz.ntmps82
  go_wp2
  have HLM:=Lib.hid (show s.length≤most by omega)
  clear a1 hlong
  go_loop [6,7] (fun x i=>∃k m:Nat,k≤s.length∧i=.int .i64 k∧x=.int .u64 m∧m < 10^k∧b0U 10 m (s.drop k)=b0U 10 0 s) (fun _ i=>s.length - (intOf i).toNat)
  case atStart=>exact⟨0,0,by omega,rfl,rfl,by decide,rfl⟩
  case round =>
   obtain⟨k,m,hk,rfl,rfl,hmk,hf⟩:=hrel
   by_cases hlt:k < s.length
   ·have hlt':(k:Int) < (s.length:Int):=by omega
    have hix:=a0Q s k hlt
    have HB:=Lib.hid (fun h=>hf.symm.trans (u0Z s k m hlt h))
    have HG:=Lib.hid (fun h=>(s0i s k m hlt h).symm.trans hf)
    have hbd:=c0W (s.getD k 0)
    generalize s.getD k 0=c at *
    clear hf
    by_cases hc:48≤c.toNat∧c.toNat≤57
    ·have HN:=Lib.hid (HG.out hc)
     have c1:decide ((c.toNat:Int) < 48)=false:=decide_eq_false (by omega)
     have c2:decide ((57:Int) < (c.toNat:Int))=false:=decide_eq_false (by omega)
     have hP:10^k≤10^15:=Nat.pow_le_pow_right (by omega) (by omega)
     have HP:=Lib.hid (show 10^(k+1)=10^k*10 from Nat.pow_succ ..)
     have hw1:IntKind.u64.wrap ((m:Int)*10)=(m:Int)*10:=by rw[IntKind.wrap_u64];omega
     have hw0:IntKind.u64.wrap (c.toNat:Int)=(c.toNat:Int):=by rw[IntKind.wrap_u64];omega
     have hw2:IntKind.u64.wrap ((m:Int)*10+(c.toNat:Int))=(m:Int)*10+(c.toNat:Int):=by rw[IntKind.wrap_u64];omega
     have hw3:IntKind.u64.wrap ((m:Int)*10+(c.toNat:Int) - 48)=((m*10+(c.toNat - 48):Nat):Int):=by rw[IntKind.wrap_u64];omega
     have hm2:m*10+(c.toNat - 48) < 10^(k+1):=by rw[HP.out];omega
     generalize m*10+(c.toNat - 48)=m2 at *
     clear HB HG hc hP
     go_wp2
     go_round
     case rel=>exact⟨k+1,m2,by omega,by go_num,rfl,hm2,HN.out⟩
     case measure=>simp[intOf];omega
    ·have HN:=Lib.hid (HB.out hc)
     have HW:=Lib.hid (show a0M 10 most s=none by rw[HV.out,HN.out];split<;>rfl)
     clear HB HG HV HN
     by_cases c1:c.toNat < 48
     ·have c1':(c.toNat:Int) < 48:=by omega
      clear hc c1
      go_wp2
      go_ret2
      exact⟨0,by rw[HW.out];rfl,Nat.pow_pos (by omega),(fun v h=>by rw[HW.out] at h;cases h),Below.refl _ _⟩
     ·have c1':decide ((c.toNat:Int) < 48)=false:=decide_eq_false (by omega)
      have c2':(57:Int) < (c.toNat:Int):=by omega
      clear hc c1
      go_wp2
      go_ret2
      exact⟨0,by rw[HW.out];rfl,Nat.pow_pos (by omega),(fun v h=>by rw[HW.out] at h;cases h),Below.refl _ _⟩
   ·obtain rfl:k=s.length:=by omega
    have hf0:b0U 10 0 s=some m:=by rw[←hf,List.drop_length];rfl
    have hval:a0M 10 most s=if numL 10 m=s then some m else none:=by
     rw[HV.out,hf0]
     by_cases h0:s.length=0
     ·have e:=List.length_eq_zero_iff.1 h0
      rw[if_pos h0,if_neg (by rw[e];exact f0P 10 m)]
     ·rw[if_neg h0]
    have hm16:m < 10^most:=Nat.lt_of_lt_of_le hmk (Nat.pow_le_pow_right (by omega) HLM.out)
    have hm64:m < 2^64:=by have:10^s.length≤10^16:=Nat.pow_le_pow_right (by omega) hl16;omega
    have hn:=Lib.hid (fun w'=>m0b m m w' (Nat.le_refl _) hm64)
    have he:=b0S (numL 10 m) s
    have HW:=Lib.hid hval
    clear HV hf hf0 hval hmk
    by_cases hs2:numL 10 m=s
    ·have HX:=Lib.hid (HW.out.trans (if_pos hs2))
     rw[decide_eq_true hs2] at he
     clear HW hs2
     generalize numL 10 m=X at *
     go_wp2_with (go_at_call 119;refine (hn.out _).mono ?_;rintro e w1 ⟨rfl,hb1⟩)
     go_ret2
     exact⟨m,by rw[HX.out];rfl,hm16,(fun v h=>by rw[HX.out] at h;exact Option.some.inj h),hb1⟩
    ·have HX:=Lib.hid (HW.out.trans (if_neg hs2))
     rw[decide_eq_false hs2] at he
     clear HW hs2
     generalize numL 10 m=X at *
     go_wp2_with (go_at_call 119;refine (hn.out _).mono ?_;rintro e w1 ⟨rfl,hb1⟩)
     go_ret2
     exact⟨m,by rw[HX.out];rfl,hm16,(fun v h=>by rw[HX.out] at h;cases h),hb1⟩
theorem m0r (m:Nat) (p:Int) (h:m%2=0∨2^53≤m∨p < -1074∨1023 < p):ofC m p=none:=by unfold ofC;rw[if_pos h]
theorem c1H (m:Nat) (p:Int) (h:¬(m%2=0∨2^53≤m∨p < -1074∨1023 < p)):ofC m p=if 971 < (upC 52 m p).2 then none else some (f0n (upC 52 m p).1 (upC 52 m p).2):=by unfold ofC;rw[if_neg h]
theorem c1i (f M:Nat) (P:Int) (h:¬(M < 2^52∧-1074 < P)):upC f M P=(M,P):=by
 cases f with
 | zero=>rfl
 | succ f=>rw[upC,if_neg h]
theorem d1q (f M:Nat) (P:Int) (h:M < 2^52∧-1074 < P):upC (f+1) M P=upC f (2*M) (P - 1):=by rw[upC,if_pos h]
set_option maxHeartbeats 4000000 in
theorem a1T (m:Nat) (p:Int) (hm:m < 2^64) (hp1:-1000000≤p) (hp2:p≤1000000) (w:World):Calls Tryz.prog 83 #[.int .u64 m,.int .i64 p] w fun e w'=>e=.returned (.tuple #[.float .f64 ((ofC m p).getD 0),.bool (ofC m p).isSome])∧w=w':=by
 obtain⟨V,hV⟩:∃V,V=ofC m p:=⟨_,rfl⟩
 have HV:=Lib.hid hV
 rw[←hV]
 clear hV
 by_cases h1:m%2=0
 ·have a1:((m:Int)).tmod 2=0:=by rw[Int.tmod_eq_emod_of_nonneg (by omega)];omega
  have HW:=Lib.hid (HV.out.trans (m0r m p (.inl h1)))
  clear HV h1
  go_enter Tryz.func83,Tryz.ntmps83
  go_wp2
  go_ret2
  exact⟨by rw[HW.out];rfl,rfl⟩
 have a1:((m:Int)).tmod 2=1:=by rw[Int.tmod_eq_emod_of_nonneg (by omega)];omega
 by_cases h2:2^53≤m
 ·have a2:(9007199254740992:Int)≤(m:Int):=by omega
  have HW:=Lib.hid (HV.out.trans (m0r m p (.inr (.inl h2))))
  clear HV h1 h2
  go_enter Tryz.func83,Tryz.ntmps83
  go_wp2
  go_ret2
  exact⟨by rw[HW.out];rfl,rfl⟩
 have a2:decide ((9007199254740992:Int)≤(m:Int))=false:=decide_eq_false (by omega)
 by_cases h3:p < -1074
 ·have HW:=Lib.hid (HV.out.trans (m0r m p (.inr (.inr (.inl h3)))))
  clear HV h1 h2
  go_enter Tryz.func83,Tryz.ntmps83
  go_wp2
  go_ret2
  exact⟨by rw[HW.out];rfl,rfl⟩
 have a3:decide (p < -1074)=false:=decide_eq_false h3
 by_cases h4:1023 < p
 ·have HW:=Lib.hid (HV.out.trans (m0r m p (.inr (.inr (.inr h4)))))
  clear HV h1 h2 h3
  go_enter Tryz.func83,Tryz.ntmps83
  go_wp2
  go_ret2
  exact⟨by rw[HW.out];rfl,rfl⟩
 have a4:decide (1023 < p)=false:=decide_eq_false h4
 have HW:=Lib.hid (HV.out.trans (c1H m p (by omega)))
 have hm0:0 < m:=by omega
 have hm1:m < 2^53:=by omega
 have hq0:-1074≤p:=by omega
 have hq1:p≤1023:=by omega
 clear HV h1 h2 h3 h4 hp1 hp2 hm
 go_enter Tryz.func83,Tryz.ntmps83
 go_wp2
 clear a1 a2 a3 a4
 go_loop [0,1] (fun x y=>∃(f M:Nat) (P:Int),x=.int .u64 M∧y=.int .i64 P∧0 < M∧M < 2^53∧-1074≤P∧P≤1023∧upC f M P=upC 52 m p∧2^52≤M*2^f) (fun x _=>2^53 - (intOf x).toNat)
 case atStart=>exact⟨52,m,p,rfl,rfl,hm0,hm1,hq0,hq1,rfl,Nat.le_mul_of_pos_left _ hm0⟩
 case round =>
  clear hm0 hm1 hq0 hq1
  obtain⟨f,M,P,rfl,rfl,h1,h2,h3,h4,h5,h6⟩:=hrel
  by_cases hc:M < 2^52∧-1074 < P
  ·obtain⟨g,rfl⟩:∃g,f=g+1:=by
    cases f with
    | zero=>rw[Nat.pow_zero,Nat.mul_one] at h6;omega
    | succ g=>exact⟨g,rfl⟩
   have c1:(M:Int) < 4503599627370496:=by omega
   have c2:-1074 < P:=hc.2
   obtain⟨M2,hM2⟩:∃M2,M2=2*M:=⟨_,rfl⟩
   have HR:=Lib.hid (show 0 < M2∧M2 < 2^53∧-1074≤P - 1∧P - 1≤1023∧upC g M2 (P - 1)=upC 52 m p∧2^52≤M2*2^g∧M < M2 from
    ⟨by omega,by omega,by omega,by omega,by rw[hM2,←d1q g M P hc,h5],by
     have e:M*2^(g+1)=2*M*2^g:=by rw[Nat.pow_succ,←Nat.mul_assoc,Nat.mul_comm,←Nat.mul_assoc]
     rw[hM2,←e];exact h6,by omega⟩)
   have hw1:IntKind.u64.wrap ((M:Int)*2)=(M2:Int):=by rw[IntKind.wrap_u64];omega
   have hw2:IntKind.i64.wrap (P - 1)=P - 1:=by rw[IntKind.wrap_i64];omega
   have HM:=Lib.hid hM2
   clear hc h5 h6 h4 hM2
   go_wp2
   go_round
   case rel =>
    obtain⟨r1,r2,r3,r4,r5,r6,-⟩:=HR.out
    exact⟨g,M2,P - 1,rfl,rfl,r1,r2,r3,r4,r5,r6⟩
   case measure =>
    obtain⟨r1,r2,r3,r4,r5,r6,r7⟩:=HR.out
    simp[intOf];omega
  ·have HU:=Lib.hid (show V=if 971 < P then none else some (f0n M P) by rw[HW.out,←h5,c1i f M P hc])
   clear HW h5 h6
   by_cases hM:M < 2^52
   ·have hP:P=-1074:=by omega
    subst hP
    have c1:(M:Int) < 4503599627370496:=by omega
    have HX:=Lib.hid (show V=some M by rw[HU.out,if_neg (by omega)];unfold f0n;rw[if_pos hM])
    clear HU hc hM
    go_wp2
    go_ret2
    exact⟨by rw[HX.out];rfl,rfl⟩
   ·have c1:decide ((M:Int) < 4503599627370496)=false:=decide_eq_false (by omega)
    by_cases hP:971 < P
    ·have HX:=Lib.hid (HU.out.trans (if_pos hP))
     clear HU hc hM
     go_wp2
     go_ret2
     exact⟨by rw[HX.out];rfl,rfl⟩
    ·have c3:P≤971:=by omega
     obtain⟨E,rfl⟩:∃E:Nat,P=(E:Int) - 1075:=⟨(P+1075).toNat,by omega⟩
     have HX:=Lib.hid (show V=some (E*2^52+M - 2^52) by rw[HU.out,if_neg hP];unfold f0n;rw[if_neg hM,show ((E:Int) - 1075+1075).toNat=E by omega])
     have hw0:IntKind.i64.wrap (E:Int)=(E:Int):=by rw[IntKind.wrap_i64];omega
     have hw1:IntKind.i64.wrap ((E:Int) - 1075+1075)=(E:Int):=by rw[IntKind.wrap_i64];omega
     have hw2:IntKind.u64.wrap (E:Int)=(E:Int):=by rw[IntKind.wrap_u64];omega
     obtain⟨B,hB⟩:∃B,B=E*2^52:=⟨_,rfl⟩
     have hw3:IntKind.u64.wrap ((E:Int)*4503599627370496)=(B:Int):=by rw[IntKind.wrap_u64];omega
     rw[←hB] at HX
     have hw4:IntKind.u64.wrap ((B:Int)+(M:Int))=(B:Int)+(M:Int):=by rw[IntKind.wrap_u64];omega
     obtain⟨Z,hZ⟩:∃Z,Z=B+M - 2^52:=⟨_,rfl⟩
     have hw5:IntKind.u64.wrap ((B:Int)+(M:Int) - 4503599627370496)=(Z:Int):=by rw[IntKind.wrap_u64];omega
     rw[←hZ] at HX
     have c4:decide (971 < (E:Int) - 1075)=false:=decide_eq_false (by omega)
     clear HU hc hM hP hB hZ h2 h3 h4 c3
     go_wp2
     go_ret2
     exact⟨by rw[HX.out];rfl,rfl⟩
theorem a0N (l k:List UInt8):((bstr l).toList==k)=decide (l=k):=by
 rw[a0n,Bool.eq_iff_iff,beq_iff_eq,decide_eq_true_iff]
def g0m:List Nat:=[0,9223372036854775808,9218868437227405312,18442240474082181120]
theorem x0y:b0C 0=[48]:=by decide +kernel
theorem t0O:b0C 9223372036854775808=[45,48]:=by decide +kernel
theorem z0Q:b0C 9218868437227405312=[105,110,102]:=by decide +kernel
theorem x0x:b0C 18442240474082181120=[45,105,110,102]:=by decide +kernel
theorem p0m (j:Nat) (h:j < 4):g0m.getD j 0 < 2^64∧nanC (g0m.getD j 0)=false:=by
 have:j=0∨j=1∨j=2∨j=3:=by omega
 rcases this with rfl | rfl | rfl | rfl<;>exact⟨by decide,by decide +kernel⟩
theorem s0R (s:List UInt8) (j:Nat) (h:j < 4) (e:s=b0C (g0m.getD j 0)):b0o s=some (g0m.getD j 0) :=
 (f0B s _).2 ⟨(p0m j h).1,(p0m j h).2,e.symm⟩
theorem w0t (s:List UInt8) (h4:∀j,j < 4→s≠b0C (g0m.getD j 0)) (h:s.getD 0 0≠45):b0o s=magP s:=by
 have e:b0o s=g0b s:=by
  cases s with
  | nil=>rfl
  | cons c r=>exact f0j c r h
 rw[e]
 unfold g0b
 rw[if_neg (fun e=>h4 0 (by omega) (by rw[e];exact x0y.symm)),if_neg (fun e=>h4 2 (by omega) (by rw[e];exact z0Q.symm))]
theorem w0s (r:List UInt8) (h4:∀j,j < 4→(45:UInt8) :: r≠b0C (g0m.getD j 0)):b0o (45 :: r)=(magP r).map (2^63 + ·):=by
 show (g0b r).map (2^63 + ·)=_
 unfold g0b
 rw[if_neg (fun e=>h4 1 (by omega) (by rw[e];exact t0O.symm)),if_neg (fun e=>h4 3 (by omega) (by rw[e];exact x0x.symm))]
theorem s0U (s r:List UInt8) (e:s=45 :: r) (h4:∀j,j < 4→s≠b0C (g0m.getD j 0)):b0o s=(magP r).map (2^63 + ·):=by
 subst e;exact w0s r h4
theorem l0I (x:UInt8) (r:List UInt8) (n:Nat) (h:n=r.length+1):(bstr (x :: r)).extract 1 n=bstr r:=by
 subst h
 rw[a0y,List.drop_succ_cons,List.drop_zero,Nat.add_sub_cancel,List.take_length]
theorem y0q (R:List UInt8) (k:Nat) (hk:k < R.length) (h:R.getD k 0=112) (hno:∀j,j < k→R.getD j 0≠112):cutP R=some (R.take k,R.drop (k+1)):=by
 have e:R=R.take k++112 :: R.drop (k+1):=by
  have hg:R[k]=112:=by rw[List.getD_eq_getElem?_getD,List.getElem?_eq_getElem hk] at h;exact h
  conv=>lhs;rw[←List.take_append_drop k R,List.drop_eq_getElem_cons hk,hg]
 conv=>lhs;rw[e]
 refine u0H _ _ fun hm=>?_
 obtain⟨j,hj⟩:=List.getElem?_of_mem hm
 have hjk:j < k:=by have:=(List.getElem?_eq_some_iff.1 hj).1;rw[List.length_take] at this;omega
 refine hno j hjk ?_
 rw[List.getElem?_take,if_pos hjk] at hj
 rw[List.getD_eq_getElem?_getD,hj];rfl
theorem u0I (R:List UInt8) (hno:∀j,j < R.length→R.getD j 0≠112):cutP R=none:=by
 cases h:cutP R with
 | none=>rfl
 | some x =>
  obtain⟨t,u⟩:=x
  have e:=n0l R t u h
  have hl:t.length < R.length:=by rw[e,List.length_append,List.length_cons];omega
  refine absurd ?_ (hno t.length hl)
  conv=>lhs;rw[e]
  rw[List.getD_eq_getElem?_getD,List.getElem?_append_right (Nat.le_refl _),Nat.sub_self];rfl
theorem q0Q (R t u:List UInt8) (h:cutP R=some (t,u)):magP R=match a0M 10 16 t,f0C u with
  | some m,some p=>ofC m p
  | _,_=>none:=by unfold magP;rw[h];rfl
theorem v0F (R:List UInt8) (h:cutP R=none):magP R=none:=by unfold magP;rw[h]
theorem o0i (r:List UInt8) (h:¬(r=[]∨r=[48])):f0C (45 :: r)=(a0M 10 4 r).map fun n:Nat=>-(n:Int):=by
 unfold f0C
 simp only[if_neg h]
theorem p0H (u:List UInt8) (h:u.getD 0 0≠45∨u.length≤1∨u=[45,48]):f0C u=(a0M 10 4 u).map fun n:Nat=>(n:Int):=by
 cases u with
 | nil=>rfl
 | cons c r =>
  by_cases hc:c=45
  ·subst hc
   have hr:r=[]∨r=[48]:=by
    rcases h with h | h | h
    ·exact absurd rfl h
    ·left;exact List.length_eq_zero_iff.1 (by simpa using h)
    ·right;exact (List.cons.inj h).2
   unfold f0C
   simp only[if_pos hr]
  ·exact g0q c r hc
theorem v0H (a:Nat) (h:FinC a):a < 2^64∧magC a=a∧negC a=false:=by
 obtain⟨h1,h2⟩:=h
 refine⟨by omega,by unfold magC;omega,by unfold negC;exact decide_eq_false (by omega)⟩
theorem n0X (a:Nat) (h:FinC a):floatBits .mul .f64 4607182418800017408 a=some a:=by
 obtain⟨h1,h2,h3⟩:=v0H a h
 show Ieee.double.mul 4607182418800017408 a=some a
 rw[m0o false _ a r0o h1 (by rw[h2];exact h),h2,h3];rfl
theorem k0O (a:Nat) (h:FinC a):floatBits .mul .f64 13830554455654793216 a=some (2^63+a):=by
 obtain⟨h1,h2,h3⟩:=v0H a h
 show Ieee.double.mul 13830554455654793216 a=some (2^63+a)
 rw[m0o true _ a t0h h1 (by rw[h2];exact h),h2,h3];rfl
theorem n0L (b n c k:Nat) (hk:k < n) (w:World) :
  (Instr.indexAt 123 (.slice (some ⟨b,0,none⟩) n c) (.int .i64 k)).run Tryz.prog w=.ok (.pointer (some ⟨b,k,none⟩)) w:=by
 have h:(k:Int) < (n:Int):=by omega
 go_simp
def b1k (O1 O2:Option Nat) (g:Nat→Int):Option Nat :=
 match O1,O2 with
 | some m,some n=>ofC m (g n)
 | _,_=>none
theorem v0y (R t u:List UInt8) (hc:cutP R=some (t,u)) (h:u.getD 0 0≠45∨u.length≤1∨u=[45,48]):magP R=b1k (a0M 10 16 t) (a0M 10 4 u) (fun n=>(n:Int)):=by
 rw[q0Q R t u hc,p0H u h]
 cases a0M 10 16 t<;>cases a0M 10 4 u<;>rfl
theorem s0A (R t r:List UInt8) (hc:cutP R=some (t,45 :: r)) (h:¬(r=[]∨r=[48])):magP R=b1k (a0M 10 16 t) (a0M 10 4 r) (fun n=>-(n:Int)):=by
 rw[q0Q R t _ hc,o0i r h]
 cases a0M 10 16 t<;>cases a0M 10 4 r<;>rfl
theorem b1v (m:Nat) (p:Int) (a:Nat) (h:ofC m p=some a):FinC a:=((p0D m p a).1 h).1
theorem v0b {w:World} {g:Nat} {t:TypeId} (h:Row w g t [.float .f64 0,.float .f64 9223372036854775808,.float .f64 9218868437227405312,.float .f64 18442240474082181120]) (k:Nat) (hk:k < 4):w.cell? ⟨g,k,none⟩=some (.float .f64 (g0m.getD k 0)):=by
 rw[h.cell]
 have:k=0∨k=1∨k=2∨k=3:=by omega
 rcases this with rfl | rfl | rfl | rfl<;>rfl
def c1T (s R:List UInt8) (c:Nat):Prop:=s.getD 0 0=45∧s=45 :: R∧c=13830554455654793216∨s.getD 0 0≠45∧R=s∧c=4607182418800017408
theorem b1U (s:List UInt8) (hs:s.length≤1000) (V:Option Nat) (HN:∀r,s=45 :: r→V=(magP r).map (2^63 + ·)) (HS:s.getD 0 0≠45→V=magP s) :
  ∃(R:List UInt8) (c:Nat) (G:Nat→Nat),R.length≤1000∧V=(magP R).map G∧(∀a,FinC a→floatBits .mul .f64 c a=some (G a))∧c1T s R c:=by
 by_cases h:s.getD 0 0=45
 ·obtain⟨R,hR⟩:∃R,s=45 :: R:=by
   cases s with
   | nil=>exact absurd h (by decide)
   | cons c r=>exact⟨r,by rw[show c=45 from h]⟩
  exact⟨R,13830554455654793216,(2^63 + ·),by rw[hR,List.length_cons] at hs;omega,HN R hR,k0O,.inl ⟨h,hR,rfl⟩⟩
 ·exact⟨s,4607182418800017408,id,hs,by rw[HS h];simp,n0X,.inr ⟨h,rfl,rfl⟩⟩
def d1k (u v:List UInt8) (g:Int):Prop:=1 < u.length∧u=45 :: v∧u≠[45,48]∧g=-1∨(u.length≤1∨u.getD 0 0≠45∨u=[45,48])∧v=u∧g=1
theorem c1P (R t u:List UInt8) (hc:cutP R=some (t,u)) (hu:u.length≤1000):∃v g,v.length≤1000∧magP R=b1k (a0M 10 16 t) (a0M 10 4 v) (fun n=>g*(n:Int))∧d1k u v g:=by
 by_cases h1:u.length≤1∨u.getD 0 0≠45∨u=[45,48]
 ·refine⟨u,1,hu,?_,.inr ⟨h1,rfl,rfl⟩⟩
  rw[v0y R t u hc (by rcases h1 with h | h | h;exact .inr (.inl h);exact .inl h;exact .inr (.inr h))]
  simp only[Int.one_mul]
 ·obtain⟨r,hr⟩:∃r,u=45 :: r:=by
   cases u with
   | nil=>exact absurd (.inl (Nat.zero_le _)) h1
   | cons c r =>
    refine⟨r,?_⟩
    by_cases h:c=45
    ·rw[h]
    ·exact absurd (.inr (.inl h)) h1
  refine⟨r,-1,by rw[hr,List.length_cons] at hu;omega,?_,.inl ⟨by omega,hr,fun h=>h1 (.inr (.inr h)),rfl⟩⟩
  rw[s0A R t r (hr ▸ hc) (fun h=>h1 (by
   rcases h with h | h
   ·exact .inl (by rw[hr,h];exact Nat.le_refl _)
   ·exact .inr (.inr (by rw[hr,h]))))]
  simp only[Int.neg_mul,Int.one_mul]
set_option maxHeartbeats 64000000 in
theorem s0m (s:List UInt8) (hs:s.length≤1000) (w:World):Calls Tryz.prog 54 #[.string (bstr s)] w fun e w'=>e=.returned (.tuple #[.float .f64 ((b0o s).getD 0),.bool (b0o s).isSome])∧Below w.heap.size w w':=by
 have hz:=a0f s
 have hc0:=Lib.hid (fun w'=>s0h w')
 have hi0:=Lib.hid (fun w'=>m0a w')
 have hi1:=Lib.hid (fun w'=>u0W w')
 have htx:=Lib.hid (fun j h w'=>n0z (g0m.getD j 0) (p0m j h).1 w')
 obtain⟨V,hV⟩:∃V,V=b0o s:=⟨_,rfl⟩
 have HF:=Lib.hid (fun j h e=>hV.trans (s0R s j h e))
 have HS:=Lib.hid (fun h4 h=>hV.trans (w0t s h4 h))
 have HN:=Lib.hid (fun r e h4=>hV.trans (s0U s r e h4))
 rw[←hV]
 clear hV
 have tok:True:=trivial
 obtain⟨w1,hw1⟩:∃w1,w1=w.alloc (.cells #[.float .f64 0,.float .f64 9223372036854775808,.float .f64 9218868437227405312,.float .f64 18442240474082181120] 68):=⟨_,rfl⟩
 have hr1:Row w1 w.heap.size 68 [.float .f64 0,.float .f64 9223372036854775808,.float .f64 9218868437227405312,.float .f64 18442240474082181120]:=by rw[hw1];exact Row.new w _ _
 have hb1:Below w.heap.size w w1:=by rw[hw1];exact (Below.refl _ w).alloc (Nat.le_refl _) _
 have HW1:=Lib.hid hw1
 clear hw1
 go_enter Tryz.func54,Tryz.ntmps54
 go_wp2_with (first
  | (go_at_call 79;refine (hc0.out _).mono ?_;rintro e w' ⟨rfl,rfl⟩)
  | (go_at_call 80;have _t:=tok;refine (hi0.out _).mono ?_;rintro e w' ⟨rfl,rfl⟩;clear tok)
  | (go_at_call 80;refine (hi1.out _).mono ?_;rintro e w' ⟨rfl,rfl⟩))
 rw[←HW1.out]
 clear HW1 hc0 hi0 hi1
 go_loopw [22] (fun i wr=>∃k:Nat,k≤4∧i=.int .i64 k∧(∀j,j < k→s≠b0C (g0m.getD j 0))∧Below w1.heap.size w1 wr) (fun i _=>4 - (intOf i).toNat)
 case atStart=>exact⟨0,by omega,rfl,fun j h=>by omega,Below.refl _ _⟩
 case round =>
  obtain⟨k,hk,rfl,hno,hbr⟩:=hrel
  by_cases hlt:k < 4
  ·have hlt':(k:Int) < 4:=by omega
   have hix:=n0L w.heap.size 4 4 k hlt
   have hce:=v0b (hr1.later hbr hr1.lt) k hlt
   have htk:=Lib.hid (htx.out k hlt wr)
   have he:=b0S s (b0C (g0m.getD k 0))
   by_cases heq:s=b0C (g0m.getD k 0)
   ·have HX:=Lib.hid (HF.out k hlt heq)
    rw[decide_eq_true heq] at he
    clear hno heq
    generalize b0C (g0m.getD k 0)=T at *
    generalize g0m.getD k 0=q at *
    go_wp2_with (go_at_call 81;refine htk.out.mono ?_;rintro e w2 ⟨rfl,hb2⟩)
    go_ret2
    exact⟨by rw[HX.out];rfl,(hb1.trans (hbr.mono hb1.size)).trans (hb2.mono (Nat.le_trans hb1.size hbr.size))⟩
   ·have HNO:=Lib.hid (show ∀j,j < k+1→s≠b0C (g0m.getD j 0) from fun j hj=>by
     rcases Nat.lt_or_eq_of_le (Nat.le_of_lt_succ hj) with h | h
     ·exact hno j h
     ·rw[h];exact heq)
    rw[decide_eq_false heq] at he
    clear hno heq
    generalize b0C (g0m.getD k 0)=T at *
    generalize g0m.getD k 0=q at *
    go_wp2_with (go_at_call 81;refine htk.out.mono ?_;rintro e w2 ⟨rfl,hb2⟩)
    go_roundw
    case rel=>exact⟨k+1,by omega,by go_num,HNO.out,hbr.trans (hb2.mono hbr.size)⟩
    case measure=>simp[intOf];omega
  ·obtain rfl:k=4:=by omega
   have hBw:Below w.heap.size w wr:=hb1.trans (hbr.mono hb1.size)
   obtain⟨R,c,G,hRl,hmg,hmul,hsg⟩:=b1U s hs V (fun r e=>HN.out r e hno) (fun h=>HS.out hno h)
   have HMg:=Lib.hid hmg
   have HML:=Lib.hid hmul
   have hzR:=a0f R
   clear hbr hr1 hb1 htx HF hno HS HN hmul hmg
   go_upto_region 9 with fail
   go_cut [40] (fun y wx=>y=.bool (decide (s.getD 0 0=45))∧wr=wx)
   case first =>
    rcases hsg with ⟨h45,hsR,-⟩ | ⟨h45,-,-⟩
    ·have hlp:(0:Int) < (s.length:Int):=by rw[hsR,List.length_cons];omega
     have hix:∀w',(Instr.index 9 (.string (bstr s)) (.int .i64 0)).run Tryz.prog w'=.ok (.int .u8 45) w':=by
      have h:=fun w'=>a0Q s 0 (by omega) w'
      rw[h45] at h;exact h
     have HD:=Lib.hid (decide_eq_true h45)
     clear h45 hsR
     go_wp2
     go_meet
     case rel=>exact⟨by rw[HD.out],rfl⟩
    ·have HD:=Lib.hid (decide_eq_false h45)
     by_cases hl0:s.length=0
     ·have hlp:((s.length:Nat):Int)=0:=by omega
      clear h45
      go_wp2
      go_meet
      case rel=>exact⟨by rw[HD.out],rfl⟩
     ·have hlp:(0:Int) < (s.length:Int):=by omega
      have hix:∀w',(Instr.index 9 (.string (bstr s)) (.int .i64 0)).run Tryz.prog w'=.ok (.int .u8 ((s.getD 0 0).toNat:Int)) w':=fun w'=>a0Q s 0 (by omega) w'
      have hy:(((s.getD 0 0).toNat:Int)==45)=false:=by
       rw[beq_eq_false_iff_ne]
       intro h
       exact h45 (UInt8.toNat_inj.1 (by rw[show (45:UInt8).toNat=45 from rfl];omega))
      generalize hyy:s.getD 0 0=y at *
      clear h45 hl0 hyy
      go_wp2
      go_meet
      case rel=>exact⟨by rw[HD.out],rfl⟩
   case rest =>
   obtain⟨rfl,rfl⟩:=hcut
   go_upto_if 40 with fail
   go_cut [6,7] (fun y z wx=>y=.string (bstr R)∧z=.float .f64 c∧wr=wx)
   case first =>
    rcases hsg with ⟨h45,hsR,rfl⟩ | ⟨h45,rfl,rfl⟩
    ·have hex:(bstr s).extract 1 s.length=bstr R:=by rw[hsR];exact l0I 45 R _ rfl
     have hsl1:(1:Int)≤(s.length:Int):=by rw[hsR,List.length_cons];omega
     rw[decide_eq_true h45]
     clear h45 hsR
     generalize bstr s=P at *
     generalize s.length=sl at *
     go_wp2
     go_meet
     case rel=>exact⟨rfl,rfl,rfl⟩
    ·rw[decide_eq_false h45]
     go_wp2
     go_meet
     case rel=>exact⟨rfl,rfl,rfl⟩
   case rest =>
   obtain⟨rfl,rfl,rfl⟩:=hcut
   clear hsg hz hs
   go_wp2
   go_loop [8] (fun i=>∃k:Nat,k≤R.length∧i=.int .i64 k∧∀j,j < k→R.getD j 0≠112) (fun i=>R.length - (intOf i).toNat)
   case atStart=>exact⟨0,by omega,rfl,fun j h=>by omega⟩
   case round =>
    obtain⟨k,hk,rfl,hno⟩:=hrel
    by_cases hlt:k < R.length
    ·have hlt':(k:Int) < (R.length:Int):=by omega
     have hix:=a0Q R k hlt
     by_cases hc:R.getD k 0=112
     ·have hix2:∀w',(Instr.index 9 (.string (bstr R)) (.int .i64 k)).run Tryz.prog w'=.ok (.int .u8 112) w':=by rw[hc] at hix;exact hix
      have HC:=y0q R k hlt hc hno
      have hwk:IntKind.i64.wrap ((k:Int)+1)=(k:Int)+1:=by rw[IntKind.wrap_i64];omega
      have hk1:(k:Int)+1≤(R.length:Int):=by omega
      have hk0:(k:Int)≤(R.length:Int):=by omega
      have hx1:(bstr R).extract (k+1) R.length=bstr (R.drop (k+1)):=by rw[a0y,List.take_of_length_le (by rw[List.length_drop];omega)]
      have hx2:(bstr R).extract 0 k=bstr (R.take k):=by rw[a0y,List.drop_zero];rfl
      have ht:(R.take k).length≤1000:=by rw[List.length_take];omega
      have hU:(R.drop (k+1)).length≤1000:=by rw[List.length_drop];omega
      have hzu:=a0f (R.drop (k+1))
      generalize R.take k=t at *
      generalize R.drop (k+1)=u at *
      obtain⟨v,g,hv,HJ,hpw⟩:=c1P R t u HC hU
      have HJ:=Lib.hid HJ
      clear hix hc hno HC
      obtain⟨O1,hO1⟩:∃O1,O1=a0M 10 16 t:=⟨_,rfl⟩
      obtain⟨O2,hO2⟩:∃O2,O2=a0M 10 4 v:=⟨_,rfl⟩
      have hd1:∀w',Calls Tryz.prog 82 #[.string (bstr t),.int .i64 16] w' fun e w''=>∃n:Nat,e=.returned (.tuple #[.int .u64 (n:Int),.bool O1.isSome])∧n < 10^16∧(∀v,O1=some v→n=v)∧Below w'.heap.size w' w'':=by
       intro w';rw[hO1];exact j0I t ht 16 (by omega) w'
      have hd2:∀w',Calls Tryz.prog 82 #[.string (bstr v),.int .i64 4] w' fun e w''=>∃n:Nat,e=.returned (.tuple #[.int .u64 (n:Int),.bool O2.isSome])∧n < 10^4∧(∀v,O2=some v→n=v)∧Below w'.heap.size w' w'':=by
       intro w';rw[hO2];exact j0I v hv 4 (by omega) w'
      rw[←hO1,←hO2] at HJ
      have Hd1:=Lib.hid hd1
      have Hd2:=Lib.hid hd2
      have tokd:True:=trivial
      clear hd1 hd2 hO1 hO2 ht hU
      go_upto_region 18 with fail
      go_cut [68] (fun y wx=>y=.bool (decide (g=-1))∧wr=wx)
      case first =>
       rcases hpw with ⟨h1,h2,h3,rfl⟩ | ⟨h1,-,rfl⟩
       ·have ua1:(1:Int) < (u.length:Int):=by omega
        have hux:∀w',(Instr.index 9 (.string (bstr u)) (.int .i64 0)).run Tryz.prog w'=.ok (.int .u8 45) w':=by
         have h:=fun w'=>a0Q u 0 (by omega) w'
         rw[h2] at h ⊢;exact h
        have e48:=a0N u [45,48]
        rw[decide_eq_false h3] at e48
        clear h1 h2 h3
        go_wp2
        go_meet
        case rel=>exact⟨rfl,rfl⟩
       ·by_cases ua:u.length≤1
        ·have ua1:decide ((1:Int) < (u.length:Int))=false:=decide_eq_false (by omega)
         clear h1
         go_wp2
         go_meet
         case rel=>exact⟨rfl,rfl⟩
        ·have ua1:(1:Int) < (u.length:Int):=by omega
         have hux:∀w',(Instr.index 9 (.string (bstr u)) (.int .i64 0)).run Tryz.prog w'=.ok (.int .u8 ((u.getD 0 0).toNat:Int)) w':=fun w'=>a0Q u 0 (by omega) w'
         by_cases ub:u.getD 0 0=45
         ·have e48:=a0N u [45,48]
          rw[decide_eq_true (by rcases h1 with h | h | h;exact absurd h ua;exact absurd ub h;exact h)] at e48
          rw[ub] at hux
          have hux:∀w',(Instr.index 9 (.string (bstr u)) (.int .i64 0)).run Tryz.prog w'=.ok (.int .u8 45) w':=hux
          clear h1 ua ub
          go_wp2
          go_meet
          case rel=>exact⟨rfl,rfl⟩
         ·have hub:(((u.getD 0 0).toNat:Int)==45)=false:=by
           rw[beq_eq_false_iff_ne]
           intro h
           exact ub (UInt8.toNat_inj.1 (by rw[show (45:UInt8).toNat=45 from rfl];omega))
          generalize u.getD 0 0=y at *
          clear h1 ua ub
          go_wp2
          go_meet
          case rel=>exact⟨rfl,rfl⟩
      case rest =>
      obtain⟨rfl,rfl⟩:=hcut
      go_upto_if 68 with fail
      go_cut [9,10] (fun y z wx=>y=.string (bstr v)∧z=.int .i64 g∧wr=wx)
      case first =>
       rcases hpw with ⟨h1,h2,h3,rfl⟩ | ⟨h1,rfl,rfl⟩
       ·have hexu:(bstr u).extract 1 u.length=bstr v:=by rw[h2];exact l0I 45 v _ rfl
        have hul:(1:Int)≤(u.length:Int):=by omega
        clear h1 h2 h3
        generalize bstr u=P2 at *
        go_wp2
        go_meet
        case rel=>exact⟨rfl,rfl,rfl⟩
       ·go_wp2
        go_meet
        case rel=>exact⟨rfl,rfl,rfl⟩
      case rest =>
      obtain⟨rfl,rfl,rfl⟩:=hcut
      have hg1:g=1∨g=-1:=by rcases hpw with ⟨-,-,-,h⟩ | ⟨-,-,h⟩;exact .inr h;exact .inl h
      clear hpw hzu
      go_wp2_with (first
       | (go_at_call 82;have _t:=tokd;refine (Hd1.out _).mono ?_;rintro e w3 ⟨n1,rfl,hn1,hv1,hb3⟩;clear tokd)
       | (go_at_call 82;refine (Hd2.out _).mono ?_;rintro e w4 ⟨n2,rfl,hn2,hv2,hb4⟩;refine Hid.out ?_))
      refine Lib.hid ?_
      have hB4:Below w.heap.size w w4:=(hBw.trans (hb3.mono hBw.size)).trans (hb4.mono (Nat.le_trans hBw.size hb3.size))
      obtain⟨z,hz⟩:∃z,z=g*(n2:Int):=⟨_,rfl⟩
      have hzb:-1000000≤z∧z≤1000000:=by rw[hz];rcases hg1 with rfl | rfl<;>constructor<;>omega
      have hw1:IntKind.i64.wrap (n2:Int)=(n2:Int):=by rw[IntKind.wrap_i64];omega
      have hw2:IntKind.i64.wrap (g*(n2:Int))=z:=by rw[←hz,IntKind.wrap_i64];omega
      have hof:=a1T n1 z (by omega) hzb.1 hzb.2 w4
      have HXN:=Lib.hid (show O1=none∨O2=none∨ofC n1 z=none→V=none from fun h=>by
       rw[HMg.out,HJ.out]
       cases O1 with
       | none=>rfl
       | some m =>
        cases O2 with
        | none=>rfl
        | some n =>
         obtain rfl:=hv1 m rfl
         obtain rfl:=hv2 n rfl
         show Option.map G (ofC n1 (g*(n2:Int)))=none
         rw[←hz]
         rcases h with h | h | h
         ·cases h
         ·cases h
         ·rw[h];rfl)
      have HXS:=Lib.hid (show ∀a,O1.isSome=true→O2.isSome=true→ofC n1 z=some a→V=some (G a) from fun a h1 h2 h=>by
       rw[HMg.out,HJ.out]
       cases O1 with
       | none=>cases h1
       | some m =>
        cases O2 with
        | none=>cases h2
        | some n =>
         obtain rfl:=hv1 m rfl
         obtain rfl:=hv2 n rfl
         show Option.map G (ofC n1 (g*(n2:Int)))=_
         rw[←hz,h];rfl)
      clear Hd1 Hd2 hn1 hn2 hz hzb hg1 HJ HMg hv1 hv2
      cases O1 with
      | none =>
       have HX:=Lib.hid (HXN.out (.inl rfl))
       have hof:=Lib.hid hof
       clear HXN HXS HML
       go_wp2_with (go_at_call 83;refine hof.out.mono ?_;rintro e w' ⟨rfl,rfl⟩)
       go_ret2
       exact⟨by rw[HX.out];rfl,hB4⟩
      | some m =>
       cases O2 with
       | none =>
        have HX:=Lib.hid (HXN.out (.inr (.inl rfl)))
        have hof:=Lib.hid hof
        clear HXN HXS HML
        go_wp2_with (go_at_call 83;refine hof.out.mono ?_;rintro e w' ⟨rfl,rfl⟩)
        go_ret2
        exact⟨by rw[HX.out];rfl,hB4⟩
       | some n =>
        cases h3:ofC n1 z with
        | none =>
         have HX:=Lib.hid (HXN.out (.inr (.inr h3)))
         rw[h3] at hof
         have hof:=Lib.hid hof
         clear HXN HXS HML h3
         go_wp2_with (go_at_call 83;refine hof.out.mono ?_;rintro e w' ⟨rfl,rfl⟩)
         go_ret2
         exact⟨by rw[HX.out];rfl,hB4⟩
        | some a =>
         have HX:=Lib.hid (HXS.out a rfl rfl h3)
         have hmul:=fun w'=>run_float_arith (P:=Tryz.prog) w' .mul 68 .f64 c a (G a) (HML.out a (b1v _ _ _ h3))
         rw[h3] at hof
         have hof:=Lib.hid hof
         clear HXN HXS HML h3
         go_wp2_with (go_at_call 83;refine hof.out.mono ?_;rintro e w' ⟨rfl,rfl⟩)
         go_ret2
         exact⟨by rw[HX.out];rfl,hB4⟩
     ·have hb:(((R.getD k 0).toNat:Int) != 112)=true:=by
       rw[bne_iff_ne]
       intro h
       exact hc (UInt8.toNat_inj.1 (by rw[show (112:UInt8).toNat=112 from rfl];omega))
      have HNO:=Lib.hid (show ∀j,j < k+1→R.getD j 0≠112 from fun j hj=>by
       rcases Nat.lt_or_eq_of_le (Nat.le_of_lt_succ hj) with h | h
       ·exact hno j h
       ·rw[h];exact hc)
      generalize R.getD k 0=y at *
      clear hno hc
      go_wp2
      go_round
      case rel=>exact⟨k+1,by omega,by go_num,HNO.out⟩
      case measure=>simp[intOf];omega
    ·obtain rfl:k=R.length:=by omega
     have HX:=Lib.hid (show V=none by rw[HMg.out,v0F R (u0I R hno)];rfl)
     clear hno HMg
     go_wp2
     go_ret2
     exact⟨by rw[HX.out];rfl,hBw⟩
theorem z0R (b:Nat):(b0C b).length≤100:=by
 cases hn:nanC b with
 | true=>rw[j0o b hn];simp
 | false =>
  rw[h0q b hn,List.length_append]
  have h1:(if negC b=true then [(45:UInt8)] else []).length≤1:=by split<;>simp
  have h2:(h0c (magC b)).length≤60:=by
   by_cases h0:magC b=0
   ·rw[h0];decide
   ·by_cases hi:magC b=2047*2^52
    ·rw[hi];decide
    ·obtain⟨b1,b2,b3,b4⟩:=i0d b hn h0 hi
     rw[l0T _ h0 hi,List.length_append,List.length_cons]
     have x1:=b0f 10 (by omega) 20 (oddC (sigC (magC b))) (by omega)
     generalize powC (magC b)+(a0V (sigC (magC b)):Int)=P at *
     have x2:(intL P).length≤22:=by
      have:=b0f 10 (by omega) 20 P.natAbs (by omega)
      unfold intL
      split
      ·rw[List.length_cons];omega
      ·omega
     omega
  omega
theorem f0I.later {w w':World} {p:Prd} {A:Option Addr} {c B:Nat} (h:f0I w p A c) (hB:w.heap.size≤B) (hb:Below B w w'):f0I w' p A c :=
 ⟨h.ok,h.names.later hB hb,h.lo,h.hi,h.path,h.sum⟩
theorem q0r (p:Prd) (ho:p.Ok) (hp:p.path.length≤4000) (hs:sumS p.names≤4000):(a0t p).1.length≤6∧(a0t p).2.length≤4000:=by
 by_cases h:(a0t p).2=[]
 ·refine⟨?_,by rw[h];simp⟩
  unfold a0t
  repeat' split
  all_goals simp
 ·rcases c0n p h with ⟨-,e⟩ | ⟨-,e⟩ | ⟨-,e⟩ | ⟨-,e⟩ | ⟨-,e⟩ | ⟨-,e⟩<;>rw[e]<;>refine⟨by dsimp only;decide,?_⟩
  ·have:=g0L p.time ho.time;show (numL 10 p.time).length≤4000;omega
  ·have:=g0L p.time ho.time;show (numL 10 p.time).length≤4000;omega
  ·have:=q0N 44 p.names
   show (b0L p.names).length≤4000
   unfold b0L
   split
   ·omega
   ·simp
  ·exact hp
  ·show (b0t p.net).length≤4000
   unfold b0t
   split
   ·rename_i hc
    have h1:=k0H p.net.a
    have h2:=d0k p.net hc
    have h3:=g0L p.net.n.toNat (by omega)
    rw[List.length_append,List.length_cons];omega
   ·simp
  ·have:=z0R p.cost
   show (b0C p.cost).length≤4000
   omega
theorem p0h (a b:List UInt8):bstr a++({ data:=#[32] } : ByteArray)++bstr b=bstr (a++32 :: b):=by
 rw[show ({ data:=#[32] } : ByteArray)=bstr [32] from rfl,a0r,a0r]
 congr 1
 simp
set_option maxHeartbeats 4000000 in
theorem q0d (p:Prd) (A:Option Addr) (c:Nat) (w:World) (h:f0I w p A c) :
  Calls Tryz.prog 55 #[.agg (prdV p A c).toArray] w fun e w'=>e=.returned (.string (bstr (c0p p)))∧Below w.heap.size w w':=by
 have r1:Row (w.alloc (.cells (prdV p A c).toArray 70)) w.heap.size 70 (prdV p A c):=Row.new w _ _
 have hb1:Below w.heap.size w (w.alloc (.cells (prdV p A c).toArray 70)):=(Below.refl _ w).alloc (Nat.le_refl _) _
 have h1:=h.later (Nat.le_refl _) hb1
 obtain⟨la,lb⟩:=q0r p h.ok h.path h.sum
 have hsz:=Lib.hid (show (Tryz.prog.info? 70).map (·.size)=some (prdV p A c).length by rw[a0Z p h.ok.net.a];exact c0F)
 have K0:=Lib.hid (a0m r1)
 have KK:=Lib.hid (fun w' (hq:Below (w.alloc (.cells (prdV p A c).toArray 70)).heap.size (w.alloc (.cells (prdV p A c).toArray 70)) w')=>a0m (r1.later hq r1.lt))
 have hwd:=Lib.hid (o0G p A c _ h1)
 have hon:=Lib.hid (fun w' (hq:Below (w.alloc (.cells (prdV p A c).toArray 70)).heap.size (w.alloc (.cells (prdV p A c).toArray 70)) w')=>w0I p A c w' (h1.later (Nat.le_refl _) hq))
 have HV:=Lib.hid (show c0p p=if (a0t p).2=[]∨h0J p=false∨511 < (a0t p).1.length+(a0t p).2.length then [] else (a0t p).1++32 :: (a0t p).2 from rfl)
 generalize c0p p=V at *
 generalize h0J p=ok at *
 generalize (a0t p).1=a at *
 generalize (a0t p).2=b at *
 have hza:=a0f a
 have hzb:=a0f b
 have e1:=i0v b
 clear h1 h r1
 generalize prdV p A c=X at *
 have tok:True:=trivial
 by_cases c1:b=[]
 ·have HX:=Lib.hid (HV.out.trans (if_pos (.inl c1)))
  rw[decide_eq_true c1] at e1
  clear HV c1
  go_enter Tryz.func55,Tryz.ntmps55
  go_wp2_with (first
   | (with_reducible refine wpList_load_mid rfl 70 (.tmp 1) rfl w.heap.size 0 rfl X _ K0.out Tryz.underlying70 rfl hsz.out ?_)
   | (go_at_call 84;refine hwd.out.mono ?_;rintro e w2 ⟨rfl,hq⟩;have hb2:=hb1.trans (hq.mono hb1.size)))
  go_ret
  exact⟨by rw[HX.out];rfl,hb2⟩
 rw[decide_eq_false c1] at e1
 cases ok with
 | false =>
  have HX:=Lib.hid (HV.out.trans (if_pos (.inr (.inl rfl))))
  clear HV c1
  go_enter Tryz.func55,Tryz.ntmps55
  go_wp2_with (first
   | (have _t:=tok;with_reducible refine wpList_load_mid rfl 70 (.tmp 1) rfl w.heap.size 0 rfl X _ K0.out Tryz.underlying70 rfl hsz.out ?_;clear tok)
   | (go_at_call 84;refine hwd.out.mono ?_;rintro e w2 ⟨rfl,hq⟩;have hb2:=hb1.trans (hq.mono hb1.size))
   | (with_reducible refine a0L (d:=some 13) ?_ ?_;kernel_rfl;with_reducible refine wpList_load_mid rfl 70 (.tmp 1) rfl w.heap.size 0 rfl X _ (KK.out _ hq) Tryz.underlying70 rfl hsz.out ?_)
   | (go_at_call 85;refine (hon.out _ hq).mono ?_;rintro e w3 ⟨rfl,hq3⟩;have hb3:=hb2.trans (hq3.mono hb2.size)))
  go_ret
  exact⟨by rw[HX.out];rfl,hb3⟩
 | true =>
  by_cases c2:511 < a.length+b.length
  ·have HX:=Lib.hid (HV.out.trans (if_pos (.inr (.inr c2))))
   have a2:(511:Int) < (a.length:Int)+(b.length:Int):=by omega
   clear HV c1 c2
   go_enter Tryz.func55,Tryz.ntmps55
   go_wp2_with (first
    | (have _t:=tok;with_reducible refine wpList_load_mid rfl 70 (.tmp 1) rfl w.heap.size 0 rfl X _ K0.out Tryz.underlying70 rfl hsz.out ?_;clear tok)
    | (go_at_call 84;refine hwd.out.mono ?_;rintro e w2 ⟨rfl,hq⟩;have hb2:=hb1.trans (hq.mono hb1.size))
    | (with_reducible refine a0L (d:=some 13) ?_ ?_;kernel_rfl;with_reducible refine wpList_load_mid rfl 70 (.tmp 1) rfl w.heap.size 0 rfl X _ (KK.out _ hq) Tryz.underlying70 rfl hsz.out ?_)
    | (go_at_call 85;refine (hon.out _ hq).mono ?_;rintro e w3 ⟨rfl,hq3⟩;have hb3:=hb2.trans (hq3.mono hb2.size)))
   go_ret
   exact⟨by rw[HX.out];rfl,hb3⟩
  ·have HX:=Lib.hid (HV.out.trans (if_neg (by rintro (h | h | h);exact c1 h;cases h;exact c2 h)))
   have a2:decide ((511:Int) < (a.length:Int)+(b.length:Int))=false:=decide_eq_false (by omega)
   have a3:(bstr a++({ data:=#[32] } : ByteArray)).size=a.length+1:=by rw[show ({ data:=#[32] } : ByteArray)=bstr [32] from rfl,a0r,a0f];simp
   have a4:({ data:=#[32] } : ByteArray).size=1:=rfl
   clear HV c1 c2
   go_enter Tryz.func55,Tryz.ntmps55
   go_wp2_with (first
    | (have _t:=tok;with_reducible refine wpList_load_mid rfl 70 (.tmp 1) rfl w.heap.size 0 rfl X _ K0.out Tryz.underlying70 rfl hsz.out ?_;clear tok)
    | (go_at_call 84;refine hwd.out.mono ?_;rintro e w2 ⟨rfl,hq⟩;have hb2:=hb1.trans (hq.mono hb1.size))
    | (with_reducible refine a0L (d:=some 13) ?_ ?_;kernel_rfl;with_reducible refine wpList_load_mid rfl 70 (.tmp 1) rfl w.heap.size 0 rfl X _ (KK.out _ hq) Tryz.underlying70 rfl hsz.out ?_)
    | (go_at_call 85;refine (hon.out _ hq).mono ?_;rintro e w3 ⟨rfl,hq3⟩;have hb3:=hb2.trans (hq3.mono hb2.size)))
   go_ret
   exact⟨by rw[HX.out,←p0h];rfl,hb3⟩
theorem m0S (a:Adr) (w:World) :
  Calls Tryz.prog 242 #[.agg (adrV a).toArray] w fun e w'=>e=.returned (.int .i64 (d0B a.v6:Nat))∧Below w.heap.size w w':=by
 obtain⟨w1,hw1⟩:∃w1,w1=w.alloc (.cells (adrV a).toArray 65):=⟨_,rfl⟩
 have hr:Row w1 w.heap.size 65 (adrV a):=by rw[hw1];exact Row.new w _ _
 have hb:Below w.heap.size w w1:=by rw[hw1];exact (Below.refl _ w).alloc (Nat.le_refl _) _
 have hc6:=j0v hr
 obtain⟨V,hV⟩:∃V,V=adrV a:=⟨_,rfl⟩
 rw[←hV] at hw1 ⊢
 clear hV hr
 cases h6:a.v6 with
 | true =>
  rw[h6] at hc6
  go_enter Tryz.func242,Tryz.ntmps242
  subst hw1
  go_wp2
  go_ret
  exact⟨rfl,hb⟩
 | false =>
  rw[h6] at hc6
  go_enter Tryz.func242,Tryz.ntmps242
  subst hw1
  go_wp2
  go_ret
  exact⟨rfl,hb⟩
def j0w (m:Nat):UInt8:=k0N 255 m
theorem h0Z:∀m:Nat,m≤8→bits BinOp.xor IntKind.u8 IntKind.u8.max (255/2^m)=((j0w m).toNat:Int):=by
 have h:∀m:Fin 9,bits BinOp.xor IntKind.u8 IntKind.u8.max (255/2^m.1)=((j0w m.1).toNat:Int):=by decide +kernel
 intro m hm
 exact h ⟨m,by omega⟩
set_option maxHeartbeats 1000000 in
theorem r0J (n:Int) (w:World) :
  Calls Tryz.prog 243 #[.int .i64 n] w fun e w'=>e=.returned (.int .u8 ((j0w (min n.toNat 8)).toNat:Int))∧w=w':=by
 obtain⟨Y,hY⟩:∃Y,Y=j0w (min n.toNat 8):=⟨_,rfl⟩
 rw[←hY]
 have HY:=Lib.hid hY
 clear hY
 by_cases h0:n < 0
 ·have HE:=Lib.hid (show bits BinOp.xor IntKind.u8 IntKind.u8.max 255=(Y.toNat:Int) by
   rw[HY.out,show min n.toNat 8=0 by omega];exact h0Z 0 (by omega))
  have h1:(if n < 0 then (0:Int) else n)=0:=if_pos h0
  have h2:max n 0=0:=by omega
  have h3:min (0:Int) 8=0:=by omega
  go_enter Tryz.func243,Tryz.ntmps243
  go_wp2
  go_ret
  exact⟨by rw[←HE.out];rfl,rfl⟩
 ·by_cases h8:8 < n
  ·have HE:=Lib.hid (show bits BinOp.xor IntKind.u8 IntKind.u8.max 0=(Y.toNat:Int) by
    rw[HY.out,show min n.toNat 8=8 by omega];exact h0Z 8 (by omega))
   have h1:(if n < 0 then (0:Int) else n)=n:=if_neg h0
   have h2:max n 0=n:=by omega
   have h3:min n 8=8:=by omega
   go_enter Tryz.func243,Tryz.ntmps243
   go_wp2
   go_ret
   exact⟨by rw[←HE.out];rfl,rfl⟩
  ·have HE:=Lib.hid (show bits BinOp.xor IntKind.u8 IntKind.u8.max (255/2^n.toNat)=(Y.toNat:Int) by
    rw[HY.out,show min n.toNat 8=n.toNat by omega];exact h0Z _ (by omega))
   have h1:(if n < 0 then (0:Int) else n)=n:=if_neg h0
   have h8':n≤8:=by omega
   have h0':0≤n:=by omega
   have h2:max n 0=n:=by omega
   have h3:min n 8=n:=by omega
   go_enter Tryz.func243,Tryz.ntmps243
   go_wp2
   go_ret
   exact⟨by rw[←HE.out];rfl,rfl⟩
theorem u0j:∀(x:UInt8) (m:Nat),m≤8→bits BinOp.and IntKind.u8 (x.toNat:Int) ((j0w m).toNat:Int)=((k0N x m).toNat:Int):=by
 have h:∀x:Fin 256,∀m:Fin 9,bits BinOp.and IntKind.u8 ((UInt8.ofNat x.1).toNat:Int) ((j0w m.1).toNat:Int)=((k0N (UInt8.ofNat x.1) m.1).toNat:Int):=by decide +kernel
 intro x m hm
 have:=h ⟨x.toNat,x.toNat_lt⟩ ⟨m,by omega⟩
 rwa [UInt8.ofNat_toNat] at this
end Go.Proofs.YtimdhdimhboboaaGreatDoor
