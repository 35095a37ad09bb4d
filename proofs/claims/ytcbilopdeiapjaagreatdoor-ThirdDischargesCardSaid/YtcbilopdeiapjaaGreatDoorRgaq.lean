import Derived.Test.YtcbilopdeiapjaaGreatDoorRgao
set_option maxHeartbeats 16000000
set_option maxRecDepth 100000
open Go.Proofs.Tryz
namespace Go.Proofs.YtcbilopdeiapjaaGreatDoor
open Go Go.RowKit
def g0l (b:Nat):Int:=if negC b then -(magC b:Int) else (magC b:Int)
theorem v0A {x y u v:Int} (h1:x < y↔u < v) (h2:x=y↔u=v):compare x y=compare u v:=by
 show compareOfLessAndEq x y=compareOfLessAndEq u v
 unfold compareOfLessAndEq
 by_cases a:x < y
 ·rw[if_pos a,if_pos (h1.1 a)]
 ·rw[if_neg a,if_neg (fun h=>a (h1.2 h))]
  by_cases b:x=y
  ·rw[if_pos b,if_pos (h2.1 b)]
  ·rw[if_neg b,if_neg (fun h=>b (h2.2 h))]
theorem r0s {x y:Int} (h:x < y):compare x y=.lt:=by
 show compareOfLessAndEq x y=.lt
 unfold compareOfLessAndEq
 rw[if_pos h]
theorem r0r {x y:Int} (h:y < x):compare x y=.gt:=by
 show compareOfLessAndEq x y=.gt
 unfold compareOfLessAndEq
 rw[if_neg (by omega),if_neg (by omega)]
theorem s0m (a b:Nat) (base:Int) (ha:base≤powC a) (hb:base≤powC b) (h:a < b):sigC a*2^(powC a - base).toNat < sigC b*2^(powC b - base).toNat:=by
 have hP:powC a≤powC b:=by unfold powC;split<;>split<;>omega
 obtain⟨k,hk⟩:∃k,k=(powC b - powC a).toNat:=⟨_,rfl⟩
 have e:(powC b - base).toNat=(powC a - base).toNat+k:=by omega
 rw[e,Nat.pow_add,←Nat.mul_assoc,Nat.mul_right_comm]
 refine Nat.mul_lt_mul_of_pos_right ?_ (Nat.pow_pos (by omega))
 by_cases h0:k=0
 ·subst h0
  rw[Nat.pow_zero,Nat.mul_one]
  have hE:powC a=powC b:=by omega
  unfold powC at hE
  unfold sigC
  split at hE<;>split at hE<;>(try split)<;>(try split)<;>omega
 ·have h2:2≤2^k:=by
   have:2^1≤2^k:=Nat.pow_le_pow_right (by omega) (by omega)
   omega
  have hb52:2^52≤sigC b:=by
   unfold sigC
   split
   ·omega
   ·exfalso
    unfold powC at hk hP
    split at hk<;>split at hP<;>omega
  have ha53:sigC a < 2^53:=by unfold sigC;split<;>omega
  have:2^52*2≤sigC b*2^k:=Nat.mul_le_mul hb52 h2
  omega
theorem p0s (a b:Nat) (base:Int) (ha:base≤powC a) (hb:base≤powC b):(sigC a*2^(powC a - base).toNat < sigC b*2^(powC b - base).toNat↔a < b)∧(sigC a*2^(powC a - base).toNat=sigC b*2^(powC b - base).toNat↔a=b):=by
 rcases Nat.lt_trichotomy a b with h | h | h
 ·have:=s0m a b base ha hb h
  exact⟨⟨fun _=>h,fun _=>this⟩,⟨fun e=>by omega,fun e=>by omega⟩⟩
 ·subst h
  exact⟨⟨fun e=>by omega,fun e=>by omega⟩,⟨fun _=>rfl,fun _=>rfl⟩⟩
 ·have:=s0m b a base hb ha h
  exact⟨⟨fun e=>by omega,fun e=>by omega⟩,⟨fun e=>by omega,fun e=>by omega⟩⟩
theorem h0d (b:Nat) (hb:b < 2^64) (h:magC b < 2047*2^52):Ieee.double.read b=.number (negC b) (sigC (magC b)) (powC (magC b)):=by
 have hs:Ieee.double.signWeight=2^63:=rfl
 have hbi:Ieee.double.binade=2^52:=rfl
 have hin:Ieee.double.infRung=2047*2^52:=rfl
 have hl:Ieee.double.leastPlace=-1074:=rfl
 have hn:(b/2^63%2==1)=negC b:=by
  unfold negC
  rw[show b/2^63%2=b/2^63 by omega]
  exact (Bool.eq_iff_iff).2 (by rw[beq_iff_eq,decide_eq_true_iff])
 unfold Ieee.Format.read
 simp only[hs,hbi,hin,hl,hn]
 show (if magC b < 2^52 then _ else if magC b < 2047*2^52 then _ else _)=_
 unfold sigC powC
 by_cases h52:magC b < 2^52
 ·rw[if_pos h52,if_neg (by omega),if_neg (by omega)]
  congr 1
  show magC b=_
  omega
 ·rw[if_neg h52,if_pos h,if_pos (by omega),if_pos (by omega)]
  show Ieee.Datum.number _ (2^52+magC b%2^52) (-1074+((magC b/2^52 - 1:Nat):Int))=_
  congr 1<;>omega
theorem n0h (b:Nat) (hb:b < 2^64) (h:magC b=2047*2^52):Ieee.double.read b=.infinity (negC b):=by
 have hs:Ieee.double.signWeight=2^63:=rfl
 have hbi:Ieee.double.binade=2^52:=rfl
 have hin:Ieee.double.infRung=2047*2^52:=rfl
 have hn:(b/2^63%2==1)=negC b:=by
  unfold negC
  rw[show b/2^63%2=b/2^63 by omega]
  exact (Bool.eq_iff_iff).2 (by rw[beq_iff_eq,decide_eq_true_iff])
 unfold Ieee.Format.read
 simp only[hs,hbi,hin,hn]
 show (if magC b < 2^52 then _ else if magC b < 2047*2^52 then _ else if magC b=2047*2^52 then _ else _)=_
 rw[if_neg (by omega),if_neg (by omega),if_pos h]
theorem s0c (b:Nat) (h:nanC b=true):∃s f,Ieee.double.read b=.nan s f:=by
 have h:=of_decide_eq_true (show decide (2047*2^52 < magC b)=true from h)
 have hs:Ieee.double.signWeight=2^63:=rfl
 have hbi:Ieee.double.binade=2^52:=rfl
 have hin:Ieee.double.infRung=2047*2^52:=rfl
 unfold Ieee.Format.read
 simp only[hs,hbi,hin]
 refine⟨b/2^63%2==1,magC b - 2047*2^52,?_⟩
 show (if magC b < 2^52 then _ else if magC b < 2047*2^52 then _ else if magC b=2047*2^52 then _ else _)=_
 rw[if_neg (by omega),if_neg (by omega),if_neg (by omega)];rfl
theorem shl (m k:Nat):m <<< k=m*2^k:=Nat.shiftLeft_eq m k
theorem s0n (a:Nat):sigC a=0↔a=0:=by
 unfold sigC;split<;>omega
theorem i0H (a b:Nat) (ha:a < 2^64) (hb:b < 2^64):Ieee.double.order a b=if nanC a=true∨nanC b=true then none else some (compare (g0l a) (g0l b)):=by
 unfold Ieee.Format.order
 by_cases na:nanC a=true
 ·obtain⟨s,f,e⟩:=s0c a na
  rw[e,if_pos (.inl na)]
  cases Ieee.double.read b<;>rfl
 ·by_cases nb:nanC b=true
  ·obtain⟨s,f,e⟩:=s0c b nb
   rw[e,if_pos (.inr nb)]
   cases Ieee.double.read a<;>rfl
  ·rw[if_neg (by rintro (h | h);exact na h;exact nb h)]
   have la:magC a≤2047*2^52:=by
    have:¬2047*2^52 < magC a:=fun h=>na (decide_eq_true h)
    omega
   have lb:magC b≤2047*2^52:=by
    have:¬2047*2^52 < magC b:=fun h=>nb (decide_eq_true h)
    omega
   by_cases ia:magC a=2047*2^52
   ·rw[n0h a ha ia]
    by_cases ib:magC b=2047*2^52
    ·rw[n0h b hb ib]
     unfold g0l
     rw[ia,ib]
     cases negC a<;>cases negC b<;>rfl
    ·rw[h0d b hb (by omega)]
     unfold g0l
     show some (if negC a=true then Ordering.lt else Ordering.gt)=_
     congr 1
     cases negC a<;>cases negC b<;>simp only[Bool.false_eq_true,if_true,if_false]
     all_goals first
      | exact (r0r (by omega)).symm
      | exact (r0s (by omega)).symm
   ·rw[h0d a ha (by omega)]
    by_cases ib:magC b=2047*2^52
    ·rw[n0h b hb ib]
     unfold g0l
     show some (if negC b=true then Ordering.gt else Ordering.lt)=_
     congr 1
     cases negC a<;>cases negC b<;>simp only[Bool.false_eq_true,if_true,if_false]
     all_goals first
      | exact (r0r (by omega)).symm
      | exact (r0s (by omega)).symm
    ·rw[h0d b hb (by omega)]
     obtain⟨m1,m2⟩:=p0s (magC a) (magC b) (min (powC (magC a)) (powC (magC b))) (by omega) (by omega)
     have z1:sigC (magC a)*2^(powC (magC a) - min (powC (magC a)) (powC (magC b))).toNat=0↔magC a=0:=by
      rw[Nat.mul_eq_zero,s0n]
      exact⟨fun h=>h.elim id fun h=>absurd h (Nat.ne_of_gt (Nat.pow_pos (by omega))),.inl⟩
     have z2:sigC (magC b)*2^(powC (magC b) - min (powC (magC a)) (powC (magC b))).toNat=0↔magC b=0:=by
      rw[Nat.mul_eq_zero,s0n]
      exact⟨fun h=>h.elim id fun h=>absurd h (Nat.ne_of_gt (Nat.pow_pos (by omega))),.inl⟩
     show some (compare (Ieee.signed (negC a) (sigC (magC a)) _) (Ieee.signed (negC b) (sigC (magC b)) _))=_
     congr 1
     unfold Ieee.signed g0l
     simp only[shl]
     generalize sigC (magC a)*2^(powC (magC a) - min (powC (magC a)) (powC (magC b))).toNat=A at *
     generalize sigC (magC b)*2^(powC (magC b) - min (powC (magC a)) (powC (magC b))).toNat=B at *
     generalize magC a=x at *
     generalize magC b=y at *
     cases negC a<;>cases negC b<;>simp only[Bool.false_eq_true,if_true,if_false]
     all_goals refine v0A ?_ ?_
     all_goals constructor<;>intro h<;>omega
theorem m0Q (M k:Nat) (h:0 < M):(M*2^k).log2=M.log2+k:=by
 have h1:=Nat.log2_self_le (n:=M) (by omega)
 have h2:M < 2^(M.log2+1):=(Nat.log2_lt (by omega)).1 (Nat.lt_succ_self _)
 have hp:0 < 2^k:=Nat.pow_pos (by omega)
 have h3:2^(M.log2+k)≤M*2^k:=by rw[Nat.pow_add];exact Nat.mul_le_mul_right _ h1
 have h4:M*2^k < 2^(M.log2+k+1):=by
  rw[show M.log2+k+1=(M.log2+1)+k by omega,Nat.pow_add]
  exact Nat.mul_lt_mul_of_pos_right h2 hp
 have h0:M*2^k≠0:=Nat.ne_of_gt (Nat.mul_pos h hp)
 have a:(M*2^k).log2 < M.log2+k+1:=(Nat.log2_lt h0).2 h4
 have b:¬(M*2^k).log2 < M.log2+k:=fun h5=>by have:=(Nat.log2_lt h0).1 h5;omega
 omega
theorem n0P (neg:Bool) (M d:Nat) (h:0 < M):Ieee.Toward.even.cut neg (M*2^d) d=M:=by
 unfold Ieee.Toward.cut
 have e:min d ((M*2^d).log2+2)=d:=by rw[m0Q M d h];omega
 have hp:0 < 2^d:=Nat.pow_pos (by omega)
 simp only[e,Nat.one_shiftLeft,Nat.mul_div_cancel _ hp,Nat.mul_mod_left,Nat.mul_zero]
 rw[decide_eq_false (by omega),show ((2^d:Nat)==0)=false from by rw[beq_eq_false_iff_ne];omega]
 rfl
theorem a1K (E M Q:Nat) (hE:E≤2045) (h1:Q≤M) (h2:M < 2*Q):min (E*Q+M) (2047*Q)=(E+1)*Q+M - Q:=by
 have h:E*Q≤2045*Q:=Nat.mul_le_mul_right _ hE
 rw[Nat.add_mul,Nat.one_mul]
 generalize E*Q=X at *
 omega
theorem f0h (neg:Bool) (mag:Nat) (place:Int) (M:Nat) (P:Int) (h:FitC M P)
  (hv:(place≤P∧mag=M*2^(P - place).toNat)∨(P < place∧M=mag*2^(place - P).toNat)) :
  Ieee.double.nearest neg mag place=Ieee.double.word neg (f0s M P):=by
 have hM:0 < M:=by rcases h with ⟨h,_,_⟩ | ⟨h,_,_,_⟩<;>omega
 have hm:0 < mag:=by
  rcases hv with ⟨_,rfl⟩ | ⟨_,e⟩
  ·exact Nat.mul_pos hM (Nat.pow_pos (by omega))
  ·rcases Nat.eq_zero_or_pos mag with h0 | h0
   ·rw[h0,Nat.zero_mul] at e;omega
   ·exact h0
 have hl:place+(mag.log2:Int)=P+(M.log2:Int):=by
  rcases hv with ⟨h1,rfl⟩ | ⟨h1,rfl⟩
  ·rw[m0Q M _ hM];omega
  ·rw[m0Q mag _ hm];omega
 have hlast:max (P+(M.log2:Int) - 52) (-1074)=P:=by
  rcases h with ⟨h1,h2,rfl⟩ | ⟨h1,h2,h3,h4⟩
  ·have:M.log2 < 52:=(Nat.log2_lt (by omega)).2 h2
   omega
  ·have a:M.log2 < 53:=(Nat.log2_lt (by omega)).2 h2
   have b:¬M.log2 < 52:=fun h5=>by have:=(Nat.log2_lt (by omega)).1 h5;omega
   omega
 unfold Ieee.Format.nearest
 rw[if_neg (by omega)]
 have hf:((Ieee.double.fractionBits:Nat):Int)=52:=rfl
 have hlp:Ieee.double.leastPlace=-1074:=rfl
 have hbi:Ieee.double.binade=2^52:=rfl
 have hin:Ieee.double.infRung=2047*2^52:=rfl
 simp only[hf,hlp,hbi,hin,hl,hlast,shl]
 have hk:Ieee.Toward.even.cut neg (mag*2^(place - P).toNat) (P - place).toNat=M:=by
  rcases hv with ⟨h1,rfl⟩ | ⟨h1,rfl⟩
  ·rw[show (place - P).toNat=0 by omega,Nat.pow_zero,Nat.mul_one]
   exact n0P neg M _ hM
  ·have:=n0P neg (mag*2^(place - P).toNat) 0 hM
   rw[Nat.pow_zero,Nat.mul_one] at this
   rw[show (P - place).toNat=0 by omega];exact this
 rw[hk]
 congr 1
 unfold f0s
 rcases h with ⟨h1,h2,rfl⟩ | ⟨h1,h2,h3,h4⟩
 ·rw[if_pos h2,show ((-1074:Int) - -1074).toNat=0 by decide,Nat.zero_mul,Nat.zero_add]
  exact Nat.min_eq_left (by omega)
 ·rw[if_neg (by omega)]
  generalize hE:(P - -1074).toNat=E
  rw[show (P+1075).toNat=E+1 by omega]
  have hE2:E≤2045:=by omega
  exact a1K E M (2^52) hE2 h1 (by omega)
theorem s0d:Ieee.double.read 4607182418800017408=.number false (2^52) (-52):=by decide +kernel
theorem u0c:Ieee.double.read 13830554455654793216=.number true (2^52) (-52):=by decide +kernel
theorem m0T (s:Bool) (x b:Nat) (hx:Ieee.double.read x=.number s (2^52) (-52)) (hb:b < 2^64) (hf:FinC (magC b)):Ieee.double.mul x b=some (Ieee.double.word (s ^^ negC b) (magC b)):=by
 unfold Ieee.Format.mul
 rw[hx,h0d b hb hf.2]
 obtain⟨g1,g2⟩:=l0J (magC b) hf
 show some (Ieee.double.nearest (s ^^ negC b) (2^52*sigC (magC b)) (-52+powC (magC b)))=_
 congr 1
 rw[f0h (s ^^ negC b) _ _ (sigC (magC b)) (powC (magC b)) g1 (.inl ⟨by omega,by rw[show (powC (magC b) - (-52+powC (magC b))).toNat=52 by omega,Nat.mul_comm]⟩),g2]
@[go_sem] theorem c1S (b:Nat) (w:World):(callFunc 120 #[.float .f64 b]).run prog w=.ok (.value (.int .u64 b)) w:=by
 rw[run_callFunc_extern (fn:=Tryz.f120) (e:=Extern.MathFloatBits.float64bits) func120 (by kernel_rfl) (by kernel_rfl) (by kernel_rfl) (by kernel_rfl)];rfl
@[go_sem] theorem c1T (n:Int) (w:World):(callFunc 119 #[.int .u64 n]).run prog w=.ok (.value (.float .f64 n.toNat)) w:=by
 rw[run_callFunc_extern (fn:=Tryz.f119) (e:=Extern.MathFloatBits.float64frombits) func119 (by kernel_rfl) (by kernel_rfl) (by kernel_rfl) (by kernel_rfl)];rfl
theorem w0f (a b:Nat) (w:World):Calls prog 125 #[.float .f64 a,.float .f64 b] w fun e w'=>e=.returned (.bool (decide (a=b)))∧w=w':=by
 go_enter func125,ntmps125
 go_wp2
 go_ret
 refine⟨?_,rfl⟩
 show Ending.returned (.bool ((a:Int)==(b:Int)))=_
 congr 2
 rw[Bool.eq_iff_iff,beq_iff_eq,decide_eq_true_iff]
 omega
theorem m0F (w:World):Calls prog 81 #[.int .i64 1] w fun e w'=>e=.returned (.float .f64 9218868437227405312)∧w=w':=by
 go_enter func81,ntmps81
 go_wp2
 go_ret
 exact⟨rfl,rfl⟩
theorem v0X (w:World):Calls prog 81 #[.int .i64 (-1)] w fun e w'=>e=.returned (.float .f64 18442240474082181120)∧w=w':=by
 go_enter func81,ntmps81
 go_wp2
 go_ret
 exact⟨rfl,rfl⟩
theorem s0X (w:World):Calls prog 80 #[.float .f64 0,.float .f64 13830554455654793216] w fun e w'=>e=.returned (.float .f64 9223372036854775808)∧w=w':=by
 go_enter func80,ntmps80
 go_wp2
 go_ret
 exact⟨rfl,rfl⟩
theorem j0C (a b:Nat) (ha:a < 2^64) (hb:b < 2^64):FloatKind.f64.format.order a b=if nanC a=true∨nanC b=true then none else some (compare (g0l a) (g0l b)):=i0H a b ha hb
theorem i0R (x:Int):compare x x=.eq:=by
 show compareOfLessAndEq x x=.eq
 unfold compareOfLessAndEq
 rw[if_neg (by omega),if_pos rfl]
theorem o0O (a:Nat) (ha:a < 2^64) (h:nanC a=true):FloatKind.f64.format.order a a=none:=by rw[j0C a a ha ha,if_pos (.inl h)]
theorem r0P (a:Nat) (ha:a < 2^64) (h:nanC a=false):FloatKind.f64.format.order a a=some .eq:=by
 rw[j0C a a ha ha,if_neg (by rw[h];simp),i0R]
theorem k0G (b:Nat) (h:nanC b=true):f0q b=(false,0,0):=by unfold f0q;rw[if_pos h]
theorem d0f (b:Nat) (h:nanC b=false) (he:magC b=2047*2^52∨magC b=0):f0q b=(negC b,0,0):=by
 unfold f0q;rw[if_neg (by rw[h];simp),if_pos he]
theorem g0F (b:Nat) (h:nanC b=false) (he:¬(magC b=2047*2^52∨magC b=0)):f0q b=(negC b,oddC (sigC (magC b)),powC (magC b)+a0Z (sigC (magC b))):=by
 unfold f0q;rw[if_neg (by rw[h];simp),if_neg he]
theorem z0p (b:Nat):∃E m:Nat,E < 2048∧m < 2^52∧magC b=E*2^52+m∧b/2^52%2048=E∧b%2^52=m∧magC b/2^52=E∧magC b%2^52=m:=by
 refine⟨b/2^52%2048,b%2^52,by omega,by omega,?_,rfl,rfl,?_,?_⟩
 ·unfold magC;omega
 ·unfold magC;omega
 ·unfold magC;omega
theorem l0h (M k:Nat) (h:0 < M) (hk:M < 2^k):a0Z M≤k:=by
 obtain⟨o1,o2⟩:=d0V M (by omega)
 by_cases hlt:a0Z M≤k
 ·exact hlt
 ·exfalso
  have h1:2^k≤2^a0Z M:=Nat.pow_le_pow_right (by omega) (by omega)
  have h2:2^a0Z M≤oddC M*2^a0Z M:=Nat.le_mul_of_pos_left _ (by omega)
  omega
theorem t0f (b:Nat) (hb:b < 2^64) (w:World):Calls prog 121 #[.float .f64 b] w fun e w'=>e=.returned (.tuple #[.bool (f0q b).1,.int .u64 ((f0q b).2.1:Int),.int .i64 (f0q b).2.2])∧w=w':=by
 obtain⟨E,m,hE,hm,hmag,e1,e2,e3,e4⟩:=z0p b
 have t1:((b:Int)/4503599627370496).tmod 2048=(E:Int):=by rw[Int.tmod_eq_emod_of_nonneg (by omega)];omega
 have t2:((b:Int)).tmod 4503599627370496=(m:Int):=by rw[Int.tmod_eq_emod_of_nonneg (by omega)];omega
 have t3:IntKind.i64.wrap (E:Int)=(E:Int):=by rw[IntKind.wrap_i64];omega
 have hneg:((b:Int)/9223372036854775808==1)=negC b:=by
  unfold negC
  rw[Bool.eq_iff_iff,beq_iff_eq,decide_eq_true_iff];omega
 obtain⟨V,hV⟩:∃V,V=f0q b:=⟨_,rfl⟩
 rw[←hV]
 have HV:=f1D hV
 clear hV
 by_cases hE2:E=2047
 ·subst hE2
  by_cases hm0:m=0
  ·subst hm0
   have hn:nanC b=false:=by unfold nanC;rw[decide_eq_false_iff_not,hmag];omega
   have HW:=f1D (HV.out.trans (d0f b hn (.inl (by rw[hmag]))))
   clear HV hn hmag e1 e2 e3 e4
   generalize negC b=g at *
   go_enter func121,ntmps121
   go_wp2
   go_ret3
   exact⟨by rw[HW.out];rfl,rfl⟩
  ·have hn:nanC b=true:=by unfold nanC;rw[decide_eq_true_iff,hmag];omega
   have HW:=f1D (HV.out.trans (k0G b hn))
   have hm1:(0:Int) < (m:Int):=by omega
   clear HV hn hmag e1 e2 e3 e4
   go_enter func121,ntmps121
   go_wp2
   go_ret3
   exact⟨by rw[HW.out];rfl,rfl⟩
 ·have hn:nanC b=false:=by unfold nanC;rw[decide_eq_false_iff_not,hmag];omega
  have a1:((E:Int)==2047)=false:=by rw[beq_eq_false_iff_ne];omega
  by_cases hE0:E=0
  ·subst hE0
   by_cases hm0:m=0
   ·subst hm0
    have HW:=f1D (HV.out.trans (d0f b hn (.inr (by rw[hmag]))))
    clear HV hn hmag e1 e2 e3 e4
    generalize negC b=g at *
    go_enter func121,ntmps121
    go_wp2
    go_ret3
    exact⟨by rw[HW.out];rfl,rfl⟩
   ·have h0:=g0F b hn (by rw[hmag];omega)
    have hs:sigC (magC b)=m:=by unfold sigC;rw[e3,e4,if_neg (by omega)]
    have hp:powC (magC b)=-1074:=by unfold powC;rw[e3,if_neg (by omega)]
    rw[hs,hp] at h0
    have hm1:((m:Int)==0)=false:=by rw[beq_eq_false_iff_ne];omega
    obtain⟨M0,hM⟩:∃M0,M0=m:=⟨_,rfl⟩
    obtain⟨P0,hP⟩:∃P0:Int,P0=-1074:=⟨_,rfl⟩
    rw[←hM,←hP] at h0
    have hM0:0 < M0:=by omega
    have hM1:M0 < 2^53:=by omega
    have hP0:-1074≤P0:=by omega
    have hP1:P0+a0Z M0≤1100:=by have:=l0h M0 53 hM0 hM1;omega
    have HW:=f1D (HV.out.trans h0)
    have HM:=f1D hM
    have HP:=f1D hP
    clear HV hn hmag e1 e2 e3 e4 hs hp h0 hm0 hM hP
    generalize negC b=g at *
    go_enter func121,ntmps121
    go_wp2
    go_loop [8,9] (fun x y=>∃(M:Nat) (P:Int),0 < M∧M < 2^53∧-1074≤P∧P+a0Z M≤1100∧x=.int .u64 M∧y=.int .i64 P∧oddC M=oddC M0∧P+a0Z M=P0+a0Z M0) (fun x _=>(intOf x).toNat)
    case atStart=>exact⟨M0,P0,hM0,hM1,hP0,hP1,by rw[HM.out],by rw[HP.out],rfl,rfl⟩
    case round =>
     clear hM0 hM1 hP0 hP1
     obtain⟨M,P,h1,h2,h3,h4,rfl,rfl,h5,h6⟩:=hrel
     by_cases hev:M%2=0
     ·have hmod:((M:Int)).tmod 2=0:=by rw[Int.tmod_eq_emod_of_nonneg (by omega)];omega
      have g1:=h0X M (by omega) hev
      have g2:=f0L M (by omega) hev
      obtain⟨q,hq⟩:∃q,q=M/2:=⟨_,rfl⟩
      rw[←hq] at g1 g2
      have hq1:0 < q:=by omega
      have hq2:q < M:=by omega
      have hdiv:(M:Int)/2=(q:Int):=by omega
      have hw:IntKind.i64.wrap (P+1)=P+1:=by rw[IntKind.wrap_i64];omega
      have hwq:IntKind.u64.wrap (q:Int)=(q:Int):=by rw[IntKind.wrap_u64];omega
      have HR:=f1D (show 0 < q∧q < 2^53∧-1074≤P+1∧P+1+a0Z q≤1100∧oddC q=oddC M0∧P+1+a0Z q=P0+a0Z M0 from ⟨hq1,by omega,by omega,by omega,by rw[←g1,h5],by omega⟩)
      have HQ:=f1D hq2
      clear hq g1 g2 h5 h6 hev h4 hq1 hq2
      go_wp2
      go_round
      case rel =>
       obtain⟨r1,r2,r3,r4,r5,r6⟩:=HR.out
       exact⟨q,P+1,r1,r2,r3,r4,rfl,rfl,r5,r6⟩
      case measure =>
       have:=HQ.out
       simp[intOf];omega
     ·have hmod:((M:Int)).tmod 2=1:=by rw[Int.tmod_eq_emod_of_nonneg (by omega)];omega
      have g1:=j0A M (by omega)
      have g2:=g0L M (by omega)
      have HX:=f1D (show V=(g,M,P) by rw[HW.out,←h5,←h6,g1,g2];simp)
      clear g1 g2 h5 h6 hev h4
      go_wp2
      go_ret3
      exact⟨by rw[HX.out];rfl,rfl⟩
  ·have h0:=g0F b hn (by rw[hmag];omega)
   have hs:sigC (magC b)=m+2^52:=by unfold sigC;rw[e3,e4,if_pos (by omega)]
   have hp:powC (magC b)=(E:Int) - 1075:=by unfold powC;rw[e3,if_pos (by omega)]
   rw[hs,hp] at h0
   have a2:((E:Int)==0)=false:=by rw[beq_eq_false_iff_ne];omega
   have a3:(0:Int) < (E:Int):=by omega
   obtain⟨M0,hM⟩:∃M0,M0=m+2^52:=⟨_,rfl⟩
   obtain⟨P0,hP⟩:∃P0:Int,P0=(E:Int) - 1075:=⟨_,rfl⟩
   rw[←hM,←hP] at h0
   have hM0:0 < M0:=by omega
   have hM1:M0 < 2^53:=by omega
   have hP0:-1074≤P0:=by omega
   have hP1:P0+a0Z M0≤1100:=by have:=l0h M0 53 hM0 hM1;omega
   have a4:IntKind.u64.wrap ((m:Int)+4503599627370496)=(M0:Int):=by rw[IntKind.wrap_u64];omega
   have a5:IntKind.i64.wrap ((E:Int) - 1075)=P0:=by rw[IntKind.wrap_i64];omega
   have HW:=f1D (HV.out.trans h0)
   clear HV hn hmag e1 e2 e3 e4 hs hp h0 hM hP
   generalize negC b=g at *
   go_enter func121,ntmps121
   go_wp2
   go_loop [8,9] (fun x y=>∃(M:Nat) (P:Int),0 < M∧M < 2^53∧-1074≤P∧P+a0Z M≤1100∧x=.int .u64 M∧y=.int .i64 P∧oddC M=oddC M0∧P+a0Z M=P0+a0Z M0) (fun x _=>(intOf x).toNat)
   case atStart=>exact⟨M0,P0,hM0,hM1,hP0,hP1,rfl,rfl,rfl,rfl⟩
   case round =>
    clear hM0 hM1 hP0 hP1
    obtain⟨M,P,h1,h2,h3,h4,rfl,rfl,h5,h6⟩:=hrel
    by_cases hev:M%2=0
    ·have hmod:((M:Int)).tmod 2=0:=by rw[Int.tmod_eq_emod_of_nonneg (by omega)];omega
     have g1:=h0X M (by omega) hev
     have g2:=f0L M (by omega) hev
     obtain⟨q,hq⟩:∃q,q=M/2:=⟨_,rfl⟩
     rw[←hq] at g1 g2
     have hq1:0 < q:=by omega
     have hq2:q < M:=by omega
     have hdiv:(M:Int)/2=(q:Int):=by omega
     have hw:IntKind.i64.wrap (P+1)=P+1:=by rw[IntKind.wrap_i64];omega
     have hwq:IntKind.u64.wrap (q:Int)=(q:Int):=by rw[IntKind.wrap_u64];omega
     have HR:=f1D (show 0 < q∧q < 2^53∧-1074≤P+1∧P+1+a0Z q≤1100∧oddC q=oddC M0∧P+1+a0Z q=P0+a0Z M0 from ⟨hq1,by omega,by omega,by omega,by rw[←g1,h5],by omega⟩)
     have HQ:=f1D hq2
     clear hq g1 g2 h5 h6 hev h4 hq1 hq2
     go_wp2
     go_round
     case rel =>
      obtain⟨r1,r2,r3,r4,r5,r6⟩:=HR.out
      exact⟨q,P+1,r1,r2,r3,r4,rfl,rfl,r5,r6⟩
     case measure =>
      have:=HQ.out
      simp[intOf];omega
    ·have hmod:((M:Int)).tmod 2=1:=by rw[Int.tmod_eq_emod_of_nonneg (by omega)];omega
     have g1:=j0A M (by omega)
     have g2:=g0L M (by omega)
     have HX:=f1D (show V=(g,M,P) by rw[HW.out,←h5,←h6,g1,g2];simp)
     clear g1 g2 h5 h6 hev h4
     go_wp2
     go_ret3
     exact⟨by rw[HX.out];rfl,rfl⟩
theorem t0j (n:Nat) (h:n < 10):((hexD n).toNat:Int)=48+n:=by
 unfold hexD
 rw[if_pos h,UInt8.toNat_ofNat']
 omega
theorem m0G (k:Nat):∀(n:Nat) (w:World),n≤k→n < 2^64 →
  Calls prog 122 #[.int .u64 n] w fun e w'=>e=.returned (.string (bstr (numL 10 n)))∧Below w.heap.size w w':=by
 induction k using Nat.strongRecOn with
 | _ k ih =>
  intro n w hk hm
  by_cases hlt:n < 10
  ·have hN:=f1D (a0S 10 n hlt)
   have hlt':(n:Int) < 10:=by omega
   have hd:=t0j n hlt
   generalize hexD n=x at *
   have hw1:IntKind.u64.wrap (48+(n:Int))=48+(n:Int):=by rw[IntKind.wrap_u64];omega
   have hw2:IntKind.u8.wrap (48+(n:Int))=(x.toNat:Int):=by rw[IntKind.wrap_u8];omega
   have hsl:=k0T w [x] #[.int .u8 (x.toNat:Int)] (0,0) rfl 1 rfl
   have hcv:=b0o hsl 1 rfl
   have hb:Below w.heap.size w (w.alloc (.cells #[.int .u8 (x.toNat:Int)] 5 (0,0))):=(Below.refl _ w).alloc (f1F _) _
   clear hsl ih hd
   go_enter func122,ntmps122
   go_wp2_with fail
   go_ret
   exact⟨by rw[hN.out];rfl,hb⟩
  ·have hge:(10:Int)≤(n:Int):=by omega
   have hN:=f1D (b0p 10 n (by omega) (by omega))
   have hq:=f1D (show ∀w',Calls prog 122 #[.int .u64 ((n:Int)/10)] w' fun e w''=>e=.returned (.string (bstr (numL 10 (n/10))))∧Below w'.heap.size w' w'' from fun w'=>ih (n/10) (by omega) (n/10) w' (f1F _) (by omega))
   have hr:=f1D (show ∀w',Calls prog 122 #[.int .u64 ((n:Int)%10)] w' fun e w''=>e=.returned (.string (bstr [hexD (n%10)]))∧Below w'.heap.size w' w'' from by
    rw[←a0S 10 (n%10) (by omega)];exact fun w'=>ih (n%10) (by omega) (n%10) w' (f1F _) (by omega))
   have hY:=b0k 10 (by omega) 62 (n/10) (by omega)
   generalize hXn:numL 10 n=X at *
   generalize numL 10 (n/10)=Y at *
   have hZ:[hexD (n%10)].length=1:=rfl
   generalize [hexD (n%10)]=Z at *
   have hzY:=a0c Y
   have hzZ:=a0c Z
   have hw1:IntKind.u64.wrap ((n:Int)/10)=(n:Int)/10:=by rw[IntKind.wrap_u64];omega
   have hw2:((n:Int)).tmod 10=(n:Int)%10:=Int.tmod_eq_emod_of_nonneg (by omega)
   have tok:True:=trivial
   clear ih hXn
   go_enter func122,ntmps122
   go_wp2_with (first
    | (go_at_call 122;have _t:=tok;refine (hq.out _).mono ?_;rintro e w1 ⟨rfl,hb1⟩;clear tok)
    | (go_at_call 122;refine (hr.out _).mono ?_;rintro e w2 ⟨rfl,hb2⟩))
   go_ret
   exact⟨by rw[hN.out,←a0x];rfl,hb1.trans (hb2.mono hb1.size)⟩
theorem k0I (b:Nat) (h:magC b=0):g0l b=0:=by
 unfold g0l;rw[h];cases negC b<;>rfl
theorem a1z (b:Nat) (h:magC b≠0):g0l b≠0:=by
 unfold g0l;cases negC b<;>simp<;>omega
theorem r0I:nanC 0=false:=by decide
theorem l0O (b:Nat) (hb:b < 2^64) (hn:nanC b=false) (h:magC b=0):FloatKind.f64.format.order b 0=some .eq:=by
 rw[j0C b 0 hb (by omega),if_neg (by rw[hn,r0I];simp),k0I b h,k0I 0 (by decide),i0R]
theorem k0z (b:Nat) (hb:b < 2^64) (hn:nanC b=false) (h:magC b≠0):(FloatKind.f64.format.order b 0=some .lt∨FloatKind.f64.format.order b 0=some .gt):=by
 rw[j0C b 0 hb (by omega),if_neg (by rw[hn,r0I];simp),k0I 0 (by decide)]
 have h0:=a1z b h
 rcases Int.lt_trichotomy (g0l b) 0 with h1 | h1 | h1
 ·exact .inl (by rw[r0s h1])
 ·exact absurd h1 h0
 ·exact .inr (by rw[r0r h1])
theorem j0K (b:Nat) (h:nanC b=true):b0N b=[]:=by unfold b0N;rw[if_pos h]
theorem h0I (b:Nat) (h:nanC b=false):b0N b=(if negC b then [45] else [])++h0t (magC b):=by unfold b0N;rw[if_neg (by rw[h];simp)]
theorem m0v (a:Nat) (h0:a≠0) (h1:a≠2047*2^52):h0t a=numL 10 (oddC (sigC a))++112 :: intL (powC a+a0Z (sigC a)):=by unfold h0t;rw[if_neg h0,if_neg h1]
theorem i0y (b:Nat) (hn:nanC b=false) (h0:magC b≠0) (h1:magC b≠2047*2^52):0 < oddC (sigC (magC b))∧oddC (sigC (magC b)) < 2^53∧-1074≤powC (magC b)+a0Z (sigC (magC b))∧powC (magC b)+a0Z (sigC (magC b))≤1100:=by
 have hle:magC b < 2047*2^52:=by
  unfold nanC at hn
  have:=of_decide_eq_false hn
  omega
 have hf:FinC (magC b):=⟨by omega,hle⟩
 have hs:=h0G _ hf
 obtain⟨g1,-⟩:=l0J _ hf
 obtain⟨o1,o2⟩:=d0V (sigC (magC b)) (by omega)
 have hsl:sigC (magC b) < 2^53:=by rcases g1 with ⟨_,h,_⟩ | ⟨_,h,_,_⟩<;>omega
 have hpow:-1074≤powC (magC b)∧powC (magC b)≤971:=by rcases g1 with ⟨_,_,h⟩ | ⟨_,_,h,h'⟩<;>omega
 have ht:=l0h (sigC (magC b)) 53 hs hsl
 have hle2:oddC (sigC (magC b))≤oddC (sigC (magC b))*2^a0Z (sigC (magC b)):=Nat.le_mul_of_pos_right _ (Nat.pow_pos (by omega))
 rw[←o2] at hle2
 refine⟨by omega,by omega,by omega,by omega⟩
theorem o0g (b:Nat) (hb:b < 2^64) (w:World):Calls prog 82 #[.float .f64 b] w fun e w'=>e=.returned (.string (bstr (b0N b)))∧Below w.heap.size w w':=by
 have hpt:=t0f b hb w
 have tok:True:=trivial
 cases hn:nanC b with
 | true =>
  have o1:=o0O b hb hn
  have HW:=f1D (j0K b hn)
  clear hn hpt
  go_enter func82,ntmps82
  go_wp2
  go_ret
  exact⟨by rw[HW.out];rfl,Below.refl _ _⟩
 | false =>
  have o1:=r0P b hb hn
  by_cases h0:magC b=0
  ·have o2:=l0O b hb hn h0
   have HW:=f1D (show b0N b=(if negC b then [45] else [])++[48] by rw[h0I b hn,h0];rfl)
   rw[d0f b hn (.inr h0)] at hpt
   have HP:=f1D hpt
   clear hpt hn h0
   cases hg:negC b with
   | true =>
    rw[hg] at HP HW
    go_enter func82,ntmps82
    go_wp2_with (go_at_call 121;refine HP.out.mono ?_;rintro e w0 ⟨rfl,rfl⟩)
    go_ret
    exact⟨by rw[HW.out];rfl,Below.refl _ _⟩
   | false =>
    rw[hg] at HP HW
    go_enter func82,ntmps82
    go_wp2_with (go_at_call 121;refine HP.out.mono ?_;rintro e w0 ⟨rfl,rfl⟩)
    go_ret
    exact⟨by rw[HW.out];rfl,Below.refl _ _⟩
  ·have o2:=k0z b hb hn h0
   by_cases hi:magC b=2047*2^52
   ·have HW:=f1D (show b0N b=(if negC b then [45] else [])++[105,110,102] by rw[h0I b hn,hi];rfl)
    rw[d0f b hn (.inl hi)] at hpt
    have HP:=f1D hpt
    clear hpt hn h0 hi
    rcases o2 with o2 | o2
    all_goals cases hg:negC b
    all_goals rw[hg] at HP HW
    all_goals clear hg
    ·go_enter func82,ntmps82
     go_wp2_with (go_at_call 121;refine HP.out.mono ?_;rintro e w0 ⟨rfl,rfl⟩)
     go_ret
     exact⟨by rw[HW.out];rfl,Below.refl _ _⟩
    ·go_enter func82,ntmps82
     go_wp2_with (go_at_call 121;refine HP.out.mono ?_;rintro e w0 ⟨rfl,rfl⟩)
     go_ret
     exact⟨by rw[HW.out];rfl,Below.refl _ _⟩
    ·go_enter func82,ntmps82
     go_wp2_with (go_at_call 121;refine HP.out.mono ?_;rintro e w0 ⟨rfl,rfl⟩)
     go_ret
     exact⟨by rw[HW.out];rfl,Below.refl _ _⟩
    ·go_enter func82,ntmps82
     go_wp2_with (go_at_call 121;refine HP.out.mono ?_;rintro e w0 ⟨rfl,rfl⟩)
     go_ret
     exact⟨by rw[HW.out];rfl,Below.refl _ _⟩
   ·obtain⟨b1,b2,b3,b4⟩:=i0y b hn h0 hi
    have hT:=show b0N b=(if negC b then [45] else [])++(numL 10 (oddC (sigC (magC b)))++112 :: intL (powC (magC b)+a0Z (sigC (magC b)))) by rw[h0I b hn,m0v _ h0 hi]
    rw[g0F b hn (by rintro (h | h);exact hi h;exact h0 h)] at hpt
    generalize oddC (sigC (magC b))=m at *
    generalize powC (magC b)+(a0Z (sigC (magC b)):Int)=P at *
    obtain⟨k,hk⟩:∃k,k=P.natAbs:=⟨_,rfl⟩
    have hn1:=f1D (fun w'=>m0G m m w' (f1F _) (by omega))
    have hn2:=f1D (fun w'=>m0G k k w' (f1F _) (by omega))
    have hX:=b0k 10 (by omega) 20 m (by omega)
    have hY:=b0k 10 (by omega) 20 k (by omega)
    have hzX:=a0c (numL 10 m)
    have hzY:=a0c (numL 10 k)
    have hm0:((m:Int)==0)=false:=by rw[beq_eq_false_iff_ne];omega
    have HP:=f1D hpt
    have HI:=f1D (show intL P=if P < 0 then 45 :: numL 10 k else numL 10 k by rw[hk];rfl)
    have HT:=f1D hT
    clear hpt hn h0 hi hT b1 b2
    generalize intL P=I at *
    generalize numL 10 m=X at *
    generalize numL 10 k=Y at *
    clear o2
    by_cases hp:P < 0
    ·have hw1:IntKind.i64.wrap (-P)=(k:Int):=by rw[IntKind.wrap_i64];omega
     have hw2:IntKind.u64.wrap (k:Int)=(k:Int):=by rw[IntKind.wrap_u64];omega
     have HJ:=f1D (HI.out.trans (if_pos hp))
     clear HI hk
     cases hg:negC b with
     | true =>
      rw[hg] at HP HT
      go_enter func82,ntmps82
      go_wp2_with (first
       | (go_at_call 121;refine HP.out.mono ?_;rintro e w0 ⟨rfl,rfl⟩)
       | (go_at_call 122;have _t:=tok;refine (hn1.out _).mono ?_;rintro e w1 ⟨rfl,hb1⟩;clear tok)
       | (go_at_call 122;refine (hn2.out _).mono ?_;rintro e w2 ⟨rfl,hb2⟩))
      go_ret
      exact⟨by rw[HT.out,HJ.out];show Ending.returned (.string (((bstr [45]++bstr X)++bstr [112,45])++bstr Y))=_;rw[a0x,a0x,a0x];simp,hb1.trans (hb2.mono hb1.size)⟩
     | false =>
      rw[hg] at HP HT
      go_enter func82,ntmps82
      go_wp2_with (first
       | (go_at_call 121;refine HP.out.mono ?_;rintro e w0 ⟨rfl,rfl⟩)
       | (go_at_call 122;have _t:=tok;refine (hn1.out _).mono ?_;rintro e w1 ⟨rfl,hb1⟩;clear tok)
       | (go_at_call 122;refine (hn2.out _).mono ?_;rintro e w2 ⟨rfl,hb2⟩))
      go_ret
      exact⟨by rw[HT.out,HJ.out];show Ending.returned (.string (((bstr []++bstr X)++bstr [112,45])++bstr Y))=_;rw[a0x,a0x,a0x];simp,hb1.trans (hb2.mono hb1.size)⟩
    ·have hp':(0:Int)≤P:=by omega
     have hw2:IntKind.u64.wrap P=(k:Int):=by rw[IntKind.wrap_u64];omega
     have HJ:=f1D (HI.out.trans (if_neg hp))
     clear HI hk hp
     cases hg:negC b with
     | true =>
      rw[hg] at HP HT
      go_enter func82,ntmps82
      go_wp2_with (first
       | (go_at_call 121;refine HP.out.mono ?_;rintro e w0 ⟨rfl,rfl⟩)
       | (go_at_call 122;have _t:=tok;refine (hn1.out _).mono ?_;rintro e w1 ⟨rfl,hb1⟩;clear tok)
       | (go_at_call 122;refine (hn2.out _).mono ?_;rintro e w2 ⟨rfl,hb2⟩))
      go_ret
      exact⟨by rw[HT.out,HJ.out];show Ending.returned (.string (((bstr [45]++bstr X)++bstr [112])++bstr Y))=_;rw[a0x,a0x,a0x];simp,hb1.trans (hb2.mono hb1.size)⟩
     | false =>
      rw[hg] at HP HT
      go_enter func82,ntmps82
      go_wp2_with (first
       | (go_at_call 121;refine HP.out.mono ?_;rintro e w0 ⟨rfl,rfl⟩)
       | (go_at_call 122;have _t:=tok;refine (hn1.out _).mono ?_;rintro e w1 ⟨rfl,hb1⟩;clear tok)
       | (go_at_call 122;refine (hn2.out _).mono ?_;rintro e w2 ⟨rfl,hb2⟩))
      go_ret
      exact⟨by rw[HT.out,HJ.out];show Ending.returned (.string (((bstr []++bstr X)++bstr [112])++bstr Y))=_;rw[a0x,a0x,a0x];simp,hb1.trans (hb2.mono hb1.size)⟩
def b0z (l:List (List UInt8)):List UInt8:=l.flatMap fun w=>47 :: w
theorem n0X (l k:List (List UInt8)):b0z (l++k)=b0z l++b0z k:=by unfold b0z;rw[List.flatMap_append]
theorem n0Z (w:List UInt8):b0z [w]=47 :: w:=by unfold b0z;simp
theorem n0Y (l:List (List UInt8)):b0z l=[]↔l=[]:=by
 cases l with
 | nil=>exact⟨fun _=>rfl,fun _=>rfl⟩
 | cons w l=>constructor<;>intro h<;>cases h
theorem s0W (l:List (List UInt8)) (h:l≠[]):b0z l=b0z l.dropLast++47 :: l.getLast h:=by
 conv=>lhs;rw[←List.dropLast_concat_getLast h]
 rw[n0X,n0Z]
theorem t0t (l:List (List UInt8)):f0t l=if l=[] then [47] else b0z l:=rfl
def h0m (l:List (List UInt8)) (w:List UInt8):Option (List (List UInt8)) :=
 if w=[]∨w=[46] then some l
 else if w=[46,46] then (if l=[] then none else some l.dropLast)
 else if c0l w then some (l++[w]) else none
theorem o0k (l:List (List UInt8)) (w:List UInt8) (ws:List (List UInt8)):goN l (w :: ws)=match h0m l w with
  | none=>none
  | some k=>goN k ws:=by
 rw[goN]
 unfold h0m
 split
 ·rfl
 ·split
  ·split<;>rfl
  ·split<;>rfl
theorem p0S (l k:List (List UInt8)) (w:List UInt8) (hl:∀v∈l,c0l v=true) (h:h0m l w=some k):∀v∈k,c0l v=true:=by
 refine o0l [w] l k hl ?_
 rw[o0k,h];rfl
theorem o0J (w:List UInt8) (h:c0l w=true):w.length≤64:=by
 unfold c0l at h
 simp only[Bool.and_eq_true,decide_eq_true_iff] at h
 exact h.1.1.1.2
theorem u0l (p:List UInt8):b0X p=decide (j0j p=some p):=by
 by_cases h:b0X p=true
 ·rw[h]
  symm
  rw[decide_eq_true_iff]
  obtain⟨r,rfl⟩:=l0Z p h
  by_cases hr:r=[]
  ·subst hr;rfl
  ·have h':(decide (r=[])||(decide (r.length+1≤256)&&(a0g 47 r).all c0l))=true:=h
   rw[decide_eq_false hr,Bool.false_or,Bool.and_eq_true,decide_eq_true_iff,List.all_eq_true] at h'
   obtain⟨h1,h2⟩:=h'
   have he:=f0j 47 r
   have e1:=(k0o (a0g 47 r) he h2).1
   rw[c0H] at e1
   show (match goN [] (a0g 47 r) with
    | none=>none
    | some l=>if (f0t l).length≤256 then some (f0t l) else none)=_
   rw[r0B (a0g 47 r) [] h2,List.nil_append]
   show (if (f0t (a0g 47 r)).length≤256 then some (f0t (a0g 47 r)) else none)=_
   rw[e1,if_pos (by rw[List.length_cons];exact h1)]
 ·have hf:b0X p=false:=by simpa using h
  rw[hf]
  symm
  rw[decide_eq_false_iff_not]
  intro e
  exact h (q0s p p e).1
theorem x0U (c:UInt8):d0s c=(decide (97≤c.toNat∧c.toNat≤122)||decide (65≤c.toNat∧c.toNat≤90)||decide (48≤c.toNat∧c.toNat≤57)||decide (c.toNat=46)||decide (c.toNat=95)||decide (c.toNat=45)):=by
 unfold d0s
 have e:∀d:UInt8,(c==d)=decide (c.toNat=d.toNat):=by
  intro d
  rw[Bool.eq_iff_iff,beq_iff_eq,decide_eq_true_iff]
  exact UInt8.toNat_inj.symm
 rw[e 46,e 95,e 45]
 rfl
theorem x0L (c:UInt8) (w:World):Calls prog 216 #[.int .u8 (c.toNat:Int)] w fun e w'=>e=.returned (.bool (d0s c))∧w=w':=by
 have HV:=f1D (x0U c)
 have hbd:=c.toNat_lt
 generalize d0s c=V at *
 generalize c.toNat=n at *
 have key:∀(b:Bool),V=b→(∀K:Prop,True):=fun _ _ _=>trivial
 clear key
 rcases (show 0≤n∧n≤44∨n=45∨n=46∨n=47∨48≤n∧n≤57∨58≤n∧n≤64∨65≤n∧n≤90∨91≤n∧n≤94∨n=95∨n=96∨97≤n∧n≤122∨123≤n∧n≤255 by omega) with h | h | h | h | h | h | h | h | h | h | h | h
 ·have HW:=f1D (show V=false by rw[HV.out];simp;omega)
  have a0:(n:Int) < 97:=by omega
  have a1:(n:Int)≤122:=by omega
  have a2:(n:Int) < 65:=by omega
  have a3:(n:Int)≤90:=by omega
  have a4:(n:Int) < 48:=by omega
  have a5:(n:Int)≤57:=by omega
  have a6:((n:Int)==46)=false:=by rw[beq_eq_false_iff_ne];omega
  have a7:((n:Int)==95)=false:=by rw[beq_eq_false_iff_ne];omega
  have a8:((n:Int)==45)=false:=by rw[beq_eq_false_iff_ne];omega
  clear HV h hbd
  go_enter func216,ntmps216
  go_wp2
  go_ret
  exact⟨by rw[HW.out];rfl,rfl⟩
 ·have HW:=f1D (show V=true by rw[HV.out];simp;omega)
  have a0:(n:Int) < 97:=by omega
  have a1:(n:Int)≤122:=by omega
  have a2:(n:Int) < 65:=by omega
  have a3:(n:Int)≤90:=by omega
  have a4:(n:Int) < 48:=by omega
  have a5:(n:Int)≤57:=by omega
  have a6:((n:Int)==46)=false:=by rw[beq_eq_false_iff_ne];omega
  have a7:((n:Int)==95)=false:=by rw[beq_eq_false_iff_ne];omega
  have a8:((n:Int)==45)=true:=by rw[beq_iff_eq];omega
  clear HV h hbd
  go_enter func216,ntmps216
  go_wp2
  go_ret
  exact⟨by rw[HW.out];rfl,rfl⟩
 ·have HW:=f1D (show V=true by rw[HV.out];simp;omega)
  have a0:(n:Int) < 97:=by omega
  have a1:(n:Int)≤122:=by omega
  have a2:(n:Int) < 65:=by omega
  have a3:(n:Int)≤90:=by omega
  have a4:(n:Int) < 48:=by omega
  have a5:(n:Int)≤57:=by omega
  have a6:((n:Int)==46)=true:=by rw[beq_iff_eq];omega
  have a7:((n:Int)==95)=false:=by rw[beq_eq_false_iff_ne];omega
  have a8:((n:Int)==45)=false:=by rw[beq_eq_false_iff_ne];omega
  clear HV h hbd
  go_enter func216,ntmps216
  go_wp2
  go_ret
  exact⟨by rw[HW.out];rfl,rfl⟩
 ·have HW:=f1D (show V=false by rw[HV.out];simp;omega)
  have a0:(n:Int) < 97:=by omega
  have a1:(n:Int)≤122:=by omega
  have a2:(n:Int) < 65:=by omega
  have a3:(n:Int)≤90:=by omega
  have a4:(n:Int) < 48:=by omega
  have a5:(n:Int)≤57:=by omega
  have a6:((n:Int)==46)=false:=by rw[beq_eq_false_iff_ne];omega
  have a7:((n:Int)==95)=false:=by rw[beq_eq_false_iff_ne];omega
  have a8:((n:Int)==45)=false:=by rw[beq_eq_false_iff_ne];omega
  clear HV h hbd
  go_enter func216,ntmps216
  go_wp2
  go_ret
  exact⟨by rw[HW.out];rfl,rfl⟩
 ·have HW:=f1D (show V=true by rw[HV.out];simp;omega)
  have a0:(n:Int) < 97:=by omega
  have a1:(n:Int)≤122:=by omega
  have a2:(n:Int) < 65:=by omega
  have a3:(n:Int)≤90:=by omega
  have a4:(48:Int)≤(n:Int):=by omega
  have a5:(n:Int)≤57:=by omega
  have a6:((n:Int)==46)=false:=by rw[beq_eq_false_iff_ne];omega
  have a7:((n:Int)==95)=false:=by rw[beq_eq_false_iff_ne];omega
  have a8:((n:Int)==45)=false:=by rw[beq_eq_false_iff_ne];omega
  clear HV h hbd
  go_enter func216,ntmps216
  go_wp2
  go_ret
  exact⟨by rw[HW.out];rfl,rfl⟩
 ·have HW:=f1D (show V=false by rw[HV.out];simp;omega)
  have a0:(n:Int) < 97:=by omega
  have a1:(n:Int)≤122:=by omega
  have a2:(n:Int) < 65:=by omega
  have a3:(n:Int)≤90:=by omega
  have a4:(48:Int)≤(n:Int):=by omega
  have a5:decide ((n:Int)≤57)=false:=by exact decide_eq_false (by omega)
  have a6:((n:Int)==46)=false:=by rw[beq_eq_false_iff_ne];omega
  have a7:((n:Int)==95)=false:=by rw[beq_eq_false_iff_ne];omega
  have a8:((n:Int)==45)=false:=by rw[beq_eq_false_iff_ne];omega
  clear HV h hbd
  go_enter func216,ntmps216
  go_wp2
  go_ret
  exact⟨by rw[HW.out];rfl,rfl⟩
 ·have HW:=f1D (show V=true by rw[HV.out];simp;omega)
  have a0:(n:Int) < 97:=by omega
  have a1:(n:Int)≤122:=by omega
  have a2:(65:Int)≤(n:Int):=by omega
  have a3:(n:Int)≤90:=by omega
  have a4:(48:Int)≤(n:Int):=by omega
  have a5:decide ((n:Int)≤57)=false:=by exact decide_eq_false (by omega)
  have a6:((n:Int)==46)=false:=by rw[beq_eq_false_iff_ne];omega
  have a7:((n:Int)==95)=false:=by rw[beq_eq_false_iff_ne];omega
  have a8:((n:Int)==45)=false:=by rw[beq_eq_false_iff_ne];omega
  clear HV h hbd
  go_enter func216,ntmps216
  go_wp2
  go_ret
  exact⟨by rw[HW.out];rfl,rfl⟩
 ·have HW:=f1D (show V=false by rw[HV.out];simp;omega)
  have a0:(n:Int) < 97:=by omega
  have a1:(n:Int)≤122:=by omega
  have a2:(65:Int)≤(n:Int):=by omega
  have a3:decide ((n:Int)≤90)=false:=by exact decide_eq_false (by omega)
  have a4:(48:Int)≤(n:Int):=by omega
  have a5:decide ((n:Int)≤57)=false:=by exact decide_eq_false (by omega)
  have a6:((n:Int)==46)=false:=by rw[beq_eq_false_iff_ne];omega
  have a7:((n:Int)==95)=false:=by rw[beq_eq_false_iff_ne];omega
  have a8:((n:Int)==45)=false:=by rw[beq_eq_false_iff_ne];omega
  clear HV h hbd
  go_enter func216,ntmps216
  go_wp2
  go_ret
  exact⟨by rw[HW.out];rfl,rfl⟩
 ·have HW:=f1D (show V=true by rw[HV.out];simp;omega)
  have a0:(n:Int) < 97:=by omega
  have a1:(n:Int)≤122:=by omega
  have a2:(65:Int)≤(n:Int):=by omega
  have a3:decide ((n:Int)≤90)=false:=by exact decide_eq_false (by omega)
  have a4:(48:Int)≤(n:Int):=by omega
  have a5:decide ((n:Int)≤57)=false:=by exact decide_eq_false (by omega)
  have a6:((n:Int)==46)=false:=by rw[beq_eq_false_iff_ne];omega
  have a7:((n:Int)==95)=true:=by rw[beq_iff_eq];omega
  have a8:((n:Int)==45)=false:=by rw[beq_eq_false_iff_ne];omega
  clear HV h hbd
  go_enter func216,ntmps216
  go_wp2
  go_ret
  exact⟨by rw[HW.out];rfl,rfl⟩
 ·have HW:=f1D (show V=false by rw[HV.out];simp;omega)
  have a0:(n:Int) < 97:=by omega
  have a1:(n:Int)≤122:=by omega
  have a2:(65:Int)≤(n:Int):=by omega
  have a3:decide ((n:Int)≤90)=false:=by exact decide_eq_false (by omega)
  have a4:(48:Int)≤(n:Int):=by omega
  have a5:decide ((n:Int)≤57)=false:=by exact decide_eq_false (by omega)
  have a6:((n:Int)==46)=false:=by rw[beq_eq_false_iff_ne];omega
  have a7:((n:Int)==95)=false:=by rw[beq_eq_false_iff_ne];omega
  have a8:((n:Int)==45)=false:=by rw[beq_eq_false_iff_ne];omega
  clear HV h hbd
  go_enter func216,ntmps216
  go_wp2
  go_ret
  exact⟨by rw[HW.out];rfl,rfl⟩
 ·have HW:=f1D (show V=true by rw[HV.out];simp;omega)
  have a0:(97:Int)≤(n:Int):=by omega
  have a1:(n:Int)≤122:=by omega
  have a2:(65:Int)≤(n:Int):=by omega
  have a3:decide ((n:Int)≤90)=false:=by exact decide_eq_false (by omega)
  have a4:(48:Int)≤(n:Int):=by omega
  have a5:decide ((n:Int)≤57)=false:=by exact decide_eq_false (by omega)
  have a6:((n:Int)==46)=false:=by rw[beq_eq_false_iff_ne];omega
  have a7:((n:Int)==95)=false:=by rw[beq_eq_false_iff_ne];omega
  have a8:((n:Int)==45)=false:=by rw[beq_eq_false_iff_ne];omega
  clear HV h hbd
  go_enter func216,ntmps216
  go_wp2
  go_ret
  exact⟨by rw[HW.out];rfl,rfl⟩
 ·have HW:=f1D (show V=false by rw[HV.out];simp;omega)
  have a0:(97:Int)≤(n:Int):=by omega
  have a1:decide ((n:Int)≤122)=false:=by exact decide_eq_false (by omega)
  have a2:(65:Int)≤(n:Int):=by omega
  have a3:decide ((n:Int)≤90)=false:=by exact decide_eq_false (by omega)
  have a4:(48:Int)≤(n:Int):=by omega
  have a5:decide ((n:Int)≤57)=false:=by exact decide_eq_false (by omega)
  have a6:((n:Int)==46)=false:=by rw[beq_eq_false_iff_ne];omega
  have a7:((n:Int)==95)=false:=by rw[beq_eq_false_iff_ne];omega
  have a8:((n:Int)==45)=false:=by rw[beq_eq_false_iff_ne];omega
  clear HV h hbd
  go_enter func216,ntmps216
  go_wp2
  go_ret
  exact⟨by rw[HW.out];rfl,rfl⟩
theorem w0P (s:List UInt8):c0l s=(decide (1≤s.length)&&decide (s.length≤64)&&decide (s≠[46])&&decide (s≠[46,46])&&s.all d0s):=rfl
theorem d1p (s:List UInt8) (k:Nat) (h:k < s.length):(s.drop k).all d0s=(d0s (s.getD k 0)&&(s.drop (k+1)).all d0s):=by
 rw[List.drop_eq_getElem_cons h,List.all_cons,List.getD_eq_getElem?_getD,List.getElem?_eq_getElem h];rfl
theorem p0W (l k:List UInt8):((bstr l).toList==k)=decide (l=k):=by
 rw[a0p,Bool.eq_iff_iff,beq_iff_eq,decide_eq_true_iff]
theorem x0D (s:List UInt8) (hs:s.length≤100000) (w:World):Calls prog 168 #[.string (bstr s)] w fun e w'=>e=.returned (.bool (c0l s))∧w=w':=by
 have hz:=a0c s
 have HV:=f1D (w0P s)
 generalize c0l s=V at *
 by_cases h1:s.length < 1
 ·have HW:=f1D (show V=false by rw[HV.out,decide_eq_false (by omega:¬1≤s.length)];rfl)
  have a1:(s.length:Int) < 1:=by omega
  clear HV
  go_enter func168,ntmps168
  go_wp2
  go_ret
  exact⟨by rw[HW.out];rfl,rfl⟩
 have a1:decide ((s.length:Int) < 1)=false:=decide_eq_false (by omega)
 by_cases h2:64 < s.length
 ·have HW:=f1D (show V=false by rw[HV.out,decide_eq_false (by omega:¬s.length≤64),Bool.and_false];rfl)
  have a2:(64:Int) < (s.length:Int):=by omega
  clear HV
  go_enter func168,ntmps168
  go_wp2
  go_ret
  exact⟨by rw[HW.out];rfl,rfl⟩
 have a2:decide ((64:Int) < (s.length:Int))=false:=decide_eq_false (by omega)
 have e1:=p0W s [46]
 have e2:=p0W s [46,46]
 by_cases h3:s=[46]
 ·have HW:=f1D (show V=false by rw[HV.out,decide_eq_false (fun h=>h h3:¬s≠[46]),Bool.and_false];rfl)
  rw[decide_eq_true h3] at e1
  clear HV h3 e2
  go_enter func168,ntmps168
  go_wp2
  go_ret
  exact⟨by rw[HW.out];rfl,rfl⟩
 rw[decide_eq_false h3] at e1
 by_cases h4:s=[46,46]
 ·have HW:=f1D (show V=false by rw[HV.out,decide_eq_false (fun h=>h h4:¬s≠[46,46]),Bool.and_false];rfl)
  rw[decide_eq_true h4] at e2
  clear HV h4
  go_enter func168,ntmps168
  go_wp2
  go_ret
  exact⟨by rw[HW.out];rfl,rfl⟩
 rw[decide_eq_false h4] at e2
 have HW:=f1D (show V=s.all d0s by rw[HV.out,decide_eq_true (show 1≤s.length by omega),decide_eq_true (show s.length≤64 by omega),decide_eq_true h3,decide_eq_true h4];rfl)
 clear HV h3 h4 h1 h2
 have hcall:=f1D (fun c=>x0L c w)
 go_enter func168,ntmps168
 go_wp2
 clear a1 a2 e1 e2
 go_loop [3] (fun i=>∃k:Nat,k≤s.length∧i=.int .i64 k∧(s.drop k).all d0s=s.all d0s) (fun i=>s.length - (intOf i).toNat)
 case atStart=>exact⟨0,by omega,rfl,rfl⟩
 case round =>
  obtain⟨k,hk,rfl,hf⟩:=hrel
  by_cases hlt:k < s.length
  ·have hlt':(k:Int) < (s.length:Int):=by omega
   have hix:=a0V s k hlt
   have HA:=f1D (d1p s k hlt)
   have HF:=f1D hf
   have hc:=hcall.out (s.getD k 0)
   have HC:=f1D hc
   generalize s.getD k 0=c at *
   clear hf hc
   cases hsg:d0s c with
   | true =>
    have HN:=f1D (show (s.drop (k+1)).all d0s=s.all d0s by rw[←HF.out,HA.out,hsg,Bool.true_and])
    rw[hsg] at HC
    clear HA hsg
    go_wp2_with (go_at_call 216;refine HC.out.mono ?_;rintro e w' ⟨rfl,rfl⟩)
    go_round
    case rel=>exact⟨k+1,by omega,by go_num,HN.out⟩
    case measure=>simp[intOf];omega
   | false =>
    have HN:=f1D (show V=false by rw[HW.out,←HF.out,HA.out,hsg,Bool.false_and])
    rw[hsg] at HC
    clear HA hsg
    go_wp2_with (go_at_call 216;refine HC.out.mono ?_;rintro e w' ⟨rfl,rfl⟩)
    go_ret
    exact⟨by rw[HN.out];rfl,rfl⟩
  ·obtain rfl:k=s.length:=by omega
   have HN:=f1D (show V=true by rw[HW.out,←hf,List.drop_length];rfl)
   clear hf
   go_wp2
   go_ret
   exact⟨by rw[HN.out];rfl,rfl⟩
end Go.Proofs.YtcbilopdeiapjaaGreatDoor
