import Derived.Test.YtjieebmcbpdeiaaGreatDoorRbac
import Derived.Laws.Cover2
import Derived.Laws.FloatArith
import Derived.Test.YtjieebmcbpdeiaaGreatDoorRbaa
import Derived.Laws.Externs
import Derived.ChangeKeysEq
import Derived.Laws.StructEq
import Derived.Test.YtjieebmcbpdeiaaGreatDoorRbab
namespace Go.Proofs.YtjieebmcbpdeiaaGreatDoor
set_option maxRecDepth 100000
open Go Go.RowKit
def rankC (b:Nat):Int:=if negC b then -(magC b:Int) else (magC b:Int)
theorem cmp_congr {x y u v:Int} (h1:x < y↔u < v) (h2:x=y↔u=v):compare x y=compare u v:=by
 show compareOfLessAndEq x y=compareOfLessAndEq u v
 unfold compareOfLessAndEq
 by_cases a:x < y
 ·rw[if_pos a,if_pos (h1.1 a)]
 ·rw[if_neg a,if_neg (fun h=>a (h1.2 h))]
  by_cases b:x=y
  ·rw[if_pos b,if_pos (h2.1 b)]
  ·rw[if_neg b,if_neg (fun h=>b (h2.2 h))]
theorem cmp_lt {x y:Int} (h:x < y):compare x y=.lt:=by
 show compareOfLessAndEq x y=.lt
 unfold compareOfLessAndEq
 rw[if_pos h]
theorem cmp_gt {x y:Int} (h:y < x):compare x y=.gt:=by
 show compareOfLessAndEq x y=.gt
 unfold compareOfLessAndEq
 rw[if_neg (by omega),if_neg (by omega)]
theorem sig_mono (a b:Nat) (base:Int) (ha:base≤powC a) (hb:base≤powC b) (h:a < b):sigC a*2^(powC a - base).toNat < sigC b*2^(powC b - base).toNat:=by
 have hP:powC a≤powC b:=by unfold powC;split<;>split<;>omega
 obtain⟨k,hk⟩:∃k,k=(powC b - powC a).toNat:=⟨_,rfl⟩
 have e:(powC b - base).toNat=(powC a - base).toNat+k:=by omega
 rw[e,Nat.pow_add,←Nat.mul_assoc,Nat.mul_right_comm]
 refine Nat.mul_lt_mul_of_pos_right ?_ (Nat.pow_pos (by omega))
 by_cases h0:k=0
 ·subst h0
  rw[Nat.pow_zero,Nat.mul_one]
  have hE:powC a=powC b:=by omega
  unfold powC at hE
  unfold sigC
  split at hE<;>split at hE<;>(try split)<;>(try split)<;>omega
 ·have h2:2≤2^k:=by
   have:2^1≤2^k:=Nat.pow_le_pow_right (by omega) (by omega)
   omega
  have hb52:2^52≤sigC b:=by
   unfold sigC
   split
   ·omega
   ·exfalso
    unfold powC at hk hP
    split at hk<;>split at hP<;>omega
  have ha53:sigC a < 2^53:=by unfold sigC;split<;>omega
  have:2^52*2≤sigC b*2^k:=Nat.mul_le_mul hb52 h2
  omega
theorem sig_mono_iff (a b:Nat) (base:Int) (ha:base≤powC a) (hb:base≤powC b):(sigC a*2^(powC a - base).toNat < sigC b*2^(powC b - base).toNat↔a < b)∧(sigC a*2^(powC a - base).toNat=sigC b*2^(powC b - base).toNat↔a=b):=by
 rcases Nat.lt_trichotomy a b with h | h | h
 ·have:=sig_mono a b base ha hb h
  exact⟨⟨fun _=>h,fun _=>this⟩,⟨fun e=>by omega,fun e=>by omega⟩⟩
 ·subst h
  exact⟨⟨fun e=>by omega,fun e=>by omega⟩,⟨fun _=>rfl,fun _=>rfl⟩⟩
 ·have:=sig_mono b a base hb ha h
  exact⟨⟨fun e=>by omega,fun e=>by omega⟩,⟨fun e=>by omega,fun e=>by omega⟩⟩
theorem read_fin (b:Nat) (hb:b < 2^64) (h:magC b < 2047*2^52):Ieee.double.read b=.number (negC b) (sigC (magC b)) (powC (magC b)):=by
 have hs:Ieee.double.signWeight=2^63:=rfl
 have hbi:Ieee.double.binade=2^52:=rfl
 have hin:Ieee.double.infRung=2047*2^52:=rfl
 have hl:Ieee.double.leastPlace=-1074:=rfl
 have hn:(b/2^63%2==1)=negC b:=by
  unfold negC
  rw[show b/2^63%2=b/2^63 by omega]
  exact (Bool.eq_iff_iff).2 (by rw[beq_iff_eq,decide_eq_true_iff])
 unfold Ieee.Format.read
 simp only[hs,hbi,hin,hl,hn]
 show (if magC b < 2^52 then _ else if magC b < 2047*2^52 then _ else _)=_
 unfold sigC powC
 by_cases h52:magC b < 2^52
 ·rw[if_pos h52,if_neg (by omega),if_neg (by omega)]
  congr 1
  show magC b=_
  omega
 ·rw[if_neg h52,if_pos h,if_pos (by omega),if_pos (by omega)]
  show Ieee.Datum.number _ (2^52+magC b%2^52) (-1074+((magC b/2^52 - 1:Nat):Int))=_
  congr 1<;>omega
theorem read_inf (b:Nat) (hb:b < 2^64) (h:magC b=2047*2^52):Ieee.double.read b=.infinity (negC b):=by
 have hs:Ieee.double.signWeight=2^63:=rfl
 have hbi:Ieee.double.binade=2^52:=rfl
 have hin:Ieee.double.infRung=2047*2^52:=rfl
 have hn:(b/2^63%2==1)=negC b:=by
  unfold negC
  rw[show b/2^63%2=b/2^63 by omega]
  exact (Bool.eq_iff_iff).2 (by rw[beq_iff_eq,decide_eq_true_iff])
 unfold Ieee.Format.read
 simp only[hs,hbi,hin,hn]
 show (if magC b < 2^52 then _ else if magC b < 2047*2^52 then _ else if magC b=2047*2^52 then _ else _)=_
 rw[if_neg (by omega),if_neg (by omega),if_pos h]
theorem read_nan (b:Nat) (h:nanC b=true):∃s f,Ieee.double.read b=.nan s f:=by
 have h:=of_decide_eq_true (show decide (2047*2^52 < magC b)=true from h)
 have hs:Ieee.double.signWeight=2^63:=rfl
 have hbi:Ieee.double.binade=2^52:=rfl
 have hin:Ieee.double.infRung=2047*2^52:=rfl
 unfold Ieee.Format.read
 simp only[hs,hbi,hin]
 refine⟨b/2^63%2==1,magC b - 2047*2^52,?_⟩
 show (if magC b < 2^52 then _ else if magC b < 2047*2^52 then _ else if magC b=2047*2^52 then _ else _)=_
 rw[if_neg (by omega),if_neg (by omega),if_neg (by omega)];rfl
theorem shl (m k:Nat):m <<< k=m*2^k:=Nat.shiftLeft_eq m k
theorem sig_zero (a:Nat):sigC a=0↔a=0:=by
 unfold sigC;split<;>omega
theorem order_rank (a b:Nat) (ha:a < 2^64) (hb:b < 2^64):Ieee.double.order a b=if nanC a=true∨nanC b=true then none else some (compare (rankC a) (rankC b)):=by
 unfold Ieee.Format.order
 by_cases na:nanC a=true
 ·obtain⟨s,f,e⟩:=read_nan a na
  rw[e,if_pos (.inl na)]
  cases Ieee.double.read b<;>rfl
 ·by_cases nb:nanC b=true
  ·obtain⟨s,f,e⟩:=read_nan b nb
   rw[e,if_pos (.inr nb)]
   cases Ieee.double.read a<;>rfl
  ·rw[if_neg (by rintro (h | h);exact na h;exact nb h)]
   have la:magC a≤2047*2^52:=by
    have:¬2047*2^52 < magC a:=fun h=>na (decide_eq_true h)
    omega
   have lb:magC b≤2047*2^52:=by
    have:¬2047*2^52 < magC b:=fun h=>nb (decide_eq_true h)
    omega
   by_cases ia:magC a=2047*2^52
   ·rw[read_inf a ha ia]
    by_cases ib:magC b=2047*2^52
    ·rw[read_inf b hb ib]
     unfold rankC
     rw[ia,ib]
     cases negC a<;>cases negC b<;>rfl
    ·rw[read_fin b hb (by omega)]
     unfold rankC
     show some (if negC a=true then Ordering.lt else Ordering.gt)=_
     congr 1
     cases negC a<;>cases negC b<;>simp only[Bool.false_eq_true,if_true,if_false]
     all_goals first
      | exact (cmp_gt (by omega)).symm
      | exact (cmp_lt (by omega)).symm
   ·rw[read_fin a ha (by omega)]
    by_cases ib:magC b=2047*2^52
    ·rw[read_inf b hb ib]
     unfold rankC
     show some (if negC b=true then Ordering.gt else Ordering.lt)=_
     congr 1
     cases negC a<;>cases negC b<;>simp only[Bool.false_eq_true,if_true,if_false]
     all_goals first
      | exact (cmp_gt (by omega)).symm
      | exact (cmp_lt (by omega)).symm
    ·rw[read_fin b hb (by omega)]
     obtain⟨m1,m2⟩:=sig_mono_iff (magC a) (magC b) (min (powC (magC a)) (powC (magC b))) (by omega) (by omega)
     have z1:sigC (magC a)*2^(powC (magC a) - min (powC (magC a)) (powC (magC b))).toNat=0↔magC a=0:=by
      rw[Nat.mul_eq_zero,sig_zero]
      exact⟨fun h=>h.elim id fun h=>absurd h (Nat.ne_of_gt (Nat.pow_pos (by omega))),.inl⟩
     have z2:sigC (magC b)*2^(powC (magC b) - min (powC (magC a)) (powC (magC b))).toNat=0↔magC b=0:=by
      rw[Nat.mul_eq_zero,sig_zero]
      exact⟨fun h=>h.elim id fun h=>absurd h (Nat.ne_of_gt (Nat.pow_pos (by omega))),.inl⟩
     show some (compare (Ieee.signed (negC a) (sigC (magC a)) _) (Ieee.signed (negC b) (sigC (magC b)) _))=_
     congr 1
     unfold Ieee.signed rankC
     simp only[shl]
     generalize sigC (magC a)*2^(powC (magC a) - min (powC (magC a)) (powC (magC b))).toNat=A at *
     generalize sigC (magC b)*2^(powC (magC b) - min (powC (magC a)) (powC (magC b))).toNat=B at *
     generalize magC a=x at *
     generalize magC b=y at *
     cases negC a<;>cases negC b<;>simp only[Bool.false_eq_true,if_true,if_false]
     all_goals refine cmp_congr ?_ ?_
     all_goals constructor<;>intro h<;>omega
theorem log2_pow (M k:Nat) (h:0 < M):(M*2^k).log2=M.log2+k:=by
 have h1:=Nat.log2_self_le (n:=M) (by omega)
 have h2:M < 2^(M.log2+1):=(Nat.log2_lt (by omega)).1 (Nat.lt_succ_self _)
 have hp:0 < 2^k:=Nat.pow_pos (by omega)
 have h3:2^(M.log2+k)≤M*2^k:=by rw[Nat.pow_add];exact Nat.mul_le_mul_right _ h1
 have h4:M*2^k < 2^(M.log2+k+1):=by
  rw[show M.log2+k+1=(M.log2+1)+k by omega,Nat.pow_add]
  exact Nat.mul_lt_mul_of_pos_right h2 hp
 have h0:M*2^k≠0:=Nat.ne_of_gt (Nat.mul_pos h hp)
 have a:(M*2^k).log2 < M.log2+k+1:=(Nat.log2_lt h0).2 h4
 have b:¬(M*2^k).log2 < M.log2+k:=fun h5=>by have:=(Nat.log2_lt h0).1 h5;omega
 omega
theorem cut_exact (neg:Bool) (M d:Nat) (h:0 < M):Ieee.Toward.even.cut neg (M*2^d) d=M:=by
 unfold Ieee.Toward.cut
 have e:min d ((M*2^d).log2+2)=d:=by rw[log2_pow M d h];omega
 have hp:0 < 2^d:=Nat.pow_pos (by omega)
 simp only[e,Nat.one_shiftLeft,Nat.mul_div_cancel _ hp,Nat.mul_mod_left,Nat.mul_zero]
 rw[decide_eq_false (by omega),show ((2^d:Nat)==0)=false from by rw[beq_eq_false_iff_ne];omega]
 rfl
theorem rung_min (E M Q:Nat) (hE:E≤2045) (h1:Q≤M) (h2:M < 2*Q):min (E*Q+M) (2047*Q)=(E+1)*Q+M - Q:=by
 have h:E*Q≤2045*Q:=Nat.mul_le_mul_right _ hE
 rw[Nat.add_mul,Nat.one_mul]
 generalize E*Q=X at *
 omega
theorem nearest_fit (neg:Bool) (mag:Nat) (place:Int) (M:Nat) (P:Int) (h:FitC M P)
  (hv:(place≤P∧mag=M*2^(P - place).toNat)∨(P < place∧M=mag*2^(place - P).toNat)) :
  Ieee.double.nearest neg mag place=Ieee.double.word neg (bitsC M P):=by
 have hM:0 < M:=by rcases h with ⟨h,_,_⟩ | ⟨h,_,_,_⟩<;>omega
 have hm:0 < mag:=by
  rcases hv with ⟨_,rfl⟩ | ⟨_,e⟩
  ·exact Nat.mul_pos hM (Nat.pow_pos (by omega))
  ·rcases Nat.eq_zero_or_pos mag with h0 | h0
   ·rw[h0,Nat.zero_mul] at e;omega
   ·exact h0
 have hl:place+(mag.log2:Int)=P+(M.log2:Int):=by
  rcases hv with ⟨h1,rfl⟩ | ⟨h1,rfl⟩
  ·rw[log2_pow M _ hM];omega
  ·rw[log2_pow mag _ hm];omega
 have hlast:max (P+(M.log2:Int) - 52) (-1074)=P:=by
  rcases h with ⟨h1,h2,rfl⟩ | ⟨h1,h2,h3,h4⟩
  ·have:M.log2 < 52:=(Nat.log2_lt (by omega)).2 h2
   omega
  ·have a:M.log2 < 53:=(Nat.log2_lt (by omega)).2 h2
   have b:¬M.log2 < 52:=fun h5=>by have:=(Nat.log2_lt (by omega)).1 h5;omega
   omega
 unfold Ieee.Format.nearest
 rw[if_neg (by omega)]
 have hf:((Ieee.double.fractionBits:Nat):Int)=52:=rfl
 have hlp:Ieee.double.leastPlace=-1074:=rfl
 have hbi:Ieee.double.binade=2^52:=rfl
 have hin:Ieee.double.infRung=2047*2^52:=rfl
 simp only[hf,hlp,hbi,hin,hl,hlast,shl]
 have hk:Ieee.Toward.even.cut neg (mag*2^(place - P).toNat) (P - place).toNat=M:=by
  rcases hv with ⟨h1,rfl⟩ | ⟨h1,rfl⟩
  ·rw[show (place - P).toNat=0 by omega,Nat.pow_zero,Nat.mul_one]
   exact cut_exact neg M _ hM
  ·have:=cut_exact neg (mag*2^(place - P).toNat) 0 hM
   rw[Nat.pow_zero,Nat.mul_one] at this
   rw[show (P - place).toNat=0 by omega];exact this
 rw[hk]
 congr 1
 unfold bitsC
 rcases h with ⟨h1,h2,rfl⟩ | ⟨h1,h2,h3,h4⟩
 ·rw[if_pos h2,show ((-1074:Int) - -1074).toNat=0 by decide,Nat.zero_mul,Nat.zero_add]
  exact Nat.min_eq_left (by omega)
 ·rw[if_neg (by omega)]
  generalize hE:(P - -1074).toNat=E
  rw[show (P+1075).toNat=E+1 by omega]
  have hE2:E≤2045:=by omega
  exact rung_min E M (2^52) hE2 h1 (by omega)
theorem read_one:Ieee.double.read 4607182418800017408=.number false (2^52) (-52):=by decide +kernel
theorem mul_unit (s:Bool) (x b:Nat) (hx:Ieee.double.read x=.number s (2^52) (-52)) (hb:b < 2^64) (hf:FinC (magC b)):Ieee.double.mul x b=some (Ieee.double.word (s ^^ negC b) (magC b)):=by
 unfold Ieee.Format.mul
 rw[hx,read_fin b hb hf.2]
 obtain⟨g1,g2⟩:=fit_of (magC b) hf
 show some (Ieee.double.nearest (s ^^ negC b) (2^52*sigC (magC b)) (-52+powC (magC b)))=_
 congr 1
 rw[nearest_fit (s ^^ negC b) _ _ (sigC (magC b)) (powC (magC b)) g1 (.inl ⟨by omega,by rw[show (powC (magC b) - (-52+powC (magC b))).toNat=52 by omega,Nat.mul_comm]⟩),g2]
@[go_sem] theorem run_f64bits (b:Nat) (w:World):(callFunc 78 #[.float .f64 b]).run Tryz.prog w=.ok (.value (.int .u64 b)) w:=by
 rw[run_callFunc_extern (fn:=Tryz.f78) (e:=Extern.MathFloatBits.float64bits) Tryz.func78 (by kernel_rfl) (by kernel_rfl) (by kernel_rfl) (by kernel_rfl)];rfl
@[go_sem] theorem run_f64from (n:Int) (w:World):(callFunc 23 #[.int .u64 n]).run Tryz.prog w=.ok (.value (.float .f64 n.toNat)) w:=by
 rw[run_callFunc_extern (fn:=Tryz.f23) (e:=Extern.MathFloatBits.float64frombits) Tryz.func23 (by kernel_rfl) (by kernel_rfl) (by kernel_rfl) (by kernel_rfl)];rfl
theorem fsame_any (a b:Nat) (w:World):Calls Tryz.prog 48 #[.float .f64 a,.float .f64 b] w fun e w'=>e=.returned (.bool (decide (a=b)))∧w=w':=by
 go_enter Tryz.func48,Tryz.ntmps48
 go_wp2
 go_ret
 refine⟨?_,rfl⟩
 show Ending.returned (.bool ((a:Int)==(b:Int)))=_
 congr 2
 rw[Bool.eq_iff_iff,beq_iff_eq,decide_eq_true_iff]
 omega
theorem fnan_any (w:World):Calls Tryz.prog 22 #[] w fun e w'=>e=.returned (.float .f64 9221120237041090561)∧w=w':=by
 go_enter Tryz.func22,Tryz.ntmps22
 go_wp2
 go_ret
 exact⟨rfl,rfl⟩
theorem finf_any (w:World):Calls Tryz.prog 96 #[.int .i64 1] w fun e w'=>e=.returned (.float .f64 9218868437227405312)∧w=w':=by
 go_enter Tryz.func96,Tryz.ntmps96
 go_wp2
 go_ret
 exact⟨rfl,rfl⟩
def atMostC (a b:Nat):Bool:=!nanC a&&!nanC b&&decide (rankC a≤rankC b)
theorem order_of (a b:Nat) (ha:a < 2^64) (hb:b < 2^64):FloatKind.f64.format.order a b=if nanC a=true∨nanC b=true then none else some (compare (rankC a) (rankC b)):=order_rank a b ha hb
theorem compare_self (x:Int):compare x x=.eq:=by
 show compareOfLessAndEq x x=.eq
 unfold compareOfLessAndEq
 rw[if_neg (by omega),if_pos rfl]
theorem order_nan (a:Nat) (ha:a < 2^64) (h:nanC a=true):FloatKind.f64.format.order a a=none:=by rw[order_of a a ha ha,if_pos (.inl h)]
theorem order_eq (a:Nat) (ha:a < 2^64) (h:nanC a=false):FloatKind.f64.format.order a a=some .eq:=by
 rw[order_of a a ha ha,if_neg (by rw[h];simp),compare_self]
theorem parts_nan (b:Nat) (h:nanC b=true):partsC b=(false,0,0):=by unfold partsC;rw[if_pos h]
theorem parts_edge (b:Nat) (h:nanC b=false) (he:magC b=2047*2^52∨magC b=0):partsC b=(negC b,0,0):=by
 unfold partsC;rw[if_neg (by rw[h];simp),if_pos he]
theorem parts_fin (b:Nat) (h:nanC b=false) (he:¬(magC b=2047*2^52∨magC b=0)):partsC b=(negC b,oddC (sigC (magC b)),powC (magC b)+twosC (sigC (magC b))):=by
 unfold partsC;rw[if_neg (by rw[h];simp),if_neg he]
theorem twos_le (M k:Nat) (h:0 < M) (hk:M < 2^k):twosC M≤k:=by
 obtain⟨o1,o2⟩:=odd_twos M (by omega)
 by_cases hlt:twosC M≤k
 ·exact hlt
 ·exfalso
  have h1:2^k≤2^twosC M:=Nat.pow_le_pow_right (by omega) (by omega)
  have h2:2^twosC M≤oddC M*2^twosC M:=Nat.le_mul_of_pos_left _ (by omega)
  omega
theorem rank_zero (b:Nat) (h:magC b=0):rankC b=0:=by
 unfold rankC;rw[h];cases negC b<;>rfl
theorem rank_pos (b:Nat) (h:magC b≠0):rankC b≠0:=by
 unfold rankC;cases negC b<;>simp<;>omega
theorem nan_zero:nanC 0=false:=by decide
theorem order_zero (b:Nat) (hb:b < 2^64) (hn:nanC b=false) (h:magC b=0):FloatKind.f64.format.order b 0=some .eq:=by
 rw[order_of b 0 hb (by omega),if_neg (by rw[hn,nan_zero];simp),rank_zero b h,rank_zero 0 (by decide),compare_self]
theorem order_other (b:Nat) (hb:b < 2^64) (hn:nanC b=false) (h:magC b≠0):(FloatKind.f64.format.order b 0=some .lt∨FloatKind.f64.format.order b 0=some .gt):=by
 rw[order_of b 0 hb (by omega),if_neg (by rw[hn,nan_zero];simp),rank_zero 0 (by decide)]
 have h0:=rank_pos b h
 rcases Int.lt_trichotomy (rankC b) 0 with h1 | h1 | h1
 ·exact .inl (by rw[cmp_lt h1])
 ·exact absurd h1 h0
 ·exact .inr (by rw[cmp_gt h1])
theorem text_nan (b:Nat) (h:nanC b=true):textC b=[]:=by unfold textC;rw[if_pos h]
theorem text_of (b:Nat) (h:nanC b=false):textC b=(if negC b then [45] else [])++bodyC (magC b):=by unfold textC;rw[if_neg (by rw[h];simp)]
theorem body_fin (a:Nat) (h0:a≠0) (h1:a≠2047*2^52):bodyC a=numL 10 (oddC (sigC a))++112 :: intL (powC a+twosC (sigC a)):=by unfold bodyC;rw[if_neg h0,if_neg h1]
theorem fin_bounds (b:Nat) (hn:nanC b=false) (h0:magC b≠0) (h1:magC b≠2047*2^52):0 < oddC (sigC (magC b))∧oddC (sigC (magC b)) < 2^53∧-1074≤powC (magC b)+twosC (sigC (magC b))∧powC (magC b)+twosC (sigC (magC b))≤1100:=by
 have hle:magC b < 2047*2^52:=by
  unfold nanC at hn
  have:=of_decide_eq_false hn
  omega
 have hf:FinC (magC b):=⟨by omega,hle⟩
 have hs:=sig_pos _ hf
 obtain⟨g1,-⟩:=fit_of _ hf
 obtain⟨o1,o2⟩:=odd_twos (sigC (magC b)) (by omega)
 have hsl:sigC (magC b) < 2^53:=by rcases g1 with ⟨_,h,_⟩ | ⟨_,h,_,_⟩<;>omega
 have hpow:-1074≤powC (magC b)∧powC (magC b)≤971:=by rcases g1 with ⟨_,_,h⟩ | ⟨_,_,h,h'⟩<;>omega
 have ht:=twos_le (sigC (magC b)) 53 hs hsl
 have hle2:oddC (sigC (magC b))≤oddC (sigC (magC b))*2^twosC (sigC (magC b)):=Nat.le_mul_of_pos_right _ (Nat.pow_pos (by omega))
 rw[←o2] at hle2
 refine⟨by omega,by omega,by omega,by omega⟩
def flatP (l:List (List UInt8)):List UInt8:=l.flatMap fun w=>47 :: w
theorem flatP_app (l k:List (List UInt8)):flatP (l++k)=flatP l++flatP k:=by unfold flatP;rw[List.flatMap_append]
theorem flatP_one (w:List UInt8):flatP [w]=47 :: w:=by unfold flatP;simp
theorem flatP_eq_nil (l:List (List UInt8)):flatP l=[]↔l=[]:=by
 cases l with
 | nil=>exact⟨fun _=>rfl,fun _=>rfl⟩
 | cons w l=>constructor<;>intro h<;>cases h
theorem flatP_last (l:List (List UInt8)) (h:l≠[]):flatP l=flatP l.dropLast++47 :: l.getLast h:=by
 conv=>lhs;rw[←List.dropLast_concat_getLast h]
 rw[flatP_app,flatP_one]
theorem joinP_flat (l:List (List UInt8)):joinP l=if l=[] then [47] else flatP l:=rfl
def alongL (l:List (List UInt8)) (w:List UInt8):Option (List (List UInt8)) :=
 if w=[]∨w=[46] then some l
 else if w=[46,46] then (if l=[] then none else some l.dropLast)
 else if nameL w then some (l++[w]) else none
theorem goN_along (l:List (List UInt8)) (w:List UInt8) (ws:List (List UInt8)):goN l (w :: ws)=match alongL l w with
  | none=>none
  | some k=>goN k ws:=by
 rw[goN]
 unfold alongL
 split
 ·rfl
 ·split
  ·split<;>rfl
  ·split<;>rfl
theorem along_names (l k:List (List UInt8)) (w:List UInt8) (hl:∀v∈l,nameL v=true) (h:alongL l w=some k):∀v∈k,nameL v=true:=by
 refine goN_names [w] l k hl ?_
 rw[goN_along,h];rfl
theorem nameL_len (w:List UInt8) (h:nameL w=true):w.length≤64:=by
 unfold nameL at h
 simp only[Bool.and_eq_true,decide_eq_true_iff] at h
 exact h.1.1.1.2
theorem right_norm (p:List UInt8):rightL p=decide (normL p=some p):=by
 by_cases h:rightL p=true
 ·rw[h]
  symm
  rw[decide_eq_true_iff]
  obtain⟨r,rfl⟩:=right_head p h
  by_cases hr:r=[]
  ·subst hr;rfl
  ·have h':(decide (r=[])||(decide (r.length+1≤256)&&(splitL 47 r).all nameL))=true:=h
   rw[decide_eq_false hr,Bool.false_or,Bool.and_eq_true,decide_eq_true_iff,List.all_eq_true] at h'
   obtain⟨h1,h2⟩:=h'
   have he:=splitL_ne 47 r
   have e1:=(joinP_split (splitL 47 r) he h2).1
   rw[glueL_split] at e1
   show (match goN [] (splitL 47 r) with
    | none=>none
    | some l=>if (joinP l).length≤256 then some (joinP l) else none)=_
   rw[goN_self (splitL 47 r) [] h2,List.nil_append]
   show (if (joinP (splitL 47 r)).length≤256 then some (joinP (splitL 47 r)) else none)=_
   rw[e1,if_pos (by rw[List.length_cons];exact h1)]
 ·have hf:rightL p=false:=by simpa using h
  rw[hf]
  symm
  rw[decide_eq_false_iff_not]
  intro e
  exact h (normL_right p p e).1
theorem namesL_right (p r:List UInt8) (h:rightL p=true) (e:p=47 :: r) (hr:r≠[]):namesL p=splitL 47 r:=by
 subst e
 show (if rightL (47 :: r)=true∧r≠[] then splitL 47 r else [])=_
 rw[if_pos ⟨h,hr⟩]
theorem namesL_off (p:List UInt8) (h:rightL p=false∨p=[47]):namesL p=[]:=by
 rcases h with h | h
 ·unfold namesL
  split
  ·rw[if_neg]
   rintro ⟨h1,-⟩
   rw[h] at h1;cases h1
  ·rfl
 ·subst h;rfl
def underN (top p:List UInt8):Bool:=rightL top&&rightL p&&(decide ((namesL top).length≤(namesL p).length)&&decide (namesL top=(namesL p).take (namesL top).length))
theorem underN_eq (top p:List UInt8):underN top p=underL top p:=by
 unfold underN underL
 by_cases h1:rightL top=true
 ·by_cases h2:rightL p=true
  ·rw[h1,h2,Bool.true_and,Bool.true_and]
   obtain⟨r,rfl⟩:=right_head top h1
   obtain⟨q,rfl⟩:=right_head p h2
   by_cases hr:r=[]
   ·subst hr
    rw[namesL_off [47] (.inr rfl)]
    simp
   ·have n1:=namesL_right _ r h1 rfl hr
    have hL:=splitL_ne 47 r
    have hrl:0 < r.length:=List.length_pos_iff.2 hr
    have hne:(47:UInt8) :: r≠[47]:=fun e=>hr (List.cons.inj e).2
    by_cases hq:q=[]
    ·subst hq
     rw[n1,namesL_off [47] (.inr rfl),decide_eq_false hne,decide_eq_false (show ¬[47]=(47:UInt8) :: r from fun e=>hne e.symm),decide_eq_false (show ¬((47:UInt8) :: r).length < [(47:UInt8)].length by simp)]
     rw[decide_eq_false (show ¬(splitL 47 r).length≤([]:List (List UInt8)).length by
      intro h;exact hL (List.length_eq_zero_iff.1 (Nat.le_zero.1 h)))]
     rfl
    ·have n2:=namesL_right _ q h2 rfl hq
     rw[n1,n2,decide_eq_false hne,Bool.false_or]
     rw[Bool.eq_iff_iff]
     simp only[Bool.and_eq_true,Bool.or_eq_true,decide_eq_true_iff]
     constructor
     ·rintro ⟨-,h4⟩
      have e:splitL 47 q=splitL 47 r++(splitL 47 q).drop (splitL 47 r).length:=by
       conv=>lhs;rw[←List.take_append_drop (splitL 47 r).length (splitL 47 q),←h4]
      by_cases hd:(splitL 47 q).drop (splitL 47 r).length=[]
      ·refine⟨trivial,.inl ?_⟩
       rw[hd,List.append_nil] at e
       rw[←glueL_split 47 q,e,glueL_split]
      ·refine⟨trivial,.inr ?_⟩
       have e2:q=r++47 :: glueL 47 ((splitL 47 q).drop (splitL 47 r).length):=by
        conv=>lhs;rw[←glueL_split 47 q,e,glueL_app 47 _ _ hL hd,glueL_split]
       generalize glueL 47 ((splitL 47 q).drop (splitL 47 r).length)=z at e2
       subst e2
       refine⟨⟨by simp,?_⟩,?_⟩
       ·rw[List.length_cons,List.take_succ_cons,List.take_left'];rfl
       ·rw[List.getD_eq_getElem?_getD,List.length_cons,List.getElem?_cons_succ,List.getElem?_append_right (Nat.le_refl _),Nat.sub_self];rfl
     ·rintro ⟨-,h | ⟨⟨h3,h4⟩,h5⟩⟩
      ·have e:=(List.cons.inj h).2
       subst e
       exact⟨Nat.le_refl _,by rw[List.take_length]⟩
      ·have e:q=r++47 :: q.drop (r.length+1):=by
        rw[List.length_cons,List.take_succ_cons] at h4
        have h4':q.take r.length=r:=(List.cons.inj h4).2
        rw[List.length_cons,List.length_cons] at h3
        have hlt:r.length < q.length:=by omega
        rw[List.length_cons,List.getD_eq_getElem?_getD,List.getElem?_cons_succ,List.getElem?_eq_getElem hlt] at h5
        have h5':q[r.length]=47:=h5
        conv=>lhs;rw[←List.take_append_drop r.length q,h4',List.drop_eq_getElem_cons hlt,h5']
       have e3:splitL 47 q=splitL 47 r++splitL 47 (q.drop (r.length+1)):=by
        conv=>lhs;rw[e]
        exact splitL_app 47 r _
       rw[e3]
       refine⟨by rw[List.length_append];omega,?_⟩
       rw[List.take_left'];rfl
  ·have hf:rightL p=false:=by simpa using h2
   rw[hf,Bool.and_false,Bool.false_and,Bool.false_and]
 ·have hf:rightL top=false:=by simpa using h1
  rw[hf];rfl
theorem names_sum (p:List UInt8):(namesL p).length≤p.length+1:=by
 unfold namesL
 split
 ·split
  ·have:=splitL_len 47 ‹_›;rw[List.length_cons];omega
  ·simp
 ·simp
theorem signB_nat (c:UInt8):signB c=(decide (97≤c.toNat∧c.toNat≤122)||decide (65≤c.toNat∧c.toNat≤90)||decide (48≤c.toNat∧c.toNat≤57)||decide (c.toNat=46)||decide (c.toNat=95)||decide (c.toNat=45)):=by
 unfold signB
 have e:∀d:UInt8,(c==d)=decide (c.toNat=d.toNat):=by
  intro d
  rw[Bool.eq_iff_iff,beq_iff_eq,decide_eq_true_iff]
  exact UInt8.toNat_inj.symm
 rw[e 46,e 95,e 45]
 rfl
set_option maxHeartbeats 2000000 in
theorem rsign_any (c:UInt8) (w:World):Calls Tryz.prog 105 #[.int .u8 (c.toNat:Int)] w fun e w'=>e=.returned (.bool (signB c))∧w=w':=by
 have HV:=Lib.hid (signB_nat c)
 have hbd:=c.toNat_lt
 generalize signB c=V at *
 generalize c.toNat=n at *
 have key:∀(b:Bool),V=b→(∀K:Prop,True):=fun _ _ _=>trivial
 clear key
 rcases (show 0≤n∧n≤44∨n=45∨n=46∨n=47∨48≤n∧n≤57∨58≤n∧n≤64∨65≤n∧n≤90∨91≤n∧n≤94∨n=95∨n=96∨97≤n∧n≤122∨123≤n∧n≤255 by omega) with h | h | h | h | h | h | h | h | h | h | h | h
 ·have HW:=Lib.hid (show V=false by rw[HV.out];simp;omega)
  have a0:(n:Int) < 97:=by omega
  have a1:(n:Int)≤122:=by omega
  have a2:(n:Int) < 65:=by omega
  have a3:(n:Int)≤90:=by omega
  have a4:(n:Int) < 48:=by omega
  have a5:(n:Int)≤57:=by omega
  have a6:((n:Int)==46)=false:=by rw[beq_eq_false_iff_ne];omega
  have a7:((n:Int)==95)=false:=by rw[beq_eq_false_iff_ne];omega
  have a8:((n:Int)==45)=false:=by rw[beq_eq_false_iff_ne];omega
  clear HV h hbd
  go_enter Tryz.func105,Tryz.ntmps105
  go_wp2
  go_ret
  exact⟨by rw[HW.out];rfl,rfl⟩
 ·have HW:=Lib.hid (show V=true by rw[HV.out];simp;omega)
  have a0:(n:Int) < 97:=by omega
  have a1:(n:Int)≤122:=by omega
  have a2:(n:Int) < 65:=by omega
  have a3:(n:Int)≤90:=by omega
  have a4:(n:Int) < 48:=by omega
  have a5:(n:Int)≤57:=by omega
  have a6:((n:Int)==46)=false:=by rw[beq_eq_false_iff_ne];omega
  have a7:((n:Int)==95)=false:=by rw[beq_eq_false_iff_ne];omega
  have a8:((n:Int)==45)=true:=by rw[beq_iff_eq];omega
  clear HV h hbd
  go_enter Tryz.func105,Tryz.ntmps105
  go_wp2
  go_ret
  exact⟨by rw[HW.out];rfl,rfl⟩
 ·have HW:=Lib.hid (show V=true by rw[HV.out];simp;omega)
  have a0:(n:Int) < 97:=by omega
  have a1:(n:Int)≤122:=by omega
  have a2:(n:Int) < 65:=by omega
  have a3:(n:Int)≤90:=by omega
  have a4:(n:Int) < 48:=by omega
  have a5:(n:Int)≤57:=by omega
  have a6:((n:Int)==46)=true:=by rw[beq_iff_eq];omega
  have a7:((n:Int)==95)=false:=by rw[beq_eq_false_iff_ne];omega
  have a8:((n:Int)==45)=false:=by rw[beq_eq_false_iff_ne];omega
  clear HV h hbd
  go_enter Tryz.func105,Tryz.ntmps105
  go_wp2
  go_ret
  exact⟨by rw[HW.out];rfl,rfl⟩
 ·have HW:=Lib.hid (show V=false by rw[HV.out];simp;omega)
  have a0:(n:Int) < 97:=by omega
  have a1:(n:Int)≤122:=by omega
  have a2:(n:Int) < 65:=by omega
  have a3:(n:Int)≤90:=by omega
  have a4:(n:Int) < 48:=by omega
  have a5:(n:Int)≤57:=by omega
  have a6:((n:Int)==46)=false:=by rw[beq_eq_false_iff_ne];omega
  have a7:((n:Int)==95)=false:=by rw[beq_eq_false_iff_ne];omega
  have a8:((n:Int)==45)=false:=by rw[beq_eq_false_iff_ne];omega
  clear HV h hbd
  go_enter Tryz.func105,Tryz.ntmps105
  go_wp2
  go_ret
  exact⟨by rw[HW.out];rfl,rfl⟩
 ·have HW:=Lib.hid (show V=true by rw[HV.out];simp;omega)
  have a0:(n:Int) < 97:=by omega
  have a1:(n:Int)≤122:=by omega
  have a2:(n:Int) < 65:=by omega
  have a3:(n:Int)≤90:=by omega
  have a4:(48:Int)≤(n:Int):=by omega
  have a5:(n:Int)≤57:=by omega
  have a6:((n:Int)==46)=false:=by rw[beq_eq_false_iff_ne];omega
  have a7:((n:Int)==95)=false:=by rw[beq_eq_false_iff_ne];omega
  have a8:((n:Int)==45)=false:=by rw[beq_eq_false_iff_ne];omega
  clear HV h hbd
  go_enter Tryz.func105,Tryz.ntmps105
  go_wp2
  go_ret
  exact⟨by rw[HW.out];rfl,rfl⟩
 ·have HW:=Lib.hid (show V=false by rw[HV.out];simp;omega)
  have a0:(n:Int) < 97:=by omega
  have a1:(n:Int)≤122:=by omega
  have a2:(n:Int) < 65:=by omega
  have a3:(n:Int)≤90:=by omega
  have a4:(48:Int)≤(n:Int):=by omega
  have a5:decide ((n:Int)≤57)=false:=by exact decide_eq_false (by omega)
  have a6:((n:Int)==46)=false:=by rw[beq_eq_false_iff_ne];omega
  have a7:((n:Int)==95)=false:=by rw[beq_eq_false_iff_ne];omega
  have a8:((n:Int)==45)=false:=by rw[beq_eq_false_iff_ne];omega
  clear HV h hbd
  go_enter Tryz.func105,Tryz.ntmps105
  go_wp2
  go_ret
  exact⟨by rw[HW.out];rfl,rfl⟩
 ·have HW:=Lib.hid (show V=true by rw[HV.out];simp;omega)
  have a0:(n:Int) < 97:=by omega
  have a1:(n:Int)≤122:=by omega
  have a2:(65:Int)≤(n:Int):=by omega
  have a3:(n:Int)≤90:=by omega
  have a4:(48:Int)≤(n:Int):=by omega
  have a5:decide ((n:Int)≤57)=false:=by exact decide_eq_false (by omega)
  have a6:((n:Int)==46)=false:=by rw[beq_eq_false_iff_ne];omega
  have a7:((n:Int)==95)=false:=by rw[beq_eq_false_iff_ne];omega
  have a8:((n:Int)==45)=false:=by rw[beq_eq_false_iff_ne];omega
  clear HV h hbd
  go_enter Tryz.func105,Tryz.ntmps105
  go_wp2
  go_ret
  exact⟨by rw[HW.out];rfl,rfl⟩
 ·have HW:=Lib.hid (show V=false by rw[HV.out];simp;omega)
  have a0:(n:Int) < 97:=by omega
  have a1:(n:Int)≤122:=by omega
  have a2:(65:Int)≤(n:Int):=by omega
  have a3:decide ((n:Int)≤90)=false:=by exact decide_eq_false (by omega)
  have a4:(48:Int)≤(n:Int):=by omega
  have a5:decide ((n:Int)≤57)=false:=by exact decide_eq_false (by omega)
  have a6:((n:Int)==46)=false:=by rw[beq_eq_false_iff_ne];omega
  have a7:((n:Int)==95)=false:=by rw[beq_eq_false_iff_ne];omega
  have a8:((n:Int)==45)=false:=by rw[beq_eq_false_iff_ne];omega
  clear HV h hbd
  go_enter Tryz.func105,Tryz.ntmps105
  go_wp2
  go_ret
  exact⟨by rw[HW.out];rfl,rfl⟩
 ·have HW:=Lib.hid (show V=true by rw[HV.out];simp;omega)
  have a0:(n:Int) < 97:=by omega
  have a1:(n:Int)≤122:=by omega
  have a2:(65:Int)≤(n:Int):=by omega
  have a3:decide ((n:Int)≤90)=false:=by exact decide_eq_false (by omega)
  have a4:(48:Int)≤(n:Int):=by omega
  have a5:decide ((n:Int)≤57)=false:=by exact decide_eq_false (by omega)
  have a6:((n:Int)==46)=false:=by rw[beq_eq_false_iff_ne];omega
  have a7:((n:Int)==95)=true:=by rw[beq_iff_eq];omega
  have a8:((n:Int)==45)=false:=by rw[beq_eq_false_iff_ne];omega
  clear HV h hbd
  go_enter Tryz.func105,Tryz.ntmps105
  go_wp2
  go_ret
  exact⟨by rw[HW.out];rfl,rfl⟩
 ·have HW:=Lib.hid (show V=false by rw[HV.out];simp;omega)
  have a0:(n:Int) < 97:=by omega
  have a1:(n:Int)≤122:=by omega
  have a2:(65:Int)≤(n:Int):=by omega
  have a3:decide ((n:Int)≤90)=false:=by exact decide_eq_false (by omega)
  have a4:(48:Int)≤(n:Int):=by omega
  have a5:decide ((n:Int)≤57)=false:=by exact decide_eq_false (by omega)
  have a6:((n:Int)==46)=false:=by rw[beq_eq_false_iff_ne];omega
  have a7:((n:Int)==95)=false:=by rw[beq_eq_false_iff_ne];omega
  have a8:((n:Int)==45)=false:=by rw[beq_eq_false_iff_ne];omega
  clear HV h hbd
  go_enter Tryz.func105,Tryz.ntmps105
  go_wp2
  go_ret
  exact⟨by rw[HW.out];rfl,rfl⟩
 ·have HW:=Lib.hid (show V=true by rw[HV.out];simp;omega)
  have a0:(97:Int)≤(n:Int):=by omega
  have a1:(n:Int)≤122:=by omega
  have a2:(65:Int)≤(n:Int):=by omega
  have a3:decide ((n:Int)≤90)=false:=by exact decide_eq_false (by omega)
  have a4:(48:Int)≤(n:Int):=by omega
  have a5:decide ((n:Int)≤57)=false:=by exact decide_eq_false (by omega)
  have a6:((n:Int)==46)=false:=by rw[beq_eq_false_iff_ne];omega
  have a7:((n:Int)==95)=false:=by rw[beq_eq_false_iff_ne];omega
  have a8:((n:Int)==45)=false:=by rw[beq_eq_false_iff_ne];omega
  clear HV h hbd
  go_enter Tryz.func105,Tryz.ntmps105
  go_wp2
  go_ret
  exact⟨by rw[HW.out];rfl,rfl⟩
 ·have HW:=Lib.hid (show V=false by rw[HV.out];simp;omega)
  have a0:(97:Int)≤(n:Int):=by omega
  have a1:decide ((n:Int)≤122)=false:=by exact decide_eq_false (by omega)
  have a2:(65:Int)≤(n:Int):=by omega
  have a3:decide ((n:Int)≤90)=false:=by exact decide_eq_false (by omega)
  have a4:(48:Int)≤(n:Int):=by omega
  have a5:decide ((n:Int)≤57)=false:=by exact decide_eq_false (by omega)
  have a6:((n:Int)==46)=false:=by rw[beq_eq_false_iff_ne];omega
  have a7:((n:Int)==95)=false:=by rw[beq_eq_false_iff_ne];omega
  have a8:((n:Int)==45)=false:=by rw[beq_eq_false_iff_ne];omega
  clear HV h hbd
  go_enter Tryz.func105,Tryz.ntmps105
  go_wp2
  go_ret
  exact⟨by rw[HW.out];rfl,rfl⟩
theorem nameL_iff (s:List UInt8):nameL s=(decide (1≤s.length)&&decide (s.length≤64)&&decide (s≠[46])&&decide (s≠[46,46])&&s.all signB):=rfl
theorem all_at (s:List UInt8) (k:Nat) (h:k < s.length):(s.drop k).all signB=(signB (s.getD k 0)&&(s.drop (k+1)).all signB):=by
 rw[List.drop_eq_getElem_cons h,List.all_cons,List.getD_eq_getElem?_getD,List.getElem?_eq_getElem h];rfl
theorem bstr_is (l k:List UInt8):((bstr l).toList==k)=decide (l=k):=by
 rw[bstr_toList,Bool.eq_iff_iff,beq_iff_eq,decide_eq_true_iff]
set_option maxHeartbeats 2000000 in
theorem rname_any (s:List UInt8) (hs:s.length≤100000) (w:World):Calls Tryz.prog 67 #[.string (bstr s)] w fun e w'=>e=.returned (.bool (nameL s))∧w=w':=by
 have hz:=size_bstr s
 have HV:=Lib.hid (nameL_iff s)
 generalize nameL s=V at *
 by_cases h1:s.length < 1
 ·have HW:=Lib.hid (show V=false by rw[HV.out,decide_eq_false (by omega:¬1≤s.length)];rfl)
  have a1:(s.length:Int) < 1:=by omega
  clear HV
  go_enter Tryz.func67,Tryz.ntmps67
  go_wp2
  go_ret
  exact⟨by rw[HW.out];rfl,rfl⟩
 have a1:decide ((s.length:Int) < 1)=false:=decide_eq_false (by omega)
 by_cases h2:64 < s.length
 ·have HW:=Lib.hid (show V=false by rw[HV.out,decide_eq_false (by omega:¬s.length≤64),Bool.and_false];rfl)
  have a2:(64:Int) < (s.length:Int):=by omega
  clear HV
  go_enter Tryz.func67,Tryz.ntmps67
  go_wp2
  go_ret
  exact⟨by rw[HW.out];rfl,rfl⟩
 have a2:decide ((64:Int) < (s.length:Int))=false:=decide_eq_false (by omega)
 have e1:=bstr_is s [46]
 have e2:=bstr_is s [46,46]
 by_cases h3:s=[46]
 ·have HW:=Lib.hid (show V=false by rw[HV.out,decide_eq_false (fun h=>h h3:¬s≠[46]),Bool.and_false];rfl)
  rw[decide_eq_true h3] at e1
  clear HV h3 e2
  go_enter Tryz.func67,Tryz.ntmps67
  go_wp2
  go_ret
  exact⟨by rw[HW.out];rfl,rfl⟩
 rw[decide_eq_false h3] at e1
 by_cases h4:s=[46,46]
 ·have HW:=Lib.hid (show V=false by rw[HV.out,decide_eq_false (fun h=>h h4:¬s≠[46,46]),Bool.and_false];rfl)
  rw[decide_eq_true h4] at e2
  clear HV h4
  go_enter Tryz.func67,Tryz.ntmps67
  go_wp2
  go_ret
  exact⟨by rw[HW.out];rfl,rfl⟩
 rw[decide_eq_false h4] at e2
 have HW:=Lib.hid (show V=s.all signB by rw[HV.out,decide_eq_true (show 1≤s.length by omega),decide_eq_true (show s.length≤64 by omega),decide_eq_true h3,decide_eq_true h4];rfl)
 clear HV h3 h4 h1 h2
 have hcall:=Lib.hid (fun c=>rsign_any c w)
 go_enter Tryz.func67,Tryz.ntmps67
 go_wp2
 clear a1 a2 e1 e2
 go_loop [3] (fun i=>∃k:Nat,k≤s.length∧i=.int .i64 k∧(s.drop k).all signB=s.all signB) (fun i=>s.length - (intOf i).toNat)
 case atStart=>exact⟨0,by omega,rfl,rfl⟩
 case round =>
  obtain⟨k,hk,rfl,hf⟩:=hrel
  by_cases hlt:k < s.length
  ·have hlt':(k:Int) < (s.length:Int):=by omega
   have hix:=index_bstr s k hlt
   have HA:=Lib.hid (all_at s k hlt)
   have HF:=Lib.hid hf
   have hc:=hcall.out (s.getD k 0)
   have HC:=Lib.hid hc
   generalize s.getD k 0=c at *
   clear hf hc
   cases hsg:signB c with
   | true =>
    have HN:=Lib.hid (show (s.drop (k+1)).all signB=s.all signB by rw[←HF.out,HA.out,hsg,Bool.true_and])
    rw[hsg] at HC
    clear HA hsg
    go_wp2_with (go_at_call 105;refine HC.out.mono ?_;rintro e w' ⟨rfl,rfl⟩)
    go_round
    case rel=>exact⟨k+1,by omega,by go_num,HN.out⟩
    case measure=>simp[intOf];omega
   | false =>
    have HN:=Lib.hid (show V=false by rw[HW.out,←HF.out,HA.out,hsg,Bool.false_and])
    rw[hsg] at HC
    clear HA hsg
    go_wp2_with (go_at_call 105;refine HC.out.mono ?_;rintro e w' ⟨rfl,rfl⟩)
    go_ret
    exact⟨by rw[HN.out];rfl,rfl⟩
  ·obtain rfl:k=s.length:=by omega
   have HN:=Lib.hid (show V=true by rw[HW.out,←hf,List.drop_length];rfl)
   clear hf
   go_wp2
   go_ret
   exact⟨by rw[HN.out];rfl,rfl⟩
set_option maxHeartbeats 2000000 in
theorem rpieces_any (s:List UInt8) (hs:s.length≤1000) (w:World) :
  Calls Tryz.prog 66 #[.string (bstr s)] w fun e w'=>∃v,e=.returned v∧w'.ownsRow w.heap.size 9 1 v (splitL 47 s).length (strsV (splitL 47 s))∧Below w.heap.size w w':=by
 obtain⟨i0,hi,hz0,hz1,hz2⟩:=info_parts infoStr
 have hz:=size_bstr s
 have hown0:(w.alloc (.cells #[] 9)).ownsRow w.heap.size 9 1 (.slice (some ⟨w.heap.size,0,none⟩) 0 0) 0 (strsV []):=World.ownsRow_lit w (e:=9) (size:=1) #[] 0 (Nat.le_refl _) (by unfold maxLen;omega) rfl
 have hb0:Below w.heap.size w (w.alloc (.cells #[] 9)):=(Below.refl _ w).alloc (Nat.le_refl _) _
 go_enter Tryz.func66,Tryz.ntmps66
 go_wp2
 go_loopw [3,4,5] (fun v f i wr=>∃(out:List (List UInt8)) (g k:Nat),k≤s.length+1∧g≤k∧i=.int .i64 k∧f=.int .i64 g∧wr.ownsRow w.heap.size 9 1 v out.length (strsV out)∧Below w.heap.size w wr∧out.length≤k ∧
   (k≤s.length∧out++splitL 47 (s.drop g)=splitL 47 s∧(∀c∈(s.drop g).take (k - g),c≠47)∨k=s.length+1∧out=splitL 47 s)) (fun _ _ i _=>s.length+1 - (intOf i).toNat)
 case atStart=>exact⟨[],0,0,by omega,by omega,rfl,rfl,hown0,hb0,by simp,.inl ⟨by omega,rfl,by simp⟩⟩
 case round =>
  clear hown0 hb0
  obtain⟨out,g,k,hk,hg,rfl,rfl,hown,hb,hol,hcase⟩:=hrel
  by_cases hlt:k≤s.length
  ·obtain⟨-,hsp,hno⟩:k≤s.length∧out++splitL 47 (s.drop g)=splitL 47 s∧(∀c∈(s.drop g).take (k - g),c≠47):=by
    rcases hcase with h | ⟨h,_⟩
    ·exact h
    ·omega
   have hlt':(k:Int)≤(s.length:Int):=by omega
   have hg':(g:Int)≤(k:Int):=by omega
   have hex:=extract_bstr12 s g k
   have hbs:=hb.size
   have n1:out.length+1≤maxLen:=by unfold maxLen;omega
   have n2:(out.length+1)*16≤140737488355328:=by omega
   by_cases he:k=s.length
   ·have heb:((k:Int)==(s.length:Int))=true:=by rw[he];exact beq_self_eq_true _
    have HF:=Lib.hid (show out++[(s.drop g).take (k - g)]=splitL 47 s by
     have e:(s.drop g).take (k - g)=s.drop g:=by rw[List.take_of_length_le];rw[List.length_drop];omega
     rw[e] at hno ⊢
     rw[←hsp,splitL_end 47 _ hno])
    have HK:=Lib.hid he
    generalize (s.drop g).take (k - g)=p at *
    clear hcase hsp hno he
    have hslp:Sl (wr.alloc (.cells #[.string (bstr p)] 9)) (some ⟨wr.heap.size,0,none⟩) 1 (strsV [p]):=sl_made (strsV [p]) rfl 1 rfl
    have howna:=hown.alloc (.cells #[.string (bstr p)] 9)
    have hbe:=hb.alloc hb.size (.cells #[.string (bstr p)] 9)
    go_wp2_with (at_builtin;refine wpList_append_sl rfl (.tmp 23) (.tmp 28) 23 rfl w.heap.size 9 i0 _ 16 Tryz.underlying23 hi hz0 hz1 hz2 rfl _ out.length (strsV out) rfl howna (some ⟨wr.heap.size,0,none⟩) 1 1 (strsV [p]) rfl rfl hslp (strsV_one _) n1 n2 hbe.size ?_;intro v3 w3 hown3 hg3;have hb3:=hbe.grown hg3 hbe.size (fun j hj=>(howna.lt j hj).1);rw[←strsV_append] at hown3)
    go_roundw
    case rel=>exact⟨out++[p],k+1,k+1,by omega,by omega,by go_num,by go_num,by rw[List.length_append];exact hown3,hb3,by rw[List.length_append];simp;omega,.inr ⟨by rw[HK.out],HF.out⟩⟩
    case measure=>simp[intOf];omega
   ·have heb:((k:Int)==(s.length:Int))=false:=by rw[beq_eq_false_iff_ne];omega
    have hlt2:k < s.length:=by omega
    have hix:=index_bstr s k hlt2
    by_cases hc:s.getD k 0=47
    ·have e2:splitL 47 (s.drop g)=(s.drop g).take (k - g) :: splitL 47 (s.drop (k+1)):=by
      conv=>lhs;rw[drop_piece s g k hg hlt2,hc]
      exact splitL_hit 47 _ _ hno
     have HF:=Lib.hid (show (out++[(s.drop g).take (k - g)])++splitL 47 (s.drop (k+1))=splitL 47 s by
      rw[←hsp,e2,List.append_assoc];rfl)
     rw[hc] at hix
     generalize (s.drop g).take (k - g)=p at *
     clear hcase hsp hno hc e2
     have hslp:Sl (wr.alloc (.cells #[.string (bstr p)] 9)) (some ⟨wr.heap.size,0,none⟩) 1 (strsV [p]):=sl_made (strsV [p]) rfl 1 rfl
     have howna:=hown.alloc (.cells #[.string (bstr p)] 9)
     have hbe:=hb.alloc hb.size (.cells #[.string (bstr p)] 9)
     go_wp2_with (at_builtin;refine wpList_append_sl rfl (.tmp 23) (.tmp 28) 23 rfl w.heap.size 9 i0 _ 16 Tryz.underlying23 hi hz0 hz1 hz2 rfl _ out.length (strsV out) rfl howna (some ⟨wr.heap.size,0,none⟩) 1 1 (strsV [p]) rfl rfl hslp (strsV_one _) n1 n2 hbe.size ?_;intro v3 w3 hown3 hg3;have hb3:=hbe.grown hg3 hbe.size (fun j hj=>(howna.lt j hj).1);rw[←strsV_append] at hown3)
     go_roundw
     case rel=>exact⟨out++[p],k+1,k+1,by omega,by omega,by go_num,by go_num,by rw[List.length_append];exact hown3,hb3,by rw[List.length_append];simp;omega,.inl ⟨by omega,HF.out,by simp⟩⟩
     case measure=>simp[intOf];omega
    ·have HN:=Lib.hid (show ∀c∈(s.drop g).take (k+1 - g),c≠47 by
      rw[take_piece s g k hg hlt2]
      intro c hcm
      rcases List.mem_append.1 hcm with h | h
      ·exact hno c h
      ·rw[List.mem_singleton.1 h];exact hc)
     have HS:=Lib.hid hsp
     have hxc:(((s.getD k 0).toNat:Int)==47)=false:=by
      rw[beq_eq_false_iff_ne]
      intro h
      exact hc (UInt8.toNat_inj.1 (by rw[show (47:UInt8).toNat=47 from rfl];omega))
     generalize s.getD k 0=y at *
     clear hcase hsp hno hc hex
     go_wp2
     go_roundw
     case rel=>exact⟨out,g,k+1,by omega,by omega,by go_num,rfl,hown,hb,by omega,.inl ⟨by omega,HS.out,HN.out⟩⟩
     case measure=>simp[intOf];omega
  ·obtain rfl:k=s.length+1:=by omega
   obtain rfl:out=splitL 47 s:=by
    rcases hcase with ⟨h,_⟩ | ⟨_,h⟩
    ·omega
    ·exact h
   have hgt:(s.length:Int) < ((s.length+1:Nat):Int):=by omega
   clear hcase
   go_wp2
   go_ret
   exact⟨_,rfl,hown,hb⟩
theorem tail_bstr (x:UInt8) (r:List UInt8) (n:Nat) (h:n=r.length+1):(bstr (x :: r)).extract 1 n=bstr r:=by
 subst h
 rw[extract_bstr12,List.drop_succ_cons,List.drop_zero,Nat.add_sub_cancel,List.take_length]
def prdV (p:Prd) (A:Option Addr) (c:Nat):List Value:=[.int .i64 p.kind,.int .u64 (p.time:Int),.slice A p.names.length c,.string (bstr p.path)]++(rngV p.net++[.float .f64 p.cost])
theorem length_prdV (p:Prd) (h:p.net.a.Ok) (A:Option Addr) (c:Nat):(prdV p A c).length=23:=by
 unfold prdV
 rw[List.length_append,List.length_append,length_rngV' _ h];rfl
theorem size_prd:(Tryz.prog.info? 31).map (·.size)=some 23:=by kernel_rfl
theorem prd_cells {w:World} {g:Nat} {t:TypeId} {p:Prd} {A:Option Addr} {c:Nat} (hn:p.net.a.Ok) (h:Row w g t (prdV p A c)) :
  w.cell? ⟨g,0,none⟩=some (.int .i64 p.kind)∧w.cell? ⟨g,1,none⟩=some (.int .u64 (p.time:Int))∧w.cell? ⟨g,2,none⟩=some (.slice A p.names.length c)∧w.cell? ⟨g,3,none⟩=some (.string (bstr p.path)) ∧
  w.rangeAt g 4 (rngV p.net)∧w.cell? ⟨g,22,none⟩=some (.float .f64 p.cost):=by
 refine⟨by rw[h.cell];rfl,by rw[h.cell];rfl,by rw[h.cell];rfl,by rw[h.cell];rfl,range_of_row (A:=[_,_,_,_]) (B:=rngV p.net) (C:=[.float .f64 p.cost]) h,?_⟩
 rw[h.cell]
 unfold prdV
 rw[List.getElem?_append_right (by simp),List.getElem?_append_right (by rw[length_rngV' _ hn];simp),length_rngV' _ hn]
 rfl
structure PrdAt (w:World) (p:Prd) (A:Option Addr) (c:Nat):Prop where
 ok:p.Ok
 names:Sl w A c (strsV p.names)
 lo:-9223372036854775808≤p.kind
 hi:p.kind≤9223372036854775807
 path:p.path.length≤4000
 sum:sumS p.names≤4000
theorem cells_byte:Tryz.prog.cellsOf 5=1:=by kernel_rfl
theorem part_byte (xs:List UInt8) (i:Nat) (h:i < xs.length) (w:World):(Go.part 5 (byts xs).toArray (i*1)).run Tryz.prog w=.ok (.int .u8 ((xs.getD i 0).toNat:Int)) w:=by
 have hc:(byts xs).toArray[i*1]?=some (.int .u8 ((xs.getD i 0).toNat:Int)):=by
  rw[Nat.mul_one,List.getElem?_toArray,get_byts _ _ h]
 simp only[Go.part,isAgg,Sem.run_bind,run_underlying Tryz.underlying5,Result.andThen_ok,Sem.run_pure,hc]
 rfl
theorem run_items (xs ys:List UInt8) (is:List Nat) (hx:∀i∈is,i < xs.length) (hy:∀i∈is,i < ys.length) (w:World) :
  (Op.eqItems 9999 5 1 (byts xs).toArray (byts ys).toArray is).run Tryz.prog w=.ok (is.all fun i=>decide (xs.getD i 0=ys.getD i 0)) w:=by
 induction is with
 | nil=>simp[Op.eqItems]
 | cons i is ih =>
  have h:=ih (fun j hj=>hx j (by simp[hj])) (fun j hj=>hy j (by simp[hj]))
  simp only[Op.eqItems,Sem.run_bind,part_byte xs i (hx i (by simp)) w,part_byte ys i (hy i (by simp)) w,Result.andThen_ok,run_equalIn_int w 9998 5 .u8 .u8 _ _ Tryz.underlying5,List.all_cons]
  generalize xs.getD i 0=a
  generalize ys.getD i 0=b
  by_cases e:a=b
  ·subst e
   simp only[BEq.rfl,Bool.not_true,Bool.false_eq_true,if_false,decide_true,Bool.true_and,h]
  ·have e':((a.toNat:Int)==(b.toNat:Int))=false:=by
    rw[beq_eq_false_iff_ne]
    intro h
    exact e (UInt8.toNat_inj.1 (by omega))
   simp only[e',e,Bool.not_false,if_true,decide_false,Bool.false_and,Sem.run_pure]
theorem all_getD (xs ys:List UInt8) (h:xs.length=ys.length):((List.range xs.length).all fun i=>decide (xs.getD i 0=ys.getD i 0))=decide (xs=ys):=by
 rw[Bool.eq_iff_iff,List.all_eq_true,decide_eq_true_iff]
 constructor
 ·intro hall
  apply List.ext_getElem h
  intro i h1 h2
  have:=hall i (by simpa using h1)
  simpa [h1,h2] using this
 ·rintro rfl i _
  simp
theorem run_eq_bytes (t:TypeId) (n:Nat) (i0:TypeInfo) (hu:Tryz.prog.underlying t=some (.array n 5)) (hi:Tryz.prog.info? 5=some i0) (xs ys:List UInt8) (hx:xs.length=n) (hy:ys.length=n) (w:World) :
  (Op.equalIn 10000 t (.agg (byts xs).toArray) (.agg (byts ys).toArray)).run Tryz.prog w=.ok (decide (xs=ys)) w:=by
 rw[run_equalIn_array w 9999 _ _ hu hi,cells_byte,run_items xs ys (List.range n) (fun i h=>by rw[hx];simpa using h) (fun i h=>by rw[hy];simpa using h) w,←hx,all_getD xs ys (by rw[hx,hy])]
theorem part_v6 (a:Adr) (w:World):(Go.part 4 (adrV a).toArray 0).run Tryz.prog w=.ok (.bool a.v6) w:=by
 simp only[Go.part,isAgg,Sem.run_bind,run_underlying Tryz.underlying4,Result.andThen_ok,Sem.run_pure]
 rfl
theorem isAgg16 (w:World):(isAgg 24).run Tryz.prog w=.ok true w:=by kernel_rfl
theorem sizeOf16 (w:World):(sizeOf 24).run Tryz.prog w=.ok 16 w:=by kernel_rfl
theorem part_b (a:Adr) (h:a.Ok) (w:World):(Go.part 24 (adrV a).toArray 1).run Tryz.prog w=.ok (.agg (byts a.b).toArray) w:=by
 have e:(adrV a).toArray.extract 1 17=(byts a.b).toArray:=by
  rw[List.extract_toArray]
  unfold adrV
  congr 1
  show (byts a.b).take 16=byts a.b
  exact List.take_of_length_le (by rw[length_byts,h];exact Nat.le_refl _)
 simp only[Go.part,Sem.run_bind,isAgg16,Result.andThen_ok,if_true,sizeOf16,Sem.run_pure]
 rw[e]
theorem run_items_d (d:Nat) (xs ys:List UInt8) (is:List Nat) (hx:∀i∈is,i < xs.length) (hy:∀i∈is,i < ys.length) (w:World) :
  (Op.eqItems (d+1) 5 1 (byts xs).toArray (byts ys).toArray is).run Tryz.prog w=.ok (is.all fun i=>decide (xs.getD i 0=ys.getD i 0)) w:=by
 induction is with
 | nil=>simp[Op.eqItems]
 | cons i is ih =>
  have h:=ih (fun j hj=>hx j (by simp[hj])) (fun j hj=>hy j (by simp[hj]))
  simp only[Op.eqItems,Sem.run_bind,part_byte xs i (hx i (by simp)) w,part_byte ys i (hy i (by simp)) w,Result.andThen_ok,run_equalIn_int w d 5 .u8 .u8 _ _ Tryz.underlying5,List.all_cons]
  generalize xs.getD i 0=a
  generalize ys.getD i 0=b
  by_cases e:a=b
  ·subst e
   simp only[BEq.rfl,Bool.not_true,Bool.false_eq_true,if_false,decide_true,Bool.true_and,h]
  ·have e':((a.toNat:Int)==(b.toNat:Int))=false:=by
    rw[beq_eq_false_iff_ne]
    intro h
    exact e (UInt8.toNat_inj.1 (by omega))
   simp only[e',e,Bool.not_false,if_true,decide_false,Bool.false_and,Sem.run_pure]
theorem eq_adr9 (a b:Adr) (ha:a.Ok) (hb:b.Ok) (w:World):(Op.equalIn 9999 26 (.agg (adrV a).toArray) (.agg (adrV b).toArray)).run Tryz.prog w=.ok (a.v6==b.v6&&decide (a.b=b.b)) w:=by
 rw[run_equalIn_struct w 9998 26 _ _ (by kernel_rfl) (by kernel_rfl)]
 obtain⟨i0,hi,_⟩:=info_parts infoByte
 have h16:(Op.equalIn 9998 24 (.agg (byts a.b).toArray) (.agg (byts b.b).toArray)).run Tryz.prog w=.ok (decide (a.b=b.b)) w:=by
  rw[run_equalIn_array w 9997 _ _ Tryz.underlying24 hi,cells_byte,run_items_d 9996 a.b b.b (List.range 16) (fun i h=>by rw[ha];simpa using h) (fun i h=>by rw[hb];simpa using h) w]
  have:=all_getD a.b b.b (by rw[ha,hb])
  rw[ha] at this
  rw[this]
 have hb4:=run_equalIn_bool' (P:=Tryz.prog) w 9997 4 a.v6 b.v6 Tryz.underlying4
 cases hv:(a.v6==b.v6)<;>cases hd:decide (a.b=b.b)<;>rw[hv] at hb4<;>rw[hd] at h16 <;>
  simp[Program.fieldsOf,Tryz.underlying26,Op.eqFields,Sem.run_bind,part_v6,part_b a ha,part_b b hb,hb4,h16]
theorem part_ra (r:Rng) (h:r.a.Ok) (w:World):(Go.part 26 (rngV r).toArray 0).run Tryz.prog w=.ok (.agg (adrV r.a).toArray) w:=by
 have e:(rngV r).toArray.extract 0 17=(adrV r.a).toArray:=by
  rw[List.extract_toArray]
  congr 1
  unfold rngV
  show (adrV r.a++[Value.int .i64 r.n]).take 17=adrV r.a
  exact List.take_left' (length_adrV h)
 have h1:(isAgg 26).run Tryz.prog w=.ok true w:=by kernel_rfl
 have h2:(sizeOf 26).run Tryz.prog w=.ok 17 w:=by kernel_rfl
 simp only[Go.part,Sem.run_bind,h1,Result.andThen_ok,if_true,h2,Sem.run_pure]
 rw[e]
theorem part_rn (r:Rng) (h:r.a.Ok) (w:World):(Go.part 3 (rngV r).toArray 17).run Tryz.prog w=.ok (.int .i64 r.n) w:=by
 have e:(rngV r).toArray[17]?=some (.int .i64 r.n):=by
  rw[List.getElem?_toArray]
  unfold rngV
  rw[List.getElem?_append_right (by rw[length_adrV h];exact Nat.le_refl _),length_adrV h];rfl
 simp only[Go.part,isAgg,Sem.run_bind,run_underlying Tryz.underlying3,Result.andThen_ok,Sem.run_pure]
 rw[if_neg (by decide),e];rfl
theorem eq_rng (a b:Rng) (ha:a.a.Ok) (hb:b.a.Ok) (w:World):(Op.equalIn 10000 28 (.agg (rngV a).toArray) (.agg (rngV b).toArray)).run Tryz.prog w=.ok ((a.a.v6==b.a.v6&&decide (a.a.b=b.a.b))&&a.n==b.n) w:=by
 rw[run_equalIn_struct w 9999 28 _ _ (by kernel_rfl) (by kernel_rfl)]
 have h1:=eq_adr9 a.a b.a ha hb w
 have h2:=run_equalIn_int (P:=Tryz.prog) w 9998 3 .i64 .i64 a.n b.n Tryz.underlying3
 cases hv:(a.a.v6==b.a.v6&&decide (a.a.b=b.a.b))<;>cases hd:(a.n==b.n)<;>rw[hv] at h1<;>rw[hd] at h2 <;>
  simp[Program.fieldsOf,Tryz.underlying28,Op.eqFields,Sem.run_bind,part_ra a ha,part_ra b hb,part_rn a ha,part_rn b hb,h1,h2]
end Go.Proofs.YtjieebmcbpdeiaaGreatDoor
