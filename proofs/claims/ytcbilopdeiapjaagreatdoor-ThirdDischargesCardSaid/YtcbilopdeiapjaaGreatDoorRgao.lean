import Derived.Test.YtcbilopdeiapjaaGreatDoorRgak
set_option maxHeartbeats 16000000
set_option maxRecDepth 100000
namespace Go.Proofs.YtcbilopdeiapjaaGreatDoor
open Go Go.RowKit
def a0T:Rng:=⟨a0K,0⟩
theorem c0a:a0T.Ok:=⟨b0O,by decide,by decide⟩
def ofR (a:Adr) (n:Int):Rng:=if ofOk a n then ⟨topA a n,n⟩ else a0T
theorem r0f (a:Adr) (n:Int):(topA a n).Ok:=c0v _ _
theorem d1M (a:Adr) (n:Int) (hlo:-9223372036854775808≤n) (hhi:n≤9223372036854775807):(ofR a n).Ok:=by
 unfold ofR
 split
 ·exact⟨r0f a n,hlo,hhi⟩
 ·exact c0a
theorem r0L (a:Adr) (n:Int) (h:ofOk a n=true):ofR a n=⟨topA a n,n⟩:=by unfold ofR;rw[h];rfl
theorem c1x (a:Adr) (n:Int) (h:ofOk a n=false):ofR a n=a0T:=by unfold ofR;rw[h];rfl
theorem t0J (a:Adr) (n:Int) (h:ofOk a n=false):b0h a=false∨b0h a=true∧n < 0∨b0h a=true∧0≤n∧(d0L a.v6:Int) < n:=by
 cases hc:b0h a with
 | false=>exact .inl rfl
 | true =>
  refine .inr ?_
  by_cases h0:n < 0
  ·exact .inl ⟨rfl,h0⟩
  ·refine .inr ⟨rfl,by omega,?_⟩
   by_cases hM:(d0L a.v6:Int) < n
   ·exact hM
   ·have:=(m0X a n).2 ⟨hc,by omega,by omega⟩
    rw[this] at h;cases h
theorem y0T (v6:Bool) (b:List UInt8) (q:Nat) (y:UInt8):(adrV ⟨v6,b⟩).set (1+q) (.int .u8 (y.toNat:Int))=adrV ⟨v6,b.set q y⟩:=by
 unfold adrV
 rw[Nat.add_comm,List.set_cons_succ,g0Q]
theorem i0h:rngV a0T=[Value.bool false,.int .u8 0,.int .u8 0,.int .u8 0,.int .u8 0,.int .u8 0,.int .u8 0,.int .u8 0,.int .u8 0,.int .u8 0,.int .u8 0,.int .u8 0,.int .u8 0,.int .u8 0,.int .u8 0,.int .u8 0,.int .u8 0,.int .i64 0]:=by kernel_rfl
def j0k (o:Option Rng):Value:=match o with
 | none=>.tuple #[.agg (rngV a0T).toArray,.bool false]
 | some r=>.tuple #[.agg (rngV r).toArray,.bool true]
theorem n0x (a:Adr):(adrV a).toArray.all (·.oneCell')=true:=b0d (c0O a)
theorem d0q (r:Rng):(rngV r).toArray.all (·.oneCell')=true:=b0d (s0h r)
theorem a0C (r:Rng) (h:r.a.Ok):(rngV r).length=18:=by unfold rngV;rw[List.length_append,a0m h];rfl
def oddC (m:Nat):Nat:=if h:m=0 then 0 else if m%2=0 then oddC (m/2) else m
termination_by m
decreasing_by omega
def a0Z (m:Nat):Nat:=if h:m=0 then 0 else if m%2=0 then a0Z (m/2)+1 else 0
termination_by m
decreasing_by omega
theorem h0X (m:Nat) (h:m≠0) (h2:m%2=0):oddC m=oddC (m/2):=by rw[oddC,dif_neg h,if_pos h2]
theorem j0A (m:Nat) (h2:m%2=1):oddC m=m:=by rw[oddC,dif_neg (by omega),if_neg (by omega)]
theorem f0L (m:Nat) (h:m≠0) (h2:m%2=0):a0Z m=a0Z (m/2)+1:=by rw[a0Z,dif_neg h,if_pos h2]
theorem g0L (m:Nat) (h2:m%2=1):a0Z m=0:=by rw[a0Z,dif_neg (by omega),if_neg (by omega)]
theorem d0V (m:Nat) (h:m≠0):oddC m%2=1∧m=oddC m*2^a0Z m:=by
 induction m using Nat.strongRecOn with
 | _ m ih =>
  by_cases h2:m%2=0
  ·obtain⟨a,b⟩:=ih (m/2) (by omega) (by omega)
   rw[h0X m h h2,f0L m h h2]
   refine⟨a,?_⟩
   rw[Nat.pow_succ,←Nat.mul_assoc,←b]
   omega
  ·rw[j0A m (by omega),g0L m (by omega)]
   exact⟨by omega,by simp⟩
theorem w0X (m:Nat) (hm:m%2=1):∀k,oddC (m*2^k)=m∧a0Z (m*2^k)=k:=by
 intro k
 induction k with
 | zero=>rw[Nat.pow_zero,Nat.mul_one];exact⟨j0A m hm,g0L m hm⟩
 | succ k ih =>
  have e:m*2^(k+1)=2*(m*2^k):=by rw[Nat.pow_succ,←Nat.mul_assoc,Nat.mul_comm]
  have hp:0 < m*2^k:=Nat.mul_pos (by omega) (Nat.pow_pos (by omega))
  rw[e]
  generalize m*2^k=n at *
  rw[h0X _ (by omega) (by omega),f0L _ (by omega) (by omega),show 2*n/2=n by omega]
  exact⟨ih.1,by rw[ih.2]⟩
def sigC (a:Nat):Nat:=if a/2^52 > 0 then a%2^52+2^52 else a%2^52
def powC (a:Nat):Int:=if a/2^52 > 0 then (a/2^52:Nat) - 1075 else -1074
def FinC (a:Nat):Prop:=0 < a∧a < 2047*2^52
theorem h0G (a:Nat) (h:FinC a):0 < sigC a:=by
 obtain⟨h1,h2⟩:=h
 unfold sigC
 split<;>omega
def f0s (M:Nat) (P:Int):Nat:=if M < 2^52 then M else (P+1075).toNat*2^52+M - 2^52
def FitC (M:Nat) (P:Int):Prop:=(0 < M∧M < 2^52∧P=-1074)∨(2^52≤M∧M < 2^53∧-1074≤P∧P≤971)
theorem l0J (a:Nat) (h:FinC a):FitC (sigC a) (powC a)∧f0s (sigC a) (powC a)=a:=by
 obtain⟨h1,h2⟩:=h
 by_cases h0:a/2^52 > 0
 ·have e1:sigC a=a%2^52+2^52:=if_pos h0
  have e2:powC a=(a/2^52:Nat) - 1075:=if_pos h0
  rw[e1,e2]
  refine⟨.inr ⟨by omega,by omega,by omega,by omega⟩,?_⟩
  unfold f0s
  rw[if_neg (by omega),show (((a/2^52:Nat):Int) - 1075+1075).toNat=a/2^52 by omega]
  omega
 ·have e1:sigC a=a%2^52:=if_neg h0
  have e2:powC a=-1074:=if_neg h0
  rw[e1,e2]
  refine⟨.inl ⟨by omega,by omega,rfl⟩,?_⟩
  unfold f0s
  rw[if_pos (by omega)]
  omega
theorem z0w (M:Nat) (P:Int) (h:FitC M P):FinC (f0s M P)∧sigC (f0s M P)=M∧powC (f0s M P)=P:=by
 rcases h with ⟨h1,h2,rfl⟩ | ⟨h1,h2,h3,h4⟩
 ·have e:f0s M (-1074)=M:=if_pos h2
  rw[e]
  refine⟨⟨h1,by omega⟩,?_,?_⟩
  ·unfold sigC;rw[if_neg (by omega)];omega
  ·unfold powC;rw[if_neg (by omega)]
 ·have e:f0s M P=(P+1075).toNat*2^52+M - 2^52:=if_neg (by omega)
  rw[e]
  generalize hE:(P+1075).toNat=E at *
  have hE1:1≤E∧E≤2046:=by omega
  have hd:(E*2^52+M - 2^52)/2^52=E:=by omega
  have hm:(E*2^52+M - 2^52)%2^52=M - 2^52:=by omega
  refine⟨⟨by omega,by omega⟩,?_,?_⟩
  ·unfold sigC;rw[hd,hm,if_pos (by omega)];omega
  ·unfold powC;rw[hd,if_pos (by omega)];omega
theorem v0T (m:Nat) (k1 k2:Nat) (p:Int) (h1:FitC (m*2^k1) (p - k1)) (h2:FitC (m*2^k2) (p - k2)):k1=k2:=by
 have key:∀a b:Nat,a < b→FitC (m*2^a) (p - a)→FitC (m*2^b) (p - b)→False:=by
  intro a b hab ha hb
  have e:m*2^b=2*(m*2^a*2^(b - a - 1)):=by
   rw[Nat.mul_assoc,←Nat.pow_add,show b=(a+(b - a - 1))+1 by omega,Nat.pow_succ]
   rw[show a+(b - a - 1)+1 - a - 1=b - a - 1 by omega]
   rw[←Nat.mul_assoc,Nat.mul_comm]
  have hp:1≤2^(b - a - 1):=Nat.one_le_two_pow
  have hge:m*2^a≤m*2^a*2^(b - a - 1):=Nat.le_mul_of_pos_right _ hp
  generalize m*2^a*2^(b - a - 1)=X at *
  generalize m*2^a=A at *
  rw[e] at hb
  rcases ha with ⟨_,_,a3⟩ | ⟨a1,a2,a3,a4⟩
  ·rcases hb with ⟨_,_,b3⟩ | ⟨_,_,b3,_⟩<;>omega
  ·rcases hb with ⟨_,b2,_⟩ | ⟨_,b2,_,_⟩<;>omega
 rcases Nat.lt_trichotomy k1 k2 with h | h | h
 ·exact (key k1 k2 h h1 h2).elim
 ·exact h
 ·exact (key k2 k1 h h2 h1).elim
def upC:Nat→Nat→Int→Nat×Int
 | 0,m,p=>(m,p)
 | f+1,m,p=>if m < 2^52∧-1074 < p then upC f (2*m) (p - 1) else (m,p)
theorem y0F:∀(f m:Nat) (p:Int),0 < m→-1074≤p→2^52≤m*2^f →
  ∃k:Nat,upC f m p=(m*2^k,p - k)∧(k=0∨m*2^k < 2^53)∧-1074≤p - k∧¬(m*2^k < 2^52∧-1074 < p - k):=by
 intro f
 induction f with
 | zero =>
  intro m p hm hp hf
  rw[Nat.pow_zero,Nat.mul_one] at hf
  exact⟨0,by simp[upC],.inl rfl,by omega,by simp;omega⟩
 | succ f ih =>
  intro m p hm hp hf
  rw[upC]
  by_cases h:m < 2^52∧-1074 < p
  ·rw[if_pos h]
   have hf2:2^52≤2*m*2^f:=by
    have e:m*2^(f+1)=2*m*2^f:=by rw[Nat.pow_succ,←Nat.mul_assoc,Nat.mul_comm,←Nat.mul_assoc]
    rw[←e];exact hf
   obtain⟨k,h1,h2,h3,h4⟩:=ih (2*m) (p - 1) (by omega) (by omega) hf2
   have e:m*2^(k+1)=2*m*2^k:=by rw[Nat.pow_succ,←Nat.mul_assoc,Nat.mul_comm,←Nat.mul_assoc]
   refine⟨k+1,?_,.inr ?_,by omega,?_⟩
   ·rw[h1,e];congr 1;omega
   ·rw[e]
    rcases h2 with h2 | h2
    ·subst h2;simp;omega
    ·exact h2
   ·rw[e];intro h5;exact h4 ⟨h5.1,by omega⟩
  ·rw[if_neg h]
   exact⟨0,by simp,.inl rfl,by omega,by simpa using h⟩
def ofC (m:Nat) (p:Int):Option Nat :=
 if m%2=0∨2^53≤m∨p < -1074∨1023 < p then none
 else if 971 < (upC 52 m p).2 then none else some (f0s (upC 52 m p).1 (upC 52 m p).2)
theorem q0w (m:Nat) (p:Int) (a:Nat):ofC m p=some a↔FinC a∧oddC (sigC a)=m∧powC a+a0Z (sigC a)=p:=by
 unfold ofC
 constructor
 ·intro h
  split at h
  ·cases h
  ·rename_i hg
   have hm:m%2=1:=by omega
   obtain⟨k,h1,h2,h3,h4⟩:=y0F 52 m p (by omega) (by omega) (Nat.le_mul_of_pos_left _ (by omega))
   rw[h1] at h
   split at h
   ·cases h
   ·rename_i h5
    have h5:¬971 < p - (k:Int):=h5
    cases h
    have hM:m*2^k < 2^53:=by
     rcases h2 with h2 | h2
     ·subst h2;simp;omega
     ·exact h2
    have hp:0 < m*2^k:=Nat.mul_pos (by omega) (Nat.pow_pos (by omega))
    have hfit:FitC (m*2^k) (p - k):=by
     by_cases hs:m*2^k < 2^52
     ·exact .inl ⟨hp,hs,by omega⟩
     ·exact .inr ⟨by omega,hM,h3,by omega⟩
    obtain⟨f1,f2,f3⟩:=z0w _ _ hfit
    refine⟨f1,?_,?_⟩
    ·show oddC (sigC (f0s (m*2^k) (p - k)))=m
     rw[f2,(w0X m hm k).1]
    ·show powC (f0s (m*2^k) (p - k))+(a0Z (sigC (f0s (m*2^k) (p - k))):Nat)=p
     rw[f2,f3,(w0X m hm k).2];omega
 ·rintro ⟨hf,hm,hp⟩
  have hs:=h0G a hf
  obtain⟨o1,o2⟩:=d0V (sigC a) (by omega)
  obtain⟨g1,g2⟩:=l0J a hf
  rw[hm] at o1 o2
  generalize ht:a0Z (sigC a)=t at *
  have hsl:sigC a < 2^53:=by
   rcases g1 with ⟨_,h,_⟩ | ⟨_,h,_,_⟩<;>omega
  have hpow:-1074≤powC a∧powC a≤971:=by
   rcases g1 with ⟨_,_,h⟩ | ⟨_,_,h,h'⟩<;>omega
  have ht52:t≤52:=by
   by_cases hlt:t≤52
   ·exact hlt
   ·exfalso
    have:2^53≤2^t:=Nat.pow_le_pow_right (by omega) (by omega)
    have:2^t≤m*2^t:=Nat.le_mul_of_pos_left _ (by omega)
    omega
  have hmle:m≤m*2^t:=Nat.le_mul_of_pos_right _ (Nat.pow_pos (by omega))
  rw[if_neg (by omega)]
  obtain⟨k,h1,h2,h3,h4⟩:=y0F 52 m p (by omega) (by omega) (Nat.le_mul_of_pos_left _ (by omega))
  rw[h1]
  have hM:m*2^k < 2^53:=by
   rcases h2 with h2 | h2
   ·subst h2;simp;omega
   ·exact h2
  have hP:¬971 < p - (k:Int):=by
   intro h5
   have hk:k < t:=by omega
   have e:m*2^t=2*(m*2^k*2^(t - k - 1)):=by
    rw[Nat.mul_assoc,←Nat.pow_add,show t=(k+(t - k - 1))+1 by omega,Nat.pow_succ]
    rw[show k+(t - k - 1)+1 - k - 1=t - k - 1 by omega]
    rw[←Nat.mul_assoc,Nat.mul_comm]
   have hge:m*2^k≤m*2^k*2^(t - k - 1):=Nat.le_mul_of_pos_right _ (Nat.pow_pos (by omega))
   generalize m*2^k*2^(t - k - 1)=X at *
   omega
  rw[if_neg hP]
  have hp0:0 < m*2^k:=Nat.mul_pos (by omega) (Nat.pow_pos (by omega))
  have hfit:FitC (m*2^k) (p - k):=by
   by_cases hs:m*2^k < 2^52
   ·exact .inl ⟨hp0,hs,by omega⟩
   ·exact .inr ⟨by omega,hM,h3,by omega⟩
  have hfit2:FitC (m*2^t) (p - t):=by rw[←o2,show p - (t:Int)=powC a by omega];exact g1
  have hkt:=v0T m k t p hfit hfit2
  subst hkt
  show some (f0s (m*2^k) (p - k))=some a
  rw[←o2,show p - (k:Int)=powC a by omega,g2]
def magC (b:Nat):Nat:=b%2^63
def negC (b:Nat):Bool:=decide (b/2^63=1)
def nanC (b:Nat):Bool:=decide (2047*2^52 < magC b)
def f0q (b:Nat):Bool×Nat×Int :=
 if nanC b then (false,0,0)
 else if magC b=2047*2^52∨magC b=0 then (negC b,0,0)
 else (negC b,oddC (sigC (magC b)),powC (magC b)+a0Z (sigC (magC b)))
def intL (p:Int):List UInt8:=if p < 0 then 45 :: numL 10 p.natAbs else numL 10 p.natAbs
def h0t (a:Nat):List UInt8 :=
 if a=0 then [48] else if a=2047*2^52 then [105,110,102]
 else numL 10 (oddC (sigC a))++112 :: intL (powC a+a0Z (sigC a))
def b0N (b:Nat):List UInt8:=if nanC b then [] else (if negC b then [45] else [])++h0t (magC b)
def f0J (t:List UInt8):Option Int :=
 match t with
 | 45 :: r=>if r=[]∨r=[48] then (a0P 10 4 (45 :: r)).map fun n:Nat=>(n:Int) else (a0P 10 4 r).map fun n:Nat=>-(n:Int)
 | _=>(a0P 10 4 t).map fun n:Nat=>(n:Int)
def cutP:List UInt8→Option (List UInt8×List UInt8)
 | []=>none
 | c :: s=>if c=112 then some ([],s) else (cutP s).map fun x=>(c :: x.1,x.2)
def magP (s:List UInt8):Option Nat :=
 match cutP s with
 | none=>none
 | some x=>match a0P 10 16 x.1,f0J x.2 with
  | some m,some p=>ofC m p
  | _,_=>none
def g0k (s:List UInt8):Option Nat:=if s=[48] then some 0 else if s=[105,110,102] then some (2047*2^52) else magP s
def b0t (s:List UInt8):Option Nat :=
 match s with
 | 45 :: r=>(g0k r).map (2^63 + ·)
 | _=>g0k s
theorem v0G (t u:List UInt8) (h:(112:UInt8)∉t):cutP (t++112 :: u)=some (t,u):=by
 induction t with
 | nil=>rfl
 | cons c t ih =>
  rw[List.cons_append,cutP,if_neg (fun e=>h (by rw[e];exact List.mem_cons_self ..)),ih (fun hm=>h (List.mem_cons_of_mem _ hm))]
  rfl
theorem n0O (s t u:List UInt8) (h:cutP s=some (t,u)):s=t++112 :: u:=by
 induction s generalizing t u with
 | nil=>cases h
 | cons c s ih =>
  rw[cutP] at h
  split at h
  ·rename_i e
   cases h
   rw[e];rfl
  ·cases hc:cutP s with
   | none=>rw[hc] at h;cases h
   | some x =>
    rw[hc] at h
    cases h
    rw[ih x.1 x.2 hc];rfl
theorem o0n:∀i:Nat,i < 10→hexD i≠45∧hexD i≠112∧hexD i≠105:=by
 intro i hi
 have:i=0∨i=1∨i=2∨i=3∨i=4∨i=5∨i=6∨i=7∨i=8∨i=9:=by omega
 rcases this with rfl | rfl | rfl | rfl | rfl | rfl | rfl | rfl | rfl | rfl<;>decide
theorem h0C (n:Nat):∀c∈numL 10 n,c≠45∧c≠112∧c≠105:=by
 induction n using Nat.strongRecOn with
 | _ n ih =>
  by_cases h:n < 10
  ·rw[a0S 10 n h]
   intro c hc
   rw[List.mem_singleton.1 hc]
   exact o0n n h
  ·rw[b0p 10 n (by omega) (by omega)]
   intro c hc
   rcases List.mem_append.1 hc with h1 | h1
   ·exact ih (n/10) (Nat.div_lt_self (by omega) (by omega)) c h1
   ·rw[List.mem_singleton.1 h1]
    exact o0n _ (Nat.mod_lt _ (by omega))
theorem h0a (n:Nat):∃c r,numL 10 n=c :: r∧c≠45:=by
 cases h:numL 10 n with
 | nil=>exact absurd h (f0W 10 n)
 | cons c r=>exact⟨c,r,rfl,(h0C n c (by rw[h];exact List.mem_cons_self ..)).1⟩
theorem g0D (c:UInt8) (r:List UInt8) (h:c≠45):f0J (c :: r)=(a0P 10 4 (c :: r)).map fun n:Nat=>(n:Int):=by
 unfold f0J
 split
 ·rename_i e;injection e with e _;exact absurd e h
 ·rfl
theorem l0T (t:List UInt8) (p:Int):f0J t=some p↔intL p=t∧(numL 10 p.natAbs).length≤4:=by
 have vi:=fun s n=>c0W 10 4 (by omega) (by omega) s n
 constructor
 ·intro h
  by_cases hc:∃r,t=45 :: r
  ·obtain⟨r,rfl⟩:=hc
   unfold f0J at h
   by_cases hr:r=[]∨r=[48]
   ·simp only[if_pos hr] at h
    cases hv:a0P 10 4 (45 :: r) with
    | none=>rw[hv] at h;cases h
    | some n =>
     obtain⟨e,-⟩:=(vi _ n).1 hv
     obtain⟨c,q,e2,hc⟩:=h0a n
     rw[e2] at e
     injection e with e _
     exact absurd e hc
   ·simp only[if_neg hr] at h
    cases hv:a0P 10 4 r with
    | none=>rw[hv] at h;cases h
    | some n =>
     rw[hv] at h
     have h:-(n:Int)=p:=Option.some.inj h
     obtain⟨e,hl⟩:=(vi _ n).1 hv
     have hn:n≠0:=by
      rintro rfl
      exact hr (.inr e.symm)
     have hp:p.natAbs=n:=by omega
     refine⟨?_,by rw[hp,e];exact hl⟩
     unfold intL
     rw[if_pos (by omega),hp,e]
  ·have hp:f0J t=(a0P 10 4 t).map fun n:Nat=>(n:Int):=by
    cases t with
    | nil=>rfl
    | cons c r=>exact g0D c r fun e=>hc ⟨r,by rw[e]⟩
   rw[hp] at h
   cases hv:a0P 10 4 t with
   | none=>rw[hv] at h;cases h
   | some n =>
    rw[hv] at h
    have h:(n:Int)=p:=Option.some.inj h
    obtain⟨e,hl⟩:=(vi _ n).1 hv
    have hp:p.natAbs=n:=by omega
    refine⟨?_,by rw[hp,e];exact hl⟩
    unfold intL
    rw[if_neg (by omega),hp,e]
 ·rintro ⟨rfl,hl⟩
  have hv:a0P 10 4 (numL 10 p.natAbs)=some p.natAbs:=(vi _ _).2 ⟨rfl,hl⟩
  unfold intL
  by_cases h0:p < 0
  ·rw[if_pos h0]
   unfold f0J
   have hr:¬(numL 10 p.natAbs=[]∨numL 10 p.natAbs=[48]):=by
    rintro (h | h)
    ·exact f0W 10 _ h
    ·have:=j0y 10 p.natAbs 0 (by omega) (by omega) (by rw[h];rfl)
     omega
   simp only[if_neg hr,hv,Option.map_some]
   congr 1
   omega
  ·rw[if_neg h0]
   obtain⟨c,q,e2,hc⟩:=h0a p.natAbs
   rw[e2] at hv ⊢
   rw[g0D c q hc,hv]
   show some ((p.natAbs:Nat):Int)=some p
   congr 1
   omega
theorem m0S (s:List UInt8) (a:Nat):magP s=some a↔FinC a∧s=numL 10 (oddC (sigC a))++112 :: intL (powC a+a0Z (sigC a)):=by
 have vi:=fun s n=>c0W 10 16 (by omega) (by omega) s n
 constructor
 ·intro h
  unfold magP at h
  cases hc:cutP s with
  | none=>rw[hc] at h;cases h
  | some x =>
   obtain⟨x1,x2⟩:=x
   rw[hc] at h
   simp only at h
   cases hv:a0P 10 16 x1 with
   | none=>rw[hv] at h;cases h
   | some m =>
    cases hp:f0J x2 with
    | none=>rw[hv,hp] at h;cases h
    | some p =>
     rw[hv,hp] at h
     obtain⟨f1,f2,f3⟩:=(q0w m p a).1 h
     refine⟨f1,?_⟩
     rw[f2,f3,((vi _ _).1 hv).1,((l0T _ _).1 hp).1]
     exact n0O _ _ _ hc
 ·rintro ⟨hf,rfl⟩
  obtain⟨g1,-⟩:=l0J a hf
  obtain⟨o1,o2⟩:=d0V (sigC a) (by have:=h0G a hf;omega)
  have hle:oddC (sigC a)≤oddC (sigC a)*2^a0Z (sigC a):=Nat.le_mul_of_pos_right _ (Nat.pow_pos (by omega))
  have hge:2^a0Z (sigC a)≤oddC (sigC a)*2^a0Z (sigC a):=Nat.le_mul_of_pos_left _ (by omega)
  rw[←o2] at hle hge
  have hsl:sigC a < 2^53:=by
   rcases g1 with ⟨_,h,_⟩ | ⟨_,h,_,_⟩<;>omega
  have hpow:-1074≤powC a∧powC a≤971:=by
   rcases g1 with ⟨_,_,h⟩ | ⟨_,_,h,h'⟩<;>omega
  have ht:a0Z (sigC a)≤52:=by
   by_cases hlt:a0Z (sigC a)≤52
   ·exact hlt
   ·exfalso
    have:2^53≤2^a0Z (sigC a):=Nat.pow_le_pow_right (by omega) (by omega)
    omega
  unfold magP
  rw[v0G _ _ (fun h=>(h0C _ _ h).2.1 rfl)]
  simp only
  have hv:=(vi (numL 10 (oddC (sigC a))) _).2 ⟨rfl,b0k 10 (by omega) 15 _ (by omega)⟩
  have hp:=(l0T (intL (powC a+a0Z (sigC a))) _).2 ⟨rfl,b0k 10 (by omega) 3 _ (by omega)⟩
  rw[hv,hp]
  exact (q0w _ _ a).2 ⟨hf,rfl,rfl⟩
theorem h0L (s:List UInt8) (a:Nat):g0k s=some a↔a≤2047*2^52∧h0t a=s:=by
 unfold g0k
 constructor
 ·intro h
  split at h
  ·rename_i e;cases h;exact⟨by omega,e.symm⟩
  ·split at h
   ·rename_i e;cases h;exact⟨by omega,e.symm⟩
   ·obtain⟨⟨f1,f2⟩,f3⟩:=(m0S s a).1 h
    refine⟨by omega,?_⟩
    unfold h0t
    rw[if_neg (by omega),if_neg (by omega),f3]
 ·rintro ⟨hle,rfl⟩
  unfold h0t
  by_cases h0:a=0
  ·rw[if_pos h0,if_pos rfl,h0]
  ·rw[if_neg h0]
   by_cases hi:a=2047*2^52
   ·rw[if_pos hi,if_neg (by decide),if_pos rfl,hi]
   ·rw[if_neg hi]
    have hmem:(112:UInt8)∈numL 10 (oddC (sigC a))++112 :: intL (powC a+a0Z (sigC a)):=by simp
    rw[if_neg (by intro e;rw[e] at hmem;exact absurd hmem (by decide)),if_neg (by intro e;rw[e] at hmem;exact absurd hmem (by decide))]
    exact (m0S _ a).2 ⟨⟨by omega,by omega⟩,rfl⟩
theorem v0p (a:Nat):∃c r,h0t a=c :: r∧c≠45:=by
 unfold h0t
 split
 ·exact⟨48,[],rfl,by decide⟩
 ·split
  ·exact⟨105,[110,102],rfl,by decide⟩
  ·obtain⟨c,r,e,hc⟩:=h0a (oddC (sigC a))
   exact⟨c,r++_,by rw[e];rfl,hc⟩
theorem f0p (c:UInt8) (r:List UInt8) (h:c≠45):b0t (c :: r)=g0k (c :: r):=by
 unfold b0t
 split
 ·rename_i e;injection e with e _;exact absurd e h
 ·rfl
theorem f0I (s:List UInt8) (b:Nat):b0t s=some b↔b < 2^64∧nanC b=false∧b0N b=s:=by
 constructor
 ·intro h
  by_cases hc:∃r,s=45 :: r
  ·obtain⟨r,rfl⟩:=hc
   unfold b0t at h
   simp only at h
   cases hb:g0k r with
   | none=>rw[hb] at h;cases h
   | some a =>
    rw[hb] at h
    have h:2^63+a=b:=Option.some.inj h
    obtain⟨h1,h2⟩:=(h0L r a).1 hb
    have hm:magC b=a:=by unfold magC;omega
    have hn:nanC b=false:=by unfold nanC;rw[hm];exact decide_eq_false (by omega)
    have hg:negC b=true:=by unfold negC;exact decide_eq_true (by omega)
    refine⟨by omega,hn,?_⟩
    unfold b0N
    rw[hn,hg,hm,h2];rfl
  ·have hp:g0k s=some b:=by
    cases s with
    | nil=>exact h
    | cons c r=>rw[←f0p c r (fun e=>hc ⟨r,by rw[e]⟩)];exact h
   obtain⟨h1,h2⟩:=(h0L s b).1 hp
   have hm:magC b=b:=by unfold magC;omega
   have hn:nanC b=false:=by unfold nanC;rw[hm];exact decide_eq_false (by omega)
   have hg:negC b=false:=by unfold negC;exact decide_eq_false (by omega)
   refine⟨by omega,hn,?_⟩
   unfold b0N
   rw[hn,hg,hm,h2];rfl
 ·rintro ⟨h1,hn,rfl⟩
  have hle:magC b≤2047*2^52:=by
   unfold nanC at hn
   have:=of_decide_eq_false hn
   omega
  have hb:=(h0L (h0t (magC b)) (magC b)).2 ⟨hle,rfl⟩
  unfold b0N
  rw[hn]
  cases hg:negC b with
  | true =>
   have:b/2^63=1:=of_decide_eq_true hg
   show (g0k (h0t (magC b))).map (2^63 + ·)=some b
   rw[hb]
   show some (2^63+magC b)=some b
   congr 1
   unfold magC
   omega
  | false =>
   have:¬b/2^63=1:=of_decide_eq_false hg
   show b0t (h0t (magC b))=some b
   obtain⟨c,r,e,hc⟩:=v0p (magC b)
   rw[e] at hb ⊢
   rw[f0p c r hc,hb]
   congr 1
   unfold magC
   omega
def d0s (c:UInt8):Bool:=decide (97≤c∧c≤122)||decide (65≤c∧c≤90)||decide (48≤c∧c≤57)||c==46||c==95||c==45
def c0l (s:List UInt8):Bool:=decide (1≤s.length)&&decide (s.length≤64)&&decide (s≠[46])&&decide (s≠[46,46])&&s.all d0s
def b0X:List UInt8→Bool
 | 47 :: r=>decide (r=[])||(decide (r.length+1≤256)&&(a0g 47 r).all c0l)
 | _=>false
def goN:List (List UInt8)→List (List UInt8)→Option (List (List UInt8))
 | l,[]=>some l
 | l,w :: ws =>
  if w=[]∨w=[46] then goN l ws
  else if w=[46,46] then (if l=[] then none else goN l.dropLast ws)
  else if c0l w then goN (l++[w]) ws else none
def f0t (l:List (List UInt8)):List UInt8:=if l=[] then [47] else l.flatMap fun w=>47 :: w
def j0j:List UInt8→Option (List UInt8)
 | 47 :: r=>match goN [] (a0g 47 r) with
  | none=>none
  | some l=>if (f0t l).length≤256 then some (f0t l) else none
 | _=>none
theorem a1L:d0s 47=false:=by decide
theorem w0Q (s:List UInt8) (h:c0l s=true):∀c∈s,c≠47:=by
 unfold c0l at h
 rw[Bool.and_eq_true,List.all_eq_true] at h
 intro c hc e
 have:=h.2 c hc
 rw[e,a1L] at this;cases this
theorem c1t (s:List UInt8) (h:c0l s=true):s≠[]∧s≠[46]∧s≠[46,46]:=by
 unfold c0l at h
 simp only[Bool.and_eq_true,decide_eq_true_iff] at h
 obtain⟨⟨⟨⟨h1,h2⟩,h3⟩,h4⟩,h5⟩:=h
 refine⟨?_,h3,h4⟩
 rintro rfl
 simp at h1
theorem l0Z (p:List UInt8) (h:b0X p=true):∃r,p=47 :: r:=by
 match p,h with
 | [],h=>cases h
 | c :: r,h =>
  by_cases hc:c=47
  ·exact⟨r,by rw[hc]⟩
  ·unfold b0X at h
   split at h
   ·rename_i e;injection e with e1 e2;exact absurd e1 hc
   ·cases h
theorem o0l:∀(ws l x:List (List UInt8)),(∀w∈l,c0l w=true)→goN l ws=some x→∀w∈x,c0l w=true:=by
 intro ws
 induction ws with
 | nil=>intro l x hl h;cases h;exact hl
 | cons w ws ih =>
  intro l x hl h
  rw[goN] at h
  split at h
  ·exact ih l x hl h
  ·split at h
   ·split at h
    ·cases h
    ·exact ih l.dropLast x (fun v hv=>hl v (List.dropLast_subset l hv)) h
   ·split at h
    ·rename_i hw
     refine ih (l++[w]) x (fun v hv=>?_) h
     rcases List.mem_append.1 hv with hv | hv
     ·exact hl v hv
     ·rw[List.mem_singleton.1 hv];exact hw
    ·cases h
theorem r0B:∀(ws l:List (List UInt8)),(∀w∈ws,c0l w=true)→goN l ws=some (l++ws):=by
 intro ws
 induction ws with
 | nil=>intro l _;rw[goN,List.append_nil]
 | cons w ws ih =>
  intro l hw
  have h1:=hw w (List.mem_cons_self ..)
  obtain⟨n1,n2,n3⟩:=c1t w h1
  rw[goN,if_neg (by rintro (h | h);exact n1 h;exact n2 h),if_neg n3,if_pos h1,ih (l++[w]) (fun v hv=>hw v (List.mem_cons_of_mem _ hv)),List.append_assoc]
  rfl
theorem v0V (l:List (List UInt8)) (h:l≠[]):(l.flatMap fun w=>47 :: w)=47 :: b0i 47 l:=by
 induction l with
 | nil=>exact absurd rfl h
 | cons w ws ih =>
  rw[List.flatMap_cons]
  by_cases he:ws=[]
  ·subst he;simp[b0i]
  ·rw[ih he,b0v 47 w ws he];rfl
theorem k0o (l:List (List UInt8)) (h:l≠[]) (hn:∀w∈l,c0l w=true):f0t l=47 :: b0i 47 l∧a0g 47 (b0i 47 l)=l:=by
 refine⟨by unfold f0t;rw[if_neg h];exact v0V l h,?_⟩
 exact h0H 47 l h fun p hp c hc=>w0Q p (hn p hp) c hc
theorem q0s (p x:List UInt8) (h:j0j p=some x):b0X x=true∧j0j x=some x:=by
 unfold j0j at h
 split at h
 ·rename_i r
  split at h
  ·cases h
  ·rename_i l hl
   split at h
   ·rename_i hlen
    cases h
    have hn:=o0l _ [] l (fun w hw=>by cases hw) hl
    by_cases he:l=[]
    ·subst he
     exact⟨rfl,rfl⟩
    ·obtain⟨e1,e2⟩:=k0o l he hn
     rw[e1] at hlen ⊢
     rw[List.length_cons] at hlen
     constructor
     ·show (decide (b0i 47 l=[])||(decide ((b0i 47 l).length+1≤256)&&(a0g 47 (b0i 47 l)).all c0l))=true
      rw[e2,decide_eq_true hlen,Bool.true_and,Bool.or_eq_true]
      exact .inr (List.all_eq_true.2 hn)
     ·show (match goN [] (a0g 47 (b0i 47 l)) with
       | none=>none
       | some l=>if (f0t l).length≤256 then some (f0t l) else none)=_
      rw[e2,r0B l [] hn,List.nil_append]
      show (if (f0t l).length≤256 then some (f0t l) else none)=_
      rw[if_pos (by rw[e1,List.length_cons];exact hlen),e1]
   ·cases h
 ·cases h
def inkB (c:UInt8):Bool:=decide (32≤c.toNat)&&decide (c.toNat≤126)
def c0h (s:List UInt8):Option (List (List UInt8)) :=
 if s=[] then some [] else if s.length≤512∧s.all inkB=true∧(a0g 32 s).all (fun p=>decide (p≠[]))=true then some (a0g 32 s) else none
def lowB (c:UInt8):Bool:=decide (97≤c.toNat)&&decide (c.toNat≤122)
def d0F (s:List UInt8):Bool:=decide (1≤s.length)&&decide (s.length≤16)&&s.all lowB
def okAt (l:List (List UInt8)) (i:Nat):Bool:=d0F (l.getD i [])&&(decide (i=0)||Op.bytesLess (l.getD (i - 1) []) (l.getD i []))
def c0Y (l:List (List UInt8)):Bool:=decide (1≤l.length)&&decide (l.length≤32)&&(List.range l.length).all (okAt l)
def c0o (s:List UInt8):Option (List (List UInt8)):=if c0Y (a0g 44 s)=true then some (a0g 44 s) else none
def b0V (l:List (List UInt8)):List UInt8:=if c0Y l=true then b0i 44 l else []
def a0J (s:List UInt8):Option Nat:=match a0P 10 20 s with
 | none=>none
 | some n=>if n < 2^64 then some n else none
theorem i0g (l:List (List UInt8)):c0Y l=true↔1≤l.length∧l.length≤32∧∀i < l.length,okAt l i=true:=by
 unfold c0Y
 rw[Bool.and_eq_true,Bool.and_eq_true,decide_eq_true_iff,decide_eq_true_iff,List.all_eq_true]
 constructor
 ·rintro ⟨⟨h1,h2⟩,h3⟩
  exact⟨h1,h2,fun i hi=>h3 i (List.mem_range.2 hi)⟩
 ·rintro ⟨h1,h2,h3⟩
  exact⟨⟨h1,h2⟩,fun i hi=>h3 i (List.mem_range.1 hi)⟩
theorem p0f (l:List (List UInt8)) (i:Nat) (hi:i < l.length) (h:okAt l i=false):c0Y l=false:=by
 cases hr:c0Y l with
 | false=>rfl
 | true=>have:=((i0g l).1 hr).2.2 i hi;rw[h] at this;cases this
theorem k0K (l:List (List UInt8)) (h:c0Y l=true):∀p∈l,d0F p=true:=by
 intro p hp
 obtain⟨i,hi,rfl⟩:=List.mem_iff_getElem.1 hp
 have:=((i0g l).1 h).2.2 i hi
 unfold okAt at this
 rw[Bool.and_eq_true] at this
 rw[←this.1,List.getD_eq_getElem?_getD,List.getElem?_eq_getElem hi];rfl
theorem o0I (p:List UInt8) (h:d0F p=true):p≠[]∧∀c∈p,c≠44:=by
 unfold d0F at h
 rw[Bool.and_eq_true,Bool.and_eq_true,decide_eq_true_iff,List.all_eq_true] at h
 refine⟨?_,?_⟩
 ·rintro rfl;have:=h.1.1;simp at this
 ·rintro c hc rfl
  have:=h.2 44 hc
  revert this;decide
theorem t0A (l:List (List UInt8)):c0o (b0V l)=if c0Y l=true then some l else none:=by
 unfold c0o b0V
 by_cases h:c0Y l=true
 ·rw[if_pos h,if_pos h]
  have hne:l≠[]:=by rintro rfl;simp[c0Y] at h
  rw[h0H 44 l hne (fun p hp=>(o0I p (k0K l h p hp)).2),if_pos h]
 ·rw[if_neg h,if_neg h]
  have:c0Y (a0g 44 [])=false:=by decide
  rw[this];rfl
theorem z0N (l:List (List UInt8)) (h:c0Y l=false):b0V l=[]:=by
 unfold b0V
 rw[h];rfl
theorem u0Q (s:List UInt8) (x:List (List UInt8)) (h:c0h s=some x):s=[]∧x=[]∨s≠[]∧s.length≤512∧s.all inkB=true∧(a0g 32 s).all (fun p=>decide (p≠[]))=true∧x=a0g 32 s:=by
 unfold c0h at h
 split at h
 ·rename_i e;cases h;exact .inl ⟨e,rfl⟩
 ·rename_i e
  split at h
  ·rename_i k;cases h;exact .inr ⟨e,k.1,k.2.1,k.2.2,rfl⟩
  ·cases h
theorem h0b (n:Nat) (h:n < 2^64):(numL 10 n).length≤20:=by
 have key:∀k n:Nat,n < 10^(k+1)→(numL 10 n).length≤k+1:=by
  intro k
  induction k with
  | zero=>intro n h;rw[a0S 10 n (by omega)];simp
  | succ k ih =>
   intro n h
   by_cases hs:n < 10
   ·rw[a0S 10 n hs];simp
   ·rw[b0p 10 n (by omega) (by omega),List.length_append]
    have:=ih (n/10) (by rw[Nat.pow_succ] at h;omega)
    simp;omega
 exact key 19 n (Nat.lt_trans h (by decide))
theorem d0Z (n:Nat) (h:n < 2^64):a0J (numL 10 n)=some n:=by
 unfold a0J
 rw[(c0W 10 20 (by omega) (by omega) (numL 10 n) n).2 ⟨rfl,h0b n h⟩]
 show (if n < 2^64 then some n else none)=_
 rw[if_pos h]
structure Prd where
 kind:Int
 time:Nat
 names:List (List UInt8)
 path:List UInt8
 net:Rng
 cost:Nat
structure Prd.Ok (p:Prd):Prop where
 net:p.net.Ok
 time:p.time < 2^64
 cost:p.cost < 2^64
def u0t (a b:Rng):Bool:=(a.a.v6==b.a.v6&&decide (a.a.b=b.a.b))&&a.n==b.n
theorem x0R (a b:Rng):u0t a b=true↔a=b:=by
 unfold u0t
 obtain⟨⟨v,l⟩,n⟩:=a
 obtain⟨⟨v',l'⟩,n'⟩:=b
 simp[and_assoc]
def g0g:Prd:=⟨0,0,[],[],a0T,0⟩
def h0Y (p:Prd):Bool:=(decide (p.kind=1)||decide (p.kind=2)||decide (p.time=0))&&(decide (p.kind=3)||decide (p.names=[]))&&(decide (p.kind=4)||decide (p.path=[]))&&(decide (p.kind=5)||u0t p.net a0T)&&(decide (p.kind=6)||decide (p.cost=0))
def a0A (p:Prd):List UInt8×List UInt8 :=
 if p.kind=1 then ([98,101,102,111,114,101],numL 10 p.time)
 else if p.kind=2 then ([115,105,110,99,101],numL 10 p.time)
 else if p.kind=3 then ([111,112],b0V p.names)
 else if p.kind=4∧b0X p.path=true then ([112,97,116,104],p.path)
 else if p.kind=5 then ([110,101,116],b0y p.net)
 else if p.kind=6 then ([99,111,115,116],b0N p.cost)
 else ([],[])
def c0A (p:Prd):List UInt8 :=
 if (a0A p).2=[]∨h0Y p=false∨511 < (a0A p).1.length+(a0A p).2.length then [] else (a0A p).1++32 :: (a0A p).2
def g0h:List UInt8→Option Nat
 | []=>none
 | c :: s=>if c=32 then some 0 else (g0h s).map (· + 1)
theorem f0l (t u:List UInt8) (h:∀c∈t,c≠32):g0h (t++32 :: u)=some t.length:=by
 induction t with
 | nil=>rfl
 | cons c t ih =>
  rw[List.cons_append,g0h,if_neg (h c (List.mem_cons_self ..)),ih (fun d hd=>h d (List.mem_cons_of_mem _ hd))];rfl
theorem v0n (s:List UInt8) (k:Nat) (hk:k < s.length) (h:s.getD k 0=32) (hn:∀j < k,s.getD j 0≠32):g0h s=some k:=by
 have e:s=s.take k++32 :: s.drop (k+1):=by
  conv=>lhs;rw[←List.take_append_drop k s]
  rw[List.drop_eq_getElem_cons hk]
  rw[List.getD_eq_getElem?_getD,List.getElem?_eq_getElem hk] at h
  have h:s[k]=32:=h
  rw[h]
 have hl:(s.take k).length=k:=by rw[List.length_take];omega
 conv=>lhs;rw[e]
 rw[f0l _ _ ?_,hl]
 intro c hc
 obtain⟨j,hj,rfl⟩:=List.mem_iff_getElem.1 hc
 rw[hl] at hj
 have:=hn j hj
 rw[List.getD_eq_getElem?_getD,List.getElem?_eq_getElem (by omega)] at this
 rw[List.getElem_take]
 exact this
theorem p0V (s:List UInt8) (h:∀j < s.length,s.getD j 0≠32):g0h s=none:=by
 induction s with
 | nil=>rfl
 | cons c s ih =>
  rw[g0h,if_neg (by simpa using h 0 (by simp)),ih (fun j hj=>by simpa using h (j+1) (by simpa using hj))];rfl
def g0s (b:List UInt8):List Prd :=
 [⟨1,(a0J b).getD 0,[],[],a0T,0⟩,⟨2,(a0J b).getD 0,[],[],a0T,0⟩,⟨3,0,(c0o b).getD [],[],a0T,0⟩,⟨4,0,[],b,a0T,0⟩,⟨5,0,[],[],(b0u b).getD a0T,0⟩,⟨6,0,[],[],a0T,(b0t b).getD 0⟩]
def c0L (s:List UInt8):Option Prd :=
 if 512 < s.length then none else match g0h s with
  | none=>none
  | some k=>(g0s (s.drop (k+1))).find? fun p=>decide (c0A p=s)
theorem i0n (p:Prd) (h:c0A p≠[]):(a0A p).2≠[]∧h0Y p=true∧(a0A p).1.length+(a0A p).2.length≤511∧c0A p=(a0A p).1++32 :: (a0A p).2:=by
 unfold c0A at h ⊢
 by_cases hc:(a0A p).2=[]∨h0Y p=false∨511 < (a0A p).1.length+(a0A p).2.length
 ·rw[if_pos hc] at h;exact absurd rfl h
 ·rw[if_neg hc]
  refine⟨fun e=>hc (.inl e),?_,?_,rfl⟩
  ·cases ho:h0Y p with
   | true=>rfl
   | false=>exact absurd (.inr (.inl ho)) hc
  ·rcases Nat.lt_or_ge 511 ((a0A p).1.length+(a0A p).2.length) with h1 | h1
   ·exact absurd (.inr (.inr h1)) hc
   ·exact h1
theorem c0y (p:Prd) (h:(a0A p).2≠[]) :
  p.kind=1∧a0A p=([98,101,102,111,114,101],numL 10 p.time)∨p.kind=2∧a0A p=([115,105,110,99,101],numL 10 p.time)∨p.kind=3∧a0A p=([111,112],b0V p.names) ∨
  p.kind=4∧a0A p=([112,97,116,104],p.path)∨p.kind=5∧a0A p=([110,101,116],b0y p.net)∨p.kind=6∧a0A p=([99,111,115,116],b0N p.cost):=by
 unfold a0A at h ⊢
 by_cases h1:p.kind=1
 ·rw[if_pos h1];exact .inl ⟨h1,rfl⟩
 rw[if_neg h1] at h ⊢
 by_cases h2:p.kind=2
 ·rw[if_pos h2];exact .inr (.inl ⟨h2,rfl⟩)
 rw[if_neg h2] at h ⊢
 by_cases h3:p.kind=3
 ·rw[if_pos h3];exact .inr (.inr (.inl ⟨h3,rfl⟩))
 rw[if_neg h3] at h ⊢
 by_cases h4:p.kind=4∧b0X p.path=true
 ·rw[if_pos h4];exact .inr (.inr (.inr (.inl ⟨h4.1,rfl⟩)))
 rw[if_neg h4] at h ⊢
 by_cases h5:p.kind=5
 ·rw[if_pos h5];exact .inr (.inr (.inr (.inr (.inl ⟨h5,rfl⟩))))
 rw[if_neg h5] at h ⊢
 by_cases h6:p.kind=6
 ·rw[if_pos h6];exact .inr (.inr (.inr (.inr (.inr ⟨h6,rfl⟩))))
 rw[if_neg h6] at h
 exact absurd rfl h
theorem l0j (p:Prd) (h:(a0A p).2≠[]):∀c∈(a0A p).1,c≠32:=by
 rcases c0y p h with ⟨-,e⟩ | ⟨-,e⟩ | ⟨-,e⟩ | ⟨-,e⟩ | ⟨-,e⟩ | ⟨-,e⟩<;>rw[e]<;>dsimp only<;>decide
theorem h0c (p:Prd) (h:h0Y p=true):(p.kind=1∨p.kind=2∨p.time=0)∧(p.kind=3∨p.names=[])∧(p.kind=4∨p.path=[])∧(p.kind=5∨p.net=a0T)∧(p.kind=6∨p.cost=0):=by
 unfold h0Y at h
 simp only[Bool.and_eq_true,Bool.or_eq_true,decide_eq_true_iff,x0R] at h
 obtain⟨⟨⟨⟨h1,h2⟩,h3⟩,h4⟩,h5⟩:=h
 exact⟨by rcases h1 with (h | h) | h;exact .inl h;exact .inr (.inl h);exact .inr (.inr h),h2,h3,h4,h5⟩
theorem f0V (l:List (List UInt8)) (h:b0V l≠[]):c0o (b0V l)=some l:=by
 rw[t0A]
 cases hr:c0Y l with
 | true=>rfl
 | false=>exact absurd (z0N l hr) h
theorem f0Y (r:Rng) (ho:r.Ok) (h:b0y r≠[]):b0u (b0y r)=some r:=(f0b _ r).2 ⟨ho.a,(h0g r h).1,rfl⟩
theorem f0X (b:Nat) (hb:b < 2^64) (h:b0N b≠[]):b0t (b0N b)=some b:=by
 refine (f0I _ b).2 ⟨hb,?_,rfl⟩
 cases hn:nanC b with
 | false=>rfl
 | true=>exact absurd (by unfold b0N;rw[hn];rfl) h
theorem s0K (p:Prd) (ho:p.Ok) (h:c0A p≠[]):p∈g0s (a0A p).2:=by
 obtain⟨h2,honly,-,-⟩:=i0n p h
 obtain⟨o1,o2,o3,o4,o5⟩:=h0c p honly
 obtain⟨k,t,ns,pa,r,c⟩:=p
 unfold g0s
 simp only at o1 o2 o3 o4 o5
 rcases c0y _ h2 with ⟨e,hw⟩ | ⟨e,hw⟩ | ⟨e,hw⟩ | ⟨e,hw⟩ | ⟨e,hw⟩ | ⟨e,hw⟩<;>simp only at e<;>subst e<;>rw[hw] at h2 ⊢<;>simp only at h2 ⊢
 ·obtain rfl:ns=[]:=o2.resolve_left (by decide)
  obtain rfl:pa=[]:=o3.resolve_left (by decide)
  obtain rfl:r=a0T:=o4.resolve_left (by decide)
  obtain rfl:c=0:=o5.resolve_left (by decide)
  rw[d0Z t ho.time]
  simp
 ·obtain rfl:ns=[]:=o2.resolve_left (by decide)
  obtain rfl:pa=[]:=o3.resolve_left (by decide)
  obtain rfl:r=a0T:=o4.resolve_left (by decide)
  obtain rfl:c=0:=o5.resolve_left (by decide)
  rw[d0Z t ho.time]
  simp
 ·obtain rfl:t=0:=(o1.resolve_left (by decide)).resolve_left (by decide)
  obtain rfl:pa=[]:=o3.resolve_left (by decide)
  obtain rfl:r=a0T:=o4.resolve_left (by decide)
  obtain rfl:c=0:=o5.resolve_left (by decide)
  rw[f0V ns h2]
  simp
 ·obtain rfl:t=0:=(o1.resolve_left (by decide)).resolve_left (by decide)
  obtain rfl:ns=[]:=o2.resolve_left (by decide)
  obtain rfl:r=a0T:=o4.resolve_left (by decide)
  obtain rfl:c=0:=o5.resolve_left (by decide)
  simp
 ·obtain rfl:t=0:=(o1.resolve_left (by decide)).resolve_left (by decide)
  obtain rfl:ns=[]:=o2.resolve_left (by decide)
  obtain rfl:pa=[]:=o3.resolve_left (by decide)
  obtain rfl:c=0:=o5.resolve_left (by decide)
  rw[f0Y r ho.net h2]
  simp
 ·obtain rfl:t=0:=(o1.resolve_left (by decide)).resolve_left (by decide)
  obtain rfl:ns=[]:=o2.resolve_left (by decide)
  obtain rfl:pa=[]:=o3.resolve_left (by decide)
  obtain rfl:r=a0T:=o4.resolve_left (by decide)
  rw[f0X c ho.cost h2]
  simp
theorem w0d (a b c d:List UInt8) (ha:∀x∈a,x≠32) (hc:∀x∈c,x≠32) (h:a++32 :: b=c++32 :: d):a=c∧b=d:=by
 have e:a.length=c.length:=by
  have h1:=f0l a b ha
  rw[h,f0l c d hc] at h1
  exact (Option.some.inj h1).symm
 obtain⟨h1,h2⟩:=List.append_inj h e
 exact⟨h1,(List.cons.inj h2).2⟩
theorem y0H (p q:Prd) (hp:(a0A p).2≠[]) (hq:(a0A q).2≠[]) (h:(a0A p).1=(a0A q).1):p.kind=q.kind:=by
 rcases c0y p hp with ⟨e,hw⟩ | ⟨e,hw⟩ | ⟨e,hw⟩ | ⟨e,hw⟩ | ⟨e,hw⟩ | ⟨e,hw⟩ <;>
  rcases c0y q hq with ⟨f,hv⟩ | ⟨f,hv⟩ | ⟨f,hv⟩ | ⟨f,hv⟩ | ⟨f,hv⟩ | ⟨f,hv⟩<;>rw[hw,hv] at h<;>first | (rw[e,f];done) | (exact absurd h (by simp))
theorem y0I (p q:Prd) (hk:p.kind=q.kind) (hp:(a0A p).2≠[]) (hq:(a0A q).2≠[]) (h:(a0A p).2=(a0A q).2) :
  p.kind=1∧numL 10 p.time=numL 10 q.time∨p.kind=2∧numL 10 p.time=numL 10 q.time∨p.kind=3∧b0V p.names=b0V q.names∧b0V p.names≠[]∨p.kind=4∧p.path=q.path∨p.kind=5∧b0y p.net=b0y q.net∧b0y p.net≠[]∨p.kind=6∧b0N p.cost=b0N q.cost∧b0N p.cost≠[]:=by
 rcases c0y p hp with ⟨e,hw⟩ | ⟨e,hw⟩ | ⟨e,hw⟩ | ⟨e,hw⟩ | ⟨e,hw⟩ | ⟨e,hw⟩ <;>
  rcases c0y q hq with ⟨f,hv⟩ | ⟨f,hv⟩ | ⟨f,hv⟩ | ⟨f,hv⟩ | ⟨f,hv⟩ | ⟨f,hv⟩ <;>
  first
   | (exfalso;rw[e,f] at hk;exact absurd hk (by decide))
   | (rw [hw] at hp h; rw [hv] at h; simp only at hp h
      first
       | exact .inl ⟨e,h⟩
       | exact .inr (.inl ⟨e,h⟩)
       | exact .inr (.inr (.inl ⟨e,h,hp⟩))
       | exact .inr (.inr (.inr (.inl ⟨e,h⟩)))
       | exact .inr (.inr (.inr (.inr (.inl ⟨e,h,hp⟩))))
       | exact .inr (.inr (.inr (.inr (.inr ⟨e,h,hp⟩)))))
theorem y0w (p q:Prd) (hp:p.Ok) (hq:q.Ok) (h:c0A p=c0A q) (hne:c0A p≠[]):p=q:=by
 obtain⟨p2,po,-,pe⟩:=i0n p hne
 obtain⟨q2,qo,-,qe⟩:=i0n q (by rw[←h];exact hne)
 rw[pe,qe] at h
 obtain⟨h1,h2⟩:=w0d _ _ _ _ (l0j p p2) (l0j q q2) h
 have hk:=y0H p q p2 q2 h1
 obtain⟨o1,o2,o3,o4,o5⟩:=h0c p po
 obtain⟨u1,u2,u3,u4,u5⟩:=h0c q qo
 have hw:=y0I p q hk p2 q2 h2
 have key:p.time=q.time∧p.names=q.names∧p.path=q.path∧p.net=q.net∧p.cost=q.cost:=by
  rcases hw with ⟨e,hh⟩ | ⟨e,hh⟩ | ⟨e,hh,hn⟩ | ⟨e,hh⟩ | ⟨e,hh,hn⟩ | ⟨e,hh,hn⟩<;>rw[←hk] at u1 u2 u3 u4 u5<;>rw[e] at o1 o2 o3 o4 o5 u1 u2 u3 u4 u5
  ·exact⟨j0y 10 _ _ (by omega) (by omega) hh,by rw[o2.resolve_left (by decide),u2.resolve_left (by decide)],by rw[o3.resolve_left (by decide),u3.resolve_left (by decide)],by rw[o4.resolve_left (by decide),u4.resolve_left (by decide)],by rw[o5.resolve_left (by decide),u5.resolve_left (by decide)]⟩
  ·exact⟨j0y 10 _ _ (by omega) (by omega) hh,by rw[o2.resolve_left (by decide),u2.resolve_left (by decide)],by rw[o3.resolve_left (by decide),u3.resolve_left (by decide)],by rw[o4.resolve_left (by decide),u4.resolve_left (by decide)],by rw[o5.resolve_left (by decide),u5.resolve_left (by decide)]⟩
  all_goals have ht:p.time=q.time:=by rw[(o1.resolve_left (by decide)).resolve_left (by decide),(u1.resolve_left (by decide)).resolve_left (by decide)]
  ·refine⟨ht,?_,by rw[o3.resolve_left (by decide),u3.resolve_left (by decide)],by rw[o4.resolve_left (by decide),u4.resolve_left (by decide)],by rw[o5.resolve_left (by decide),u5.resolve_left (by decide)]⟩
   have k1:=f0V p.names hn
   rw[hh,f0V q.names (by rw[←hh];exact hn)] at k1
   exact (Option.some.inj k1).symm
  ·exact⟨ht,by rw[o2.resolve_left (by decide),u2.resolve_left (by decide)],hh,by rw[o4.resolve_left (by decide),u4.resolve_left (by decide)],by rw[o5.resolve_left (by decide),u5.resolve_left (by decide)]⟩
  ·refine⟨ht,by rw[o2.resolve_left (by decide),u2.resolve_left (by decide)],by rw[o3.resolve_left (by decide),u3.resolve_left (by decide)],?_,by rw[o5.resolve_left (by decide),u5.resolve_left (by decide)]⟩
   have k1:=f0Y p.net hp.net hn
   rw[hh,f0Y q.net hq.net (by rw[←hh];exact hn)] at k1
   exact (Option.some.inj k1).symm
  ·refine⟨ht,by rw[o2.resolve_left (by decide),u2.resolve_left (by decide)],by rw[o3.resolve_left (by decide),u3.resolve_left (by decide)],by rw[o4.resolve_left (by decide),u4.resolve_left (by decide)],?_⟩
   have k1:=f0X p.cost hp.cost hn
   rw[hh,f0X q.cost hq.cost (by rw[←hh];exact hn)] at k1
   exact (Option.some.inj k1).symm
 obtain⟨k,t,ns,pa,r,c⟩:=p
 obtain⟨k',t',ns',pa',r',c'⟩:=q
 simp only at hk key
 obtain⟨rfl,rfl,rfl,rfl,rfl⟩:=key
 subst hk
 rfl
theorem j0N:g0g.Ok:=⟨c0a,by decide,by decide⟩
theorem f0G (s:List UInt8):(a0J s).getD 0 < 2^64:=by
 unfold a0J
 split
 ·decide
 ·split
  ·assumption
  ·decide
theorem g0R (b:List UInt8):∀p∈g0s b,p.Ok:=by
 have hr:((b0u b).getD a0T).Ok:=by
  cases h:b0u b with
  | none=>exact c0a
  | some r =>
   obtain⟨h1,h2,-⟩:=(f0b b r).1 h
   have:=d0v r h2
   exact⟨h1,by show _≤r.n;omega,by show r.n≤_;omega⟩
 have hc:(b0t b).getD 0 < 2^64:=by
  cases h:b0t b with
  | none=>decide
  | some c=>exact ((f0I b c).1 h).1
 have hn:=f0G b
 intro p hp
 unfold g0s at hp
 simp only[List.mem_cons,List.not_mem_nil,or_false] at hp
 rcases hp with rfl | rfl | rfl | rfl | rfl | rfl
 ·exact⟨c0a,hn,by show (0:Nat) < 2^64;decide⟩
 ·exact⟨c0a,hn,by show (0:Nat) < 2^64;decide⟩
 ·exact⟨c0a,by show (0:Nat) < 2^64;decide,by show (0:Nat) < 2^64;decide⟩
 ·exact⟨c0a,by show (0:Nat) < 2^64;decide,by show (0:Nat) < 2^64;decide⟩
 ·exact⟨hr,by show (0:Nat) < 2^64;decide,by show (0:Nat) < 2^64;decide⟩
 ·exact⟨c0a,by show (0:Nat) < 2^64;decide,hc⟩
theorem l0U (s:List UInt8) (p:Prd):c0L s=some p↔p.Ok∧c0A p=s∧s≠[]:=by
 constructor
 ·intro h
  unfold c0L at h
  by_cases hl:512 < s.length
  ·rw[if_pos hl] at h;cases h
  ·rw[if_neg hl] at h
   cases hb:g0h s with
   | none=>rw[hb] at h;cases h
   | some k =>
    rw[hb] at h
    have h:(g0s (s.drop (k+1))).find? (fun p=>decide (c0A p=s))=some p:=h
    have h1:c0A p=s:=of_decide_eq_true (List.find?_some (p:=fun p=>decide (c0A p=s)) h)
    refine⟨g0R _ p (List.mem_of_find?_eq_some h),h1,?_⟩
    rintro rfl
    cases hb
 ·rintro ⟨ho,rfl,hne⟩
  obtain⟨h2,-,hl,he⟩:=i0n p hne
  have hb:g0h (c0A p)=some (a0A p).1.length:=by rw[he];exact f0l _ _ (l0j p h2)
  have hd:(c0A p).drop ((a0A p).1.length+1)=(a0A p).2:=by
   rw[he,←List.drop_drop,List.drop_left];rfl
  have hlen:¬512 < (c0A p).length:=by rw[he,List.length_append,List.length_cons];omega
  unfold c0L
  rw[if_neg hlen,hb]
  show (g0s ((c0A p).drop ((a0A p).1.length+1))).find? (fun q=>decide (c0A q=c0A p))=some p
  rw[hd]
  cases hf:(g0s (a0A p).2).find? (fun q=>decide (c0A q=c0A p)) with
  | none =>
   have:=List.find?_eq_none.1 hf p (s0K p ho hne)
   simp at this
  | some q =>
   have h1:c0A q=c0A p:=of_decide_eq_true (List.find?_some (p:=fun q=>decide (c0A q=c0A p)) hf)
   rw[y0w q p (g0R _ q (List.mem_of_find?_eq_some hf)) ho h1 (by rw[h1];exact hne)]
end Go.Proofs.YtcbilopdeiapjaaGreatDoor
