import Derived.Test.YtcbilopdeiapjaaGreatDoorRgao
set_option maxHeartbeats 16000000
set_option maxRecDepth 100000
open Go.Proofs.Tryz
namespace Go.Proofs.YtcbilopdeiapjaaGreatDoor
open Go Go.RowKit
def d0S (l:List UInt8):Prop:=∀c∈l,inkB c=true∧c≠32
theorem d0n:d0S []:=fun _ hc=>absurd hc List.not_mem_nil
theorem b0K {c:UInt8} {l:List UInt8} (hc:inkB c=true∧c≠32) (h:d0S l):d0S (c :: l):=by
 intro d hd
 rcases List.mem_cons.1 hd with rfl | hd
 ·exact hc
 ·exact h d hd
theorem f0n {a b:List UInt8} (ha:d0S a) (hb:d0S b):d0S (a++b):=by
 intro d hd
 rcases List.mem_append.1 hd with hd | hd
 ·exact ha d hd
 ·exact hb d hd
theorem o0o (i:Nat) (h:i < 16):inkB (hexD i)=true∧hexD i≠32:=by
 have key:∀i:Fin 16,inkB (hexD i.1)=true∧hexD i.1≠32:=by decide +kernel
 exact key ⟨i,h⟩
theorem f0o (b n:Nat) (h2:2≤b) (hb:b≤16):d0S (numL b n):=by
 induction n using Nat.strongRecOn with
 | _ n ih =>
  by_cases h:n < b
  ·rw[a0S b n h]
   exact b0K (o0o n (by omega)) d0n
  ·rw[b0p b n h2 (by omega)]
   exact f0n (ih (n/b) (Nat.div_lt_self (by omega) (by omega))) (b0K (o0o _ (Nat.lt_of_lt_of_le (Nat.mod_lt _ (by omega)) hb)) d0n)
theorem k0k (x:UInt8) (ps:List (List UInt8)) (hx:inkB x=true∧x≠32) (h:∀p∈ps,d0S p):d0S (b0i x ps):=by
 intro c hc
 rcases j0w x ps c hc with rfl | ⟨p,hp,hc⟩
 ·exact hx
 ·exact h p hp c hc
theorem i0C (l:List Nat):d0S (b0S l):=by
 rw[b0T]
 refine k0k 58 _ (by decide) fun p hp=>?_
 obtain⟨n,_,rfl⟩:=List.mem_map.1 hp
 exact f0o 16 n (by omega) (by omega)
theorem u0K (l:List Nat):d0S (d0M l):=by
 unfold d0M
 simp only[]
 split
 ·exact i0C l
 ·exact f0n (i0C _) (b0K (by decide) (b0K (by decide) (i0C _)))
theorem u0I (a:Adr):d0S (a0Y a):=by
 unfold a0Y
 split
 ·split
  ·exact u0K _
  ·have n:∀k,d0S (numL 10 k):=fun k=>f0o 10 k (by omega) (by omega)
   have d:inkB 46=true∧(46:UInt8)≠32:=by decide
   exact f0n (f0n (f0n (n _) (b0K d (n _))) (b0K d (n _))) (b0K d (n _))
 ·exact d0n
theorem u0M (r:Rng):d0S (b0y r):=by
 by_cases h:b0y r=[]
 ·rw[h];exact d0n
 ·rw[(h0g r h).2]
  exact f0n (u0I _) (b0K (by decide) (f0o 10 _ (by omega) (by omega)))
theorem z0P (c:UInt8) (h:lowB c=true):inkB c=true∧c≠32:=by
 unfold lowB at h
 rw[Bool.and_eq_true,decide_eq_true_iff,decide_eq_true_iff] at h
 refine⟨?_,?_⟩
 ·unfold inkB
  rw[Bool.and_eq_true,decide_eq_true_iff,decide_eq_true_iff];omega
 ·rintro rfl
  exact absurd h.1 (by decide)
theorem x0V (c:UInt8) (h:d0s c=true):inkB c=true∧c≠32:=by
 have key:∀i:Fin 256,d0s (UInt8.ofNat i.1)=true→inkB (UInt8.ofNat i.1)=true∧UInt8.ofNat i.1≠32:=by decide +kernel
 have e:UInt8.ofNat c.toNat=c:=UInt8.ofNat_toNat
 have:=key ⟨c.toNat,c.toNat_lt⟩
 rw[e] at this
 exact this h
theorem q0m (l:List (List UInt8)):d0S (b0V l):=by
 unfold b0V
 split
 ·rename_i h
  refine k0k 44 l (by decide) fun p hp c hc=>?_
  have:=k0K l h p hp
  unfold d0F at this
  rw[Bool.and_eq_true,List.all_eq_true] at this
  exact z0P c (this.2 c hc)
 ·exact d0n
theorem u0k (p:List UInt8) (h:b0X p=true):d0S p:=by
 obtain⟨r,rfl⟩:=l0Z p h
 refine b0K (by decide) ?_
 have h:(decide (r=[])||(decide (r.length+1≤256)&&(a0g 47 r).all c0l))=true:=h
 rw[Bool.or_eq_true,decide_eq_true_iff,Bool.and_eq_true,List.all_eq_true] at h
 rcases h with rfl | ⟨-,h⟩
 ·exact d0n
 ·rw[←c0H 47 r]
  refine k0k 47 _ (by decide) fun p hp c hc=>?_
  have:=h p hp
  unfold c0l at this
  rw[Bool.and_eq_true,List.all_eq_true] at this
  exact x0V c (this.2 c hc)
theorem w0u (p:Int):d0S (intL p):=by
 unfold intL
 split
 ·exact b0K (by decide) (f0o 10 _ (by omega) (by omega))
 ·exact f0o 10 _ (by omega) (by omega)
theorem s0G (a:Nat):d0S (h0t a):=by
 unfold h0t
 split
 ·exact b0K (by decide) d0n
 ·split
  ·exact b0K (by decide) (b0K (by decide) (b0K (by decide) d0n))
  ·exact f0n (f0o 10 _ (by omega) (by omega)) (b0K (by decide) (w0u _))
theorem u0J (b:Nat):d0S (b0N b):=by
 unfold b0N
 split
 ·exact d0n
 ·refine f0n ?_ (s0G _)
  split
  ·exact b0K (by decide) d0n
  ·exact d0n
theorem y0L (a b:List UInt8) (ha:d0S a) (hb:d0S b) (ha0:a≠[]) (hb0:b≠[]) (hl:a.length+b.length≤511):c0h (a++32 :: b)=some [a,b]:=by
 have e:a0g 32 (a++32 :: b)=[a,b]:=by
  rw[u0A,d0g 32 a (fun c hc=>(ha c hc).2),d0g 32 b (fun c hc=>(hb c hc).2)];rfl
 unfold c0h
 rw[if_neg (by simp),e,if_pos]
 refine⟨by rw[List.length_append,List.length_cons];omega,?_,?_⟩
 ·rw[List.all_append,List.all_cons,List.all_eq_true.2 (fun c hc=>(ha c hc).1),List.all_eq_true.2 (fun c hc=>(hb c hc).1)];rfl
 ·simp[ha0,hb0]
theorem p0H (s a b:List UInt8) (h:c0h s=some [a,b]):s=a++32 :: b∧a≠[]∧b≠[]∧a.length+b.length≤511:=by
 rcases u0Q s _ h with ⟨-,h⟩ | ⟨-,h1,-,h2,h3⟩
 ·cases h
 ·have e:=c0H 32 s
  rw[←h3] at e h2
  have e:a++32 :: b=s:=e
  rw[←e] at h1 ⊢
  rw[List.length_append,List.length_cons] at h1
  simp at h2
  exact⟨rfl,h2.1,h2.2,by omega⟩
def g0G (a b:List UInt8):Option Prd :=
 if a=[98,101,102,111,114,101] then (a0J b).map fun n=>⟨1,n,[],[],a0T,0⟩
 else if a=[115,105,110,99,101] then (a0J b).map fun n=>⟨2,n,[],[],a0T,0⟩
 else if a=[111,112] then (c0o b).map fun l=>⟨3,0,l,[],a0T,0⟩
 else if a=[112,97,116,104] then (if b0X b=true then some ⟨4,0,[],b,a0T,0⟩ else none)
 else if a=[110,101,116] then (b0u b).map fun r=>⟨5,0,[],[],r,0⟩
 else if a=[99,111,115,116] then (b0t b).map fun c=>⟨6,0,[],[],a0T,c⟩
 else none
def l0S (s:List UInt8):Option Prd:=match c0h s with
 | some [a,b]=>g0G a b
 | _=>none
theorem r0g (p:Prd) (h:(a0A p).2≠[]):d0S (a0A p).1∧d0S (a0A p).2∧(a0A p).1≠[]:=by
 have w:∀l:List UInt8,(l.all fun c=>inkB c&&decide (c≠32))=true→d0S l:=by
  intro l hl c hc
  have:=List.all_eq_true.1 hl c hc
  rw[Bool.and_eq_true,decide_eq_true_iff] at this
  exact this
 have hr:p.kind=4→(a0A p).2=p.path→b0X p.path=true:=by
  intro hk he
  cases hr:b0X p.path with
  | true=>rfl
  | false =>
   exfalso
   apply h
   unfold a0A
   rw[hk,hr];rfl
 rcases c0y p h with ⟨e,hw⟩ | ⟨e,hw⟩ | ⟨e,hw⟩ | ⟨e,hw⟩ | ⟨e,hw⟩ | ⟨e,hw⟩<;>rw[hw] at hr ⊢<;>refine⟨w _ (by dsimp only;decide),?_,by dsimp only;simp⟩
 ·exact f0o 10 _ (by omega) (by omega)
 ·exact f0o 10 _ (by omega) (by omega)
 ·exact q0m _
 ·exact u0k _ (hr e rfl)
 ·exact u0M _
 ·exact u0J _
theorem a1P (p:Prd) (a b:List UInt8) (hw:a0A p=(a,b)) (hb:b≠[]) (ho:h0Y p=true) (hl:a.length+b.length≤511):c0A p=a++32 :: b:=by
 unfold c0A
 rw[hw,if_neg]
 rintro (h | h | h)
 ·exact hb h
 ·rw[ho] at h;cases h
 ·have h:511 < a.length+b.length:=h
  omega
theorem x0A (a b:List UInt8) (p:Prd) (h:g0G a b=some p):p.Ok∧h0Y p=true∧a0A p=(a,b):=by
 unfold g0G at h
 split at h
 ·rename_i e
  obtain⟨n,hn,rfl⟩:=Option.map_eq_some_iff.1 h
  have h1:=f0G b
  rw[hn] at h1
  have hv:numL 10 n=b:=by
   unfold a0J at hn
   split at hn
   ·cases hn
   ·rename_i m hm
    split at hn
    ·cases hn;exact ((c0W 10 20 (by omega) (by omega) b _).1 hm).1
    ·cases hn
  refine⟨⟨c0a,h1,by show (0:Nat) < 2^64;decide⟩,rfl,?_⟩
  show (_,numL 10 n)=_
  rw[hv,e]
 split at h
 ·rename_i e
  obtain⟨n,hn,rfl⟩:=Option.map_eq_some_iff.1 h
  have h1:=f0G b
  rw[hn] at h1
  have hv:numL 10 n=b:=by
   unfold a0J at hn
   split at hn
   ·cases hn
   ·rename_i m hm
    split at hn
    ·cases hn;exact ((c0W 10 20 (by omega) (by omega) b _).1 hm).1
    ·cases hn
  refine⟨⟨c0a,h1,by show (0:Nat) < 2^64;decide⟩,rfl,?_⟩
  show (_,numL 10 n)=_
  rw[hv,e]
 split at h
 ·rename_i e
  obtain⟨l,hn,rfl⟩:=Option.map_eq_some_iff.1 h
  refine⟨⟨c0a,by show (0:Nat) < 2^64;decide,by show (0:Nat) < 2^64;decide⟩,rfl,?_⟩
  have hv:b0V l=b:=by
   unfold c0o at hn
   split at hn
   ·rename_i hr
    cases hn
    unfold b0V
    rw[if_pos hr,c0H]
   ·cases hn
  show (_,b0V l)=_
  rw[hv,e]
 split at h
 ·rename_i e
  split at h
  ·rename_i hr
   cases h
   refine⟨⟨c0a,by show (0:Nat) < 2^64;decide,by show (0:Nat) < 2^64;decide⟩,rfl,?_⟩
   unfold a0A
   rw[if_neg (by simp),if_neg (by simp),if_neg (by simp),if_pos ⟨rfl,hr⟩,e]
  ·cases h
 split at h
 ·rename_i e
  obtain⟨r,hn,rfl⟩:=Option.map_eq_some_iff.1 h
  obtain⟨h1,h2,h3⟩:=(f0b b r).1 hn
  have:=d0v r h2
  refine⟨⟨⟨h1,by show _≤r.n;omega,by show r.n≤_;omega⟩,by show (0:Nat) < 2^64;decide,by show (0:Nat) < 2^64;decide⟩,rfl,?_⟩
  show (_,b0y r)=_
  rw[h3,e]
 split at h
 ·rename_i e
  obtain⟨c,hn,rfl⟩:=Option.map_eq_some_iff.1 h
  obtain⟨h1,-,h3⟩:=(f0I b c).1 hn
  refine⟨⟨c0a,by show (0:Nat) < 2^64;decide,h1⟩,rfl,?_⟩
  show (_,b0N c)=_
  rw[h3,e]
 ·cases h
theorem x0z (p:Prd) (ho:p.Ok) (h2:(a0A p).2≠[]) (hon:h0Y p=true):g0G (a0A p).1 (a0A p).2=some p:=by
 obtain⟨o1,o2,o3,o4,o5⟩:=h0c p hon
 have hr:p.kind=4→(a0A p).2=p.path→b0X p.path=true:=by
  intro hk he
  cases hr:b0X p.path with
  | true=>rfl
  | false =>
   exfalso
   apply h2
   unfold a0A
   rw[hk,hr];rfl
 obtain⟨k,t,ns,pa,r,c⟩:=p
 simp only at o1 o2 o3 o4 o5
 rcases c0y _ h2 with ⟨e,hw⟩ | ⟨e,hw⟩ | ⟨e,hw⟩ | ⟨e,hw⟩ | ⟨e,hw⟩ | ⟨e,hw⟩<;>simp only at e<;>subst e<;>rw[hw] at h2 hr ⊢<;>simp only at h2 hr ⊢
 ·obtain rfl:ns=[]:=o2.resolve_left (by decide)
  obtain rfl:pa=[]:=o3.resolve_left (by decide)
  obtain rfl:r=a0T:=o4.resolve_left (by decide)
  obtain rfl:c=0:=o5.resolve_left (by decide)
  show (a0J (numL 10 t)).map _=_
  rw[d0Z t ho.time];rfl
 ·obtain rfl:ns=[]:=o2.resolve_left (by decide)
  obtain rfl:pa=[]:=o3.resolve_left (by decide)
  obtain rfl:r=a0T:=o4.resolve_left (by decide)
  obtain rfl:c=0:=o5.resolve_left (by decide)
  show (a0J (numL 10 t)).map _=_
  rw[d0Z t ho.time];rfl
 ·obtain rfl:t=0:=(o1.resolve_left (by decide)).resolve_left (by decide)
  obtain rfl:pa=[]:=o3.resolve_left (by decide)
  obtain rfl:r=a0T:=o4.resolve_left (by decide)
  obtain rfl:c=0:=o5.resolve_left (by decide)
  show (c0o (b0V ns)).map _=_
  rw[f0V ns h2];rfl
 ·obtain rfl:t=0:=(o1.resolve_left (by decide)).resolve_left (by decide)
  obtain rfl:ns=[]:=o2.resolve_left (by decide)
  obtain rfl:r=a0T:=o4.resolve_left (by decide)
  obtain rfl:c=0:=o5.resolve_left (by decide)
  show (if b0X pa=true then _ else _)=_
  rw[if_pos (by simpa using hr)]
 ·obtain rfl:t=0:=(o1.resolve_left (by decide)).resolve_left (by decide)
  obtain rfl:ns=[]:=o2.resolve_left (by decide)
  obtain rfl:pa=[]:=o3.resolve_left (by decide)
  obtain rfl:c=0:=o5.resolve_left (by decide)
  show (b0u (b0y r)).map _=_
  rw[f0Y r ho.net h2];rfl
 ·obtain rfl:t=0:=(o1.resolve_left (by decide)).resolve_left (by decide)
  obtain rfl:ns=[]:=o2.resolve_left (by decide)
  obtain rfl:pa=[]:=o3.resolve_left (by decide)
  obtain rfl:r=a0T:=o4.resolve_left (by decide)
  show (b0t (b0N c)).map _=_
  rw[f0X c ho.cost h2];rfl
theorem k0F (s:List UInt8) (p:Prd) (h:l0S s=some p):∃a b,c0h s=some [a,b]∧g0G a b=some p:=by
 unfold l0S at h
 split at h
 ·rename_i a b hw
  exact⟨a,b,hw,h⟩
 ·cases h
theorem x0p (s:List UInt8):l0S s=c0L s:=by
 apply Option.ext
 intro p
 constructor
 ·intro h
  obtain⟨a,b,hw,hr⟩:=k0F s p h
  obtain⟨rfl,ha,hb,hl⟩:=p0H s a b hw
  obtain⟨ho,hon,hp⟩:=x0A a b p hr
  exact (l0U _ p).2 ⟨ho,a1P p a b hp hb hon hl,by simp⟩
 ·intro h
  obtain⟨ho,rfl,hne⟩:=(l0U s p).1 h
  obtain⟨h2,hon,hl,he⟩:=i0n p hne
  obtain⟨f1,f2,f3⟩:=r0g p h2
  unfold l0S
  rw[he,y0L _ _ f1 f2 f3 h2 hl]
  exact x0z p ho h2 hon
theorem k0M {w:World} {g:Nat} {t:TypeId} {R V U:List Value} (e:R=V++U) (h:Row w g t R):w.rangeAt g 0 V:=d0a (by rw[e] at h;exact h)
theorem x0G {w:World} {g:Nat} {t:TypeId} {R V:List Value} {n:Int} (hl:V.length=17) (e:R=V++[Value.int .i64 n]) (h:Row w g t R):w.cell? ⟨g,17,none⟩=some (.int .i64 n):=q0O hl (by rw[e] at h;exact h)
theorem m0B (l:List Nat) (h:l.length=8):∃a b c d e f g i:Nat,l=[a,b,c,d,e,f,g,i]:=by
 match l,h with
 | [a,b,c,d,e,f,g,i],_=>exact⟨a,b,c,d,e,f,g,i,rfl⟩
def zB:List Bool→Nat
 | []=>0
 | z :: zs=>if z then zB zs+1 else 0
def s0D (l:List Bool):Nat:=(List.range l.length).foldl (fun best i=>if zB (l.drop i) > zB (l.drop best) then i else best) 0
theorem d1l (l:List Nat):zB (l.map fun n=>decide (n=0))=a0W l:=by
 induction l with
 | nil=>rfl
 | cons n l ih=>rw[List.map_cons,zB,a0W,ih];by_cases h:n=0<;>simp[h]
theorem r0o (l:List Nat):s0D (l.map fun n=>decide (n=0))=d0K l:=by
 unfold s0D d0K
 simp only[←List.map_drop,d1l,List.length_map]
theorem z0a:∀a b c d e f g h:Bool,s0D [a,b,c,d,e,f,g,h] + zB ([a,b,c,d,e,f,g,h].drop (s0D [a,b,c,d,e,f,g,h]))≤8:=by decide
theorem v0l (l:List Nat) (h8:l.length=8):d0K l+a0W (l.drop (d0K l))≤8:=by
 rw[←r0o,←d1l,List.map_drop]
 obtain⟨a,b,c,d,e,f,g,h,rfl⟩:=m0B l h8
 exact z0a _ _ _ _ _ _ _ _
theorem o0j (x:UInt8) (ps:List (List UInt8)) (m:Nat) (hm:∀p∈ps,p.length≤m):(b0i x ps).length+1≤(m+1)*ps.length+(if ps=[] then 1 else 0):=by
 induction ps with
 | nil=>simp[b0i]
 | cons p ps ih =>
  have h1:=hm p (List.mem_cons_self ..)
  have h2:=ih (fun q hq=>hm q (List.mem_cons_of_mem _ hq))
  cases ps with
  | nil=>show p.length+1≤_;simp;omega
  | cons q ps =>
   rw[b0v x p (q :: ps) (by simp),List.length_append,List.length_cons,if_neg (by simp)]
   rw[if_neg (by simp)] at h2
   rw[List.length_cons,Nat.mul_succ]
   omega
theorem l0M (l:List Nat) (hm:∀n∈l,n≤65535):(b0S l).length≤5*l.length:=by
 rw[b0T]
 have:=o0j 58 (l.map (numL 16)) 4 (by
  intro p hp
  obtain⟨n,hn,rfl⟩:=List.mem_map.1 hp
  exact f0F n (hm n hn))
 rw[List.length_map] at this
 split at this<;>omega
theorem t0q (l:List Nat) (h8:l.length=8) (hm:∀n∈l,n≤65535):(b0S l).length≤39:=by
 rw[b0T]
 have:=o0j 58 (l.map (numL 16)) 4 (by
  intro p hp
  obtain⟨n,hn,rfl⟩:=List.mem_map.1 hp
  exact f0F n (hm n hn))
 rw[List.length_map,h8,if_neg (by intro h;have:=congrArg List.length h;simp[h8] at this)] at this
 omega
theorem l0f (a:Adr):(a0Y a).length≤39:=by
 unfold a0Y
 split
 ·split
  ·unfold d0M
   dsimp only
   have h8:=h0W a
   have hm:=m0V a
   split
   ·exact t0q _ h8 hm
   ·rename_i hz
    have h1:=l0M ((c0m a).take (d0K (c0m a))) (fun n hn=>hm n (List.mem_of_mem_take hn))
    have h2:=l0M ((c0m a).drop (d0K (c0m a)+a0W ((c0m a).drop (d0K (c0m a))))) (fun n hn=>hm n (List.mem_of_mem_drop hn))
    have h3:=v0l (c0m a) h8
    rw[List.length_take] at h1
    rw[List.length_drop] at h2
    rw[List.length_append,List.length_cons,List.length_cons]
    omega
  ·have k0:=f0D (a.b.getD 0 0).toNat (by have:=(a.b.getD 0 0).toNat_lt;omega)
   have k1:=f0D (a.b.getD 1 0).toNat (by have:=(a.b.getD 1 0).toNat_lt;omega)
   have k2:=f0D (a.b.getD 2 0).toNat (by have:=(a.b.getD 2 0).toNat_lt;omega)
   have k3:=f0D (a.b.getD 3 0).toNat (by have:=(a.b.getD 3 0).toNat_lt;omega)
   simp only[List.length_append,List.length_cons]
   omega
 ·simp
theorem z0B (n:Nat) (h:n < 10):((hexD n).toNat:Int)=48+(n:Int):=by
 have:n=0∨n=1∨n=2∨n=3∨n=4∨n=5∨n=6∨n=7∨n=8∨n=9:=by omega
 rcases this with rfl | rfl | rfl | rfl | rfl | rfl | rfl | rfl | rfl | rfl<;>rfl
theorem u0m (k:Nat):∀(n:Nat) (w:World),n≤k→n≤9223372036854775807 →
  Calls prog 118 #[.int .i64 n] w fun e w'=>e=.returned (.string (bstr (numL 10 n)))∧Below w.heap.size w w':=by
 induction k using Nat.strongRecOn with
 | _ k ih =>
  intro n w hk hm
  by_cases hlt:n < 10
  ·have hN:=f1D (a0S 10 n hlt)
   have hlt':(n:Int) < 10:=by omega
   have hd:=z0B n hlt
   generalize hexD n=x at *
   have hw1:IntKind.i64.wrap (48+(n:Int))=(x.toNat:Int):=by rw[IntKind.wrap_i64];omega
   have hxl:=x.toNat_lt
   have hw2:IntKind.u8.wrap (x.toNat:Int)=(x.toNat:Int):=by rw[IntKind.wrap_u8];omega
   have hw3:IntKind.u8.wrap (48+(n:Int))=(x.toNat:Int):=by rw[IntKind.wrap_u8];omega
   have hd2:48+(n:Int)=(x.toNat:Int):=hd.symm
   have hsl:=k0T w [x] #[.int .u8 (x.toNat:Int)] (0,0) rfl 1 rfl
   have hcv:=b0o hsl 1 rfl
   have hb:Below w.heap.size w (w.alloc (.cells #[.int .u8 (x.toNat:Int)] 5 (0,0))):=(Below.refl _ w).alloc (f1F _) _
   clear hsl ih hd
   go_enter func118,ntmps118
   go_wp2_with fail
   go_ret
   exact⟨by rw[hN.out];rfl,hb⟩
  ·have hge:(10:Int)≤(n:Int):=by omega
   have hN:=f1D (b0p 10 n (by omega) (by omega))
   have hq:=f1D (show ∀w',Calls prog 118 #[.int .i64 ((n:Int)/10)] w' fun e w''=>e=.returned (.string (bstr (numL 10 (n/10))))∧Below w'.heap.size w' w'' from fun w'=>ih (n/10) (by omega) (n/10) w' (f1F _) (by omega))
   have hr:=f1D (show ∀w',Calls prog 118 #[.int .i64 ((n:Int)%10)] w' fun e w''=>e=.returned (.string (bstr [hexD (n%10)]))∧Below w'.heap.size w' w'' from by
    rw[←a0S 10 (n%10) (by omega)];exact fun w'=>ih (n%10) (by omega) (n%10) w' (f1F _) (by omega))
   have hY:=b0k 10 (by omega) 62 (n/10) (by omega)
   generalize hXn:numL 10 n=X at *
   generalize numL 10 (n/10)=Y at *
   have hZ:[hexD (n%10)].length=1:=rfl
   generalize [hexD (n%10)]=Z at *
   have hl1:(bstr Y).size+(bstr Z).size≤9223372036854775807:=by rw[a0c,a0c];omega
   have hl2:¬9223372036854775807 < (bstr Y).size+(bstr Z).size:=by omega
   have hw1:IntKind.i64.wrap ((n:Int)/10)=(n:Int)/10:=by rw[IntKind.wrap_i64];omega
   have hw2:((n:Int)).tmod 10=(n:Int)%10:=Int.tmod_eq_emod_of_nonneg (by omega)
   clear ih hXn
   have tok1:True:=trivial
   go_enter func118,ntmps118
   go_wp2_with (first
    | (go_at_call 118;have _t:=tok1;refine (hq.out _).mono ?_;rintro e w2 ⟨rfl,hb2⟩;clear tok1)
    | (go_at_call 118;refine (hr.out _).mono ?_;rintro e w3 ⟨rfl,hb3⟩;have hb3:=hb2.trans (hb3.mono hb2.size)))
   go_ret
   exact⟨by rw[hN.out,←a0x];rfl,hb3⟩
theorem k0O (r:Rng) (h:r.Ok) (w:World) :
  Calls prog 79 #[.agg (rngV r).toArray] w fun e w'=>e=.returned (.string (bstr (b0y r)))∧Below w.heap.size w w':=by
 have hcr:=f1D (fun w'=>q0H r h w')
 have htx:=f1D (fun w'=>i0J r.a h.a w')
 have hlim:=d0v r
 obtain⟨R,hR⟩:∃R,R=rngV r:=⟨_,rfl⟩
 obtain⟨V,hV⟩:∃V,V=adrV r.a:=⟨_,rfl⟩
 have HR:=f1D (show R=V++[Value.int .i64 r.n] by rw[hR,hV];rfl)
 have hVl:=f1D (show V.length=17 by rw[hV];exact a0m h.a)
 have hzV:=f1D (show (prog.info? 67).map (·.size)=some V.length by rw[hVl.out];exact b0b)
 have hzR:=f1D (show (prog.info? 69).map (·.size)=some R.length by rw[hR,a0C r h.a];exact c0n)
 rw[←hR] at hcr ⊢
 rw[←hV] at htx
 clear hR hV
 obtain⟨w1,hw1⟩:∃w1,w1=w.alloc (.cells R.toArray 69):=⟨_,rfl⟩
 have r1:Row w1 w.heap.size 69 R:=by rw[hw1];exact Row.new w _ _
 have hb1:Below w.heap.size w w1:=by rw[hw1];exact (Below.refl _ w).alloc (f1F _) _
 have HW:=f1D hw1
 clear hw1
 have tok1:True:=trivial
 cases hc:c0k r with
 | false =>
  have HX:=f1D (show b0y r=[] by unfold b0y;rw[hc];rfl)
  rw[hc] at hcr
  clear hc hlim
  go_enter func79,ntmps79
  go_wp2_with (first
   | (have _t:=tok1;rw[←HW.out];clear tok1;with_reducible refine wpList_load_mid rfl 69 (.tmp 1) rfl w.heap.size 0 rfl R _ (a0i r1) underlying69 rfl hzR.out ?_)
   | (go_at_call 117;refine (hcr.out _).mono ?_;rintro e w2 ⟨rfl,hb2⟩;have hb2:=hb1.trans (hb2.mono hb1.size)))
  go_ret
  exact⟨by rw[HX.out];rfl,hb2⟩
 | true =>
  obtain⟨-,n0,n1⟩:=hlim hc
  have HX:=f1D (show b0y r=(a0Y r.a++[47])++numL 10 r.n.toNat by rw[i0o r hc];simp)
  have hnm:=f1D (show ∀w',Calls prog 118 #[.int .i64 r.n] w' fun e w''=>e=.returned (.string (bstr (numL 10 r.n.toNat)))∧Below w'.heap.size w' w'' from fun w'=>by
   have:=u0m r.n.toNat r.n.toNat w' (f1F _) (by omega)
   rw[Int.toNat_of_nonneg n0] at this
   exact this)
  have hl1:=l0f r.a
  have hl2:=b0k 10 (by omega) 2 r.n.toNat (by omega)
  rw[hc] at hcr
  generalize a0Y r.a=A at *
  generalize numL 10 r.n.toNat=B at *
  generalize hn:r.n=n at *
  have hs1:(bstr A).size≤39:=by rw[a0c];exact hl1
  have hs2:(bstr B).size≤3:=by rw[a0c];exact hl2
  clear hc hlim n0 n1 hl1 hl2 hn
  go_enter func79,ntmps79
  go_wp2_with (first
   | (have _t:=tok1;rw[←HW.out];clear tok1;with_reducible refine wpList_load_mid rfl 69 (.tmp 1) rfl w.heap.size 0 rfl R _ (a0i r1) underlying69 rfl hzR.out ?_)
   | (go_at_call 117;refine (hcr.out _).mono ?_;rintro e w2 ⟨rfl,hb2⟩;have r2:=r1.later hb2 r1.lt;have hb2:=hb1.trans (hb2.mono hb1.size)))
  refine wp_region_noPanic ?_
  refine wp_region_held_drew (S:=fun w'=>Below w2.heap.size w2 w') (by kernel_rfl) ((Below.refl _ _).drew) (fun hHeld=>?_)
  have hB:=hHeld
  refine rt 0 6 hHeld ?_
  refine rt 1 7 hHeld ?_ (hy:=by intro w hS;exact a0s 67 (.tmp 6) rfl _ 0 rfl V _ (k0M HR.out (r2.later hS r2.lt)) underlying67 rfl hzV.out)
  refine rt 4 10 hHeld ?_
  refine rt 5 11 hHeld ?_ (hy:=by intro w hS;have hcn:=x0G hVl.out HR.out (r2.later hS r2.lt);go_simp;try with_reducible rfl)
  refine rc1 2 fun K hK=>?_
  go_simp
  refine (htx.out _).mono ?_;rintro e ww22 ⟨rfl,hqw22⟩
  try go_wp2_with fail
  refine hK.out _ _ (hHeld.trans (hqw22.mono hHeld.size)) (fun hHeld'=>?_)
  clear hK K
  have hB:=a0a hB hqw22
  have hB2:Below ww22.heap.size ww22 ww22:=Below.refl _ _
  refine a0f (S':=fun w'=>Below ww22.heap.size ww22 w') (fun _ h=>(hHeld.trans (hqw22.mono hHeld.size)).trans (h.mono (hHeld.trans (hqw22.mono hHeld.size)).size)) _ _ _ _ ?_
  clear hHeld
  have hHeld:Below ww22.heap.size ww22 ww22:=Below.refl _ _
  refine rt 3 9 hHeld ?_ (hy:=by intro w hS;go_simp;rw[if_neg (by (try simp only[ByteArray.size_append]);(try simp only[show ({ data:=#[47] } : ByteArray).size=1 from rfl]);omega)])
  refine rc1 6 fun K hK=>?_
  go_simp
  refine (hnm.out _).mono ?_;rintro e ww26 ⟨rfl,hqw26⟩
  try go_wp2_with fail
  refine hK.out _ _ (hHeld.trans (hqw26.mono hHeld.size)) (fun hHeld'=>?_)
  clear hK K
  have hB:=a0a hB hqw26
  have hB2:=a0a hB2 hqw26
  have hB6:Below ww26.heap.size ww26 ww26:=Below.refl _ _
  refine a0f (S':=fun w'=>Below ww26.heap.size ww26 w') (fun _ h=>(hHeld.trans (hqw26.mono hHeld.size)).trans (h.mono (hHeld.trans (hqw26.mono hHeld.size)).size)) _ _ _ _ ?_
  clear hHeld
  have hHeld:Below ww26.heap.size ww26 ww26:=Below.refl _ _
  refine rt 7 13 hHeld ?_ (hy:=by intro w hS;go_simp;rw[if_neg (by (try simp only[ByteArray.size_append]);(try simp only[show ({ data:=#[47] } : ByteArray).size=1 from rfl]);omega)])
  refine rt 8 2 hHeld ?_
  refine wpAnyH_done (by kernel_rfl) ?_ _
  refine NoPanic.normal ?_
  have hbe:=hb2.trans (hB.mono hb2.size)
  clear hHeld
  go_wp2
  go_ret
  exact⟨by rw[HX.out];simp only[←a0x];rfl,hbe⟩
theorem f1h (P:UInt8→Bool) (s:List UInt8) (k:Nat) (h:k < s.length):(s.drop k).all P=(P (s.getD k 0)&&(s.drop (k+1)).all P):=by
 rw[List.drop_eq_getElem_cons h,List.all_cons,List.getD_eq_getElem?_getD,List.getElem?_eq_getElem h];rfl
theorem l0N (s:List UInt8):d0F s=(decide (1≤s.length)&&decide (s.length≤16)&&s.all lowB):=rfl
theorem q0N (s:List UInt8) (hs:s.length≤100000) (w:World):Calls prog 113 #[.string (bstr s)] w fun e w'=>e=.returned (.bool (d0F s))∧w=w':=by
 have hz:=a0c s
 have HV:=f1D (l0N s)
 generalize d0F s=V at *
 by_cases h1:s.length < 1
 ·have HW:=f1D (show V=false by rw[HV.out,decide_eq_false (by omega:¬1≤s.length)];rfl)
  have a1:(s.length:Int) < 1:=by omega
  clear HV
  go_enter func113,ntmps113
  go_wp2
  go_ret
  exact⟨by rw[HW.out];rfl,rfl⟩
 have a1:decide ((s.length:Int) < 1)=false:=decide_eq_false (by omega)
 by_cases h2:16 < s.length
 ·have HW:=f1D (show V=false by rw[HV.out,decide_eq_false (by omega:¬s.length≤16),Bool.and_false];rfl)
  have a2:(16:Int) < (s.length:Int):=by omega
  clear HV
  go_enter func113,ntmps113
  go_wp2
  go_ret
  exact⟨by rw[HW.out];rfl,rfl⟩
 have a2:decide ((16:Int) < (s.length:Int))=false:=decide_eq_false (by omega)
 have HW:=f1D (show V=s.all lowB by rw[HV.out,decide_eq_true (show 1≤s.length by omega),decide_eq_true (show s.length≤16 by omega)];rfl)
 clear HV h1 h2
 go_enter func113,ntmps113
 go_wp2
 clear a1 a2
 go_loop [3] (fun i=>∃k:Nat,k≤s.length∧i=.int .i64 k∧(s.drop k).all lowB=s.all lowB) (fun i=>s.length - (intOf i).toNat)
 case atStart=>exact⟨0,by omega,rfl,rfl⟩
 case round =>
  obtain⟨k,hk,rfl,hf⟩:=hrel
  by_cases hlt:k < s.length
  ·have hlt':(k:Int) < (s.length:Int):=by omega
   have hix:=a0V s k hlt
   have HA:=f1D (f1h lowB s k hlt)
   have HF:=f1D hf
   generalize s.getD k 0=c at *
   clear hf
   by_cases c1:c.toNat < 97
   ·have HN:=f1D (show V=false by rw[HW.out,←HF.out,HA.out,show lowB c=false by unfold lowB;rw[decide_eq_false (by omega:¬97≤c.toNat)];rfl,Bool.false_and])
    have c1':(c.toNat:Int) < 97:=by omega
    clear HA c1
    go_wp2
    go_ret
    exact⟨by rw[HN.out];rfl,rfl⟩
   ·have c1':decide ((c.toNat:Int) < 97)=false:=decide_eq_false (by omega)
    by_cases c2:122 < c.toNat
    ·have HN:=f1D (show V=false by rw[HW.out,←HF.out,HA.out,show lowB c=false by unfold lowB;rw[decide_eq_false (by omega:¬c.toNat≤122),Bool.and_false],Bool.false_and])
     have c2':(122:Int) < (c.toNat:Int):=by omega
     clear HA c1 c2
     go_wp2
     go_ret
     exact⟨by rw[HN.out];rfl,rfl⟩
    ·have HN:=f1D (show (s.drop (k+1)).all lowB=s.all lowB by rw[←HF.out,HA.out,show lowB c=true by unfold lowB;rw[decide_eq_true (by omega:97≤c.toNat),decide_eq_true (by omega:c.toNat≤122)];rfl,Bool.true_and])
     have c2':decide ((122:Int) < (c.toNat:Int))=false:=decide_eq_false (by omega)
     clear HA c1 c2
     go_wp2
     go_round
     case rel=>exact⟨k+1,by omega,by go_num,HN.out⟩
     case measure=>simp[intOf];omega
  ·obtain rfl:k=s.length:=by omega
   have HN:=f1D (show V=true by rw[HW.out,←hf,List.drop_length];rfl)
   clear hf
   go_wp2
   go_ret
   exact⟨by rw[HN.out];rfl,rfl⟩
open Go.ChangeShapes Go.WideShapes Go.ChangeAt Go.RowKit
theorem v0r (s:ByteArray):bstr s.data.toList=s:=by obtain⟨⟨l⟩⟩:=s;rfl
theorem v0z:prog.cellsOf 9=1:=by kernel_rfl
theorem p0K {H:Type} {P:Program} {e:TypeId} (ss:List ByteArray) (s:ByteArray) (h:s∈ss):s.data.toList.length∈DataW.weightsAll P e (strs ss:List (DataW H)):=by
 induction ss with
 | nil=>cases h
 | cons q ss ih =>
  show _∈DataW.weights P e (.lit (.string q.data.toList))++DataW.weightsAll P e (strs ss)
  rcases List.mem_cons.1 h with rfl | h
  ·exact List.mem_append_left _ (by simp[DataW.weights])
  ·exact List.mem_append_right _ (ih h)
theorem m0Z {H:Type} {enc:TypeId×Value→H} {W:World} {held:Bool} {b1:Nat} {a:Option Addr} {len cap:Nat} {d:DataW H} {p:List MemPlace} {ts:List TypeId} {ds:List (DataW H)}
  (h:DataW.Trod enc prog W b1 (fun _=>true) held 24 (.slice a len cap) d p) (hsz:(DataW.weightsEach prog ts ds).all (·≤reachBytes)=true) {j:Nat} (ht:ts[j]?=some 24) (hd:ds[j]?=some d) :
  ∃ss:List (List UInt8),len=ss.length∧Sl W a cap (a0F ss)∧ss.length≤9223372036854775807∧∀l∈ss,l.length≤140737488351232:=by
 obtain⟨fuel,hf⟩:=h
 rcases open_strings underlying24 underlying9 v0z hf with ⟨hcs,_⟩ | ⟨x,l,c,bs,hcs,_,hl,hm,hz,hx,hcell,_⟩
 ·simp[Value.cells] at hcs
  obtain⟨rfl,rfl,rfl⟩:=hcs
  exact⟨[],rfl,⟨.inl rfl,f1F _,fun _=>rfl⟩,by simp,fun l hl=>by cases hl⟩
 ·simp[Value.cells] at hcs
  obtain⟨rfl,rfl,rfl⟩:=hcs
  simp only[Prod.mk.injEq] at hx
  obtain⟨rfl,_⟩:=hx
  have hbl:bs.length=cap:=by simpa using hz
  unfold maxLen at hm
  have hlen:((bs.take len).map fun s=>s.data.toList).length=len:=by simp;omega
  have hsv:a0F ((bs.take len).map fun s=>s.data.toList)=(bs.take len).map Value.string:=by
   unfold a0F
   rw[List.map_map]
   exact List.map_congr_left fun s _=>by show Value.string (bstr s.data.toList)=_;rw[v0r]
  refine⟨(bs.take len).map fun s=>s.data.toList,hlen.symm,⟨?_,by rw[a0w,hlen];exact hl,fun h=>by cases h⟩,by rw[hlen];omega,fun q hq=>?_⟩
  ·by_cases h0:len=0
   ·subst h0;exact .inl rfl
   ·obtain⟨b,off,spot⟩:=x
    have hc0:=hcell 0 (by omega)
    have hspot:spot=none:=by simpa [Addr.add] using World.cell?_spot hc0
    subst hspot
    refine .inr ⟨b,off,rfl,?_,fun i hi=>?_⟩
    ·have:=World.block_lt_of_cell? W _ hc0
     rw[Addr.add_lit] at this;exact this
    ·rw[a0w,hlen] at hi
     have hci:=hcell i (by omega)
     rw[Addr.add_lit] at hci
     rw[hci,hsv]
     simp[hi,show i < bs.length by omega]
  ·obtain⟨s,hs,rfl⟩:=List.mem_map.1 hq
   have hw:=p0K (H:=H) (P:=prog) (e:=9) _ _ hs
   have h1:s.data.toList.length≤reachBytes:=of_decide_eq_true (List.all_eq_true.1 hsz _ (DataW.weights_mem_each ht hd s.data.toList.length (by
    simp only[DataW.weights,underlying24]
    exact List.mem_cons_of_mem _ (List.mem_append_left _ hw))))
   unfold reachBytes at h1
   exact h1
end Go.Proofs.YtcbilopdeiapjaaGreatDoor
namespace Go.Proofs.YtcbilopdeiapjaaGreatDoor
open Go Go.RowKit
theorem p0l (s:List UInt8) (x:UInt8) (hs:s.length≤4000) (w:World) :
  Calls prog 76 #[.string (bstr s),.int .u8 (x.toNat:Int)] w fun e w'=>∃v,e=.returned v∧w'.ownsRow w.heap.size 9 1 v (a0g x s).length (a0F (a0g x s))∧Below w.heap.size w w':=by
 obtain⟨i0,hi,hz0,hz1,hz2⟩:=info_parts k0l
 have hz:=a0c s
 have hown0:(w.alloc (.cells #[] 9)).ownsRow w.heap.size 9 1 (.slice (some ⟨w.heap.size,0,none⟩) 0 0) 0 (a0F []):=World.ownsRow_lit w (e:=9) (size:=1) #[] 0 (f1F _) (by unfold maxLen;omega) rfl
 have hb0:Below w.heap.size w (w.alloc (.cells #[] 9)):=(Below.refl _ w).alloc (f1F _) _
 go_enter func76,ntmps76
 go_wp2
 go_loopw [5,6,7] (fun v f i wr=>∃(out:List (List UInt8)) (g k:Nat),k≤s.length+1∧g≤k∧i=.int .i64 k∧f=.int .i64 g∧wr.ownsRow w.heap.size 9 1 v out.length (a0F out)∧Below w.heap.size w wr∧out.length≤k ∧
   (k≤s.length∧out++a0g x (s.drop g)=a0g x s∧(∀c∈(s.drop g).take (k - g),c≠x)∨k=s.length+1∧out=a0g x s)) (fun _ _ i _=>s.length+1 - (intOf i).toNat)
 case atStart=>exact⟨[],0,0,by omega,by omega,rfl,rfl,hown0,hb0,by simp,.inl ⟨by omega,rfl,by simp⟩⟩
 case round =>
  clear hown0 hb0
  obtain⟨out,g,k,hk,hg,rfl,rfl,hown,hb,hol,hcase⟩:=hrel
  by_cases hlt:k≤s.length
  ·obtain⟨-,hsp,hno⟩:k≤s.length∧out++a0g x (s.drop g)=a0g x s∧(∀c∈(s.drop g).take (k - g),c≠x):=by
    rcases hcase with h | ⟨h,_⟩
    ·exact h
    ·omega
   have hlt':(k:Int)≤(s.length:Int):=by omega
   have hg':(g:Int)≤(k:Int):=by omega
   have hex:=a0G s g k
   have hbs:=hb.size
   have n1:out.length+1≤maxLen:=by unfold maxLen;omega
   have n2:(out.length+1)*16≤140737488355328:=by omega
   by_cases he:k=s.length
   ·have heb:((k:Int)==(s.length:Int))=true:=by rw[he];exact beq_self_eq_true _
    have HF:=f1D (show out++[(s.drop g).take (k - g)]=a0g x s by
     have e:(s.drop g).take (k - g)=s.drop g:=by rw[List.take_of_length_le];rw[List.length_drop];omega
     rw[e] at hno ⊢
     rw[←hsp,d0g x _ hno])
    have HK:=f1D he
    generalize (s.drop g).take (k - g)=p at *
    clear hcase hsp hno he
    have hslp:Sl (wr.alloc (.cells #[.string (bstr p)] 9)) (some ⟨wr.heap.size,0,none⟩) 1 (a0F [p]):=d0c (a0F [p]) rfl 1 rfl
    have howna:=hown.alloc (.cells #[.string (bstr p)] 9)
    have hbe:=hb.alloc hb.size (.cells #[.string (bstr p)] 9)
    go_wp2_with (at_builtin;refine a0j rfl (.tmp 26) (.tmp 31) 24 rfl w.heap.size 9 i0 _ 16 underlying24 hi hz0 hz1 hz2 rfl _ out.length (a0F out) rfl howna (some ⟨wr.heap.size,0,none⟩) 1 1 (a0F [p]) rfl rfl hslp (d0I _) n1 n2 hbe.size ?_;intro v3 w3 hown3 hg3;have hb3:=hbe.grown hg3 hbe.size (fun j hj=>(howna.lt j hj).1);rw[←c0M] at hown3)
    go_roundw
    case rel=>exact⟨out++[p],k+1,k+1,by omega,by omega,by go_num,by go_num,by rw[List.length_append];exact hown3,hb3,by rw[List.length_append];simp;omega,.inr ⟨by rw[HK.out],HF.out⟩⟩
    case measure=>simp[intOf];omega
   ·have heb:((k:Int)==(s.length:Int))=false:=by rw[beq_eq_false_iff_ne];omega
    have hlt2:k < s.length:=by omega
    have hix:=a0V s k hlt2
    by_cases hc:s.getD k 0=x
    ·have e2:a0g x (s.drop g)=(s.drop g).take (k - g) :: a0g x (s.drop (k+1)):=by
      conv=>lhs;rw[i0x s g k hg hlt2,hc]
      exact f0c x _ _ hno
     have HF:=f1D (show (out++[(s.drop g).take (k - g)])++a0g x (s.drop (k+1))=a0g x s by
      rw[←hsp,e2,List.append_assoc];rfl)
     rw[hc] at hix
     generalize (s.drop g).take (k - g)=p at *
     clear hcase hsp hno hc e2
     have hslp:Sl (wr.alloc (.cells #[.string (bstr p)] 9)) (some ⟨wr.heap.size,0,none⟩) 1 (a0F [p]):=d0c (a0F [p]) rfl 1 rfl
     have howna:=hown.alloc (.cells #[.string (bstr p)] 9)
     have hbe:=hb.alloc hb.size (.cells #[.string (bstr p)] 9)
     go_wp2_with (at_builtin;refine a0j rfl (.tmp 26) (.tmp 31) 24 rfl w.heap.size 9 i0 _ 16 underlying24 hi hz0 hz1 hz2 rfl _ out.length (a0F out) rfl howna (some ⟨wr.heap.size,0,none⟩) 1 1 (a0F [p]) rfl rfl hslp (d0I _) n1 n2 hbe.size ?_;intro v3 w3 hown3 hg3;have hb3:=hbe.grown hg3 hbe.size (fun j hj=>(howna.lt j hj).1);rw[←c0M] at hown3)
     go_roundw
     case rel=>exact⟨out++[p],k+1,k+1,by omega,by omega,by go_num,by go_num,by rw[List.length_append];exact hown3,hb3,by rw[List.length_append];simp;omega,.inl ⟨by omega,HF.out,by simp⟩⟩
     case measure=>simp[intOf];omega
    ·have HN:=f1D (show ∀c∈(s.drop g).take (k+1 - g),c≠x by
      rw[i0M s g k hg hlt2]
      intro c hcm
      rcases List.mem_append.1 hcm with h | h
      ·exact hno c h
      ·rw[List.mem_singleton.1 h];exact hc)
     have HS:=f1D hsp
     have hxc:(((s.getD k 0).toNat:Int)==(x.toNat:Int))=false:=by
      rw[beq_eq_false_iff_ne]
      intro h
      exact hc (UInt8.toNat_inj.1 (by omega))
     generalize s.getD k 0=y at *
     clear hcase hsp hno hc hex
     go_wp2
     go_roundw
     case rel=>exact⟨out,g,k+1,by omega,by omega,by go_num,rfl,hown,hb,by omega,.inl ⟨by omega,HS.out,HN.out⟩⟩
     case measure=>simp[intOf];omega
  ·obtain rfl:k=s.length+1:=by omega
   obtain rfl:out=a0g x s:=by
    rcases hcase with ⟨h,_⟩ | ⟨_,h⟩
    ·omega
    ·exact h
   have hgt:(s.length:Int) < ((s.length+1:Nat):Int):=by omega
   clear hcase
   go_wp2
   go_ret
   exact⟨_,rfl,hown,hb⟩
theorem o0N (l:List (List UInt8)) (i:Nat) (h:i=0):okAt l i=d0F (l.getD i []):=by
 subst h
 unfold okAt
 simp
theorem r0M (l:List (List UInt8)) (i:Nat) (h:0 < i):okAt l i=(d0F (l.getD i [])&&Op.bytesLess (l.getD (i - 1) []) (l.getD i [])):=by
 unfold okAt
 rw[decide_eq_false (by omega:¬i=0),Bool.false_or]
theorem k0y (l:List (List UInt8)) (k:Nat) (h:∀j < k,okAt l j=true) (hk:okAt l k=true):∀j < k+1,okAt l j=true:=by
 intro j hj
 rcases Nat.lt_succ_iff_lt_or_eq.1 hj with h1 | h1
 ·exact h j h1
 ·rw[h1];exact hk
theorem p0k (l:List (List UInt8)) (hl:l.length≤100000) (hp:∀p∈l,p.length≤100000) (A:Option Addr) (c:Nat) (w:World) (hsl:Sl w A c (a0F l)) :
  Calls prog 77 #[.slice A l.length c] w fun e w'=>e=.returned (.bool (c0Y l))∧w=w':=by
 obtain⟨V,hV⟩:∃V,V=c0Y l:=⟨_,rfl⟩
 have HV:=f1D hV
 rw[←hV]
 clear hV
 by_cases h1:l.length < 1
 ·have HW:=f1D (show V=false by rw[HV.out];unfold c0Y;rw[decide_eq_false (by omega:¬1≤l.length)];rfl)
  have a1:(l.length:Int) < 1:=by omega
  clear HV h1
  go_enter func77,ntmps77
  go_wp2
  go_ret
  exact⟨by rw[HW.out];rfl,rfl⟩
 have a1:decide ((l.length:Int) < 1)=false:=decide_eq_false (by omega)
 by_cases h2:32 < l.length
 ·have HW:=f1D (show V=false by rw[HV.out];unfold c0Y;rw[decide_eq_false (by omega:¬l.length≤32),Bool.and_false];rfl)
  have a2:(32:Int) < (l.length:Int):=by omega
  clear HV h1 h2
  go_enter func77,ntmps77
  go_wp2
  go_ret
  exact⟨by rw[HW.out];rfl,rfl⟩
 have a2:decide ((32:Int) < (l.length:Int))=false:=decide_eq_false (by omega)
 have HT:=f1D (show (∀i < l.length,okAt l i=true)→V=true from fun h=>by rw[HV.out];exact (i0g l).2 ⟨by omega,by omega,h⟩)
 have HFa:=f1D (show ∀i,i < l.length→okAt l i=false→V=false from fun i hi h=>by rw[HV.out];exact p0f l i hi h)
 have hnm:=f1D (fun s (h:s∈l) w'=>q0N s (hp s h) w')
 clear HV h1 h2 hp
 go_enter func77,ntmps77
 go_wp2
 clear a1 a2
 go_loop [15] (fun i=>∃k:Nat,k≤l.length∧i=.int .i64 k∧∀j < k,okAt l j=true) (fun i=>l.length - (intOf i).toNat)
 case atStart=>exact⟨0,by omega,rfl,fun j hj=>by omega⟩
 case round =>
  obtain⟨k,hk,rfl,hf⟩:=hrel
  by_cases hlt:k < l.length
  ·have hlt':(k:Int) < (l.length:Int):=by omega
   obtain⟨b,o,rfl,-,-⟩:=hsl.rd.get (i:=k) (by rw[a0w];exact hlt)
   have hix:=b0w (some ⟨b,o,none⟩) b o l.length c k rfl hlt
   have hce:=c0g hsl k hlt
   have HF:=f1D hf
   have HC:=f1D (hnm.out (l.getD k []) (by rw[List.getD_eq_getElem?_getD,List.getElem?_eq_getElem hlt];exact List.getElem_mem hlt) w)
   clear hf
   by_cases h0:k=0
   ·have HA:=f1D (o0N l k h0)
    have a3:decide ((0:Int) < (k:Int))=false:=decide_eq_false (by omega)
    have a5:decide (0 < k)=false:=decide_eq_false (by omega)
    have HB:=f1D (HFa.out k hlt)
    generalize l.getD k []=s at *
    clear h0
    cases hsg:d0F s with
    | true =>
     have HN:=f1D (k0y l k HF.out (HA.out.trans hsg))
     rw[hsg] at HC
     clear HA hsg HB
     go_wp2_with (go_at_call 113;refine HC.out.mono ?_;rintro e w' ⟨rfl,rfl⟩)
     go_round
     case rel=>exact⟨k+1,by omega,by go_num,HN.out⟩
     case measure=>simp[intOf];omega
    | false =>
     have HN:=f1D (HB.out (HA.out.trans hsg))
     rw[hsg] at HC
     clear HA hsg HB
     go_wp2_with (go_at_call 113;refine HC.out.mono ?_;rintro e w' ⟨rfl,rfl⟩)
     go_ret
     exact⟨by rw[HN.out];rfl,rfl⟩
   ·have HA:=f1D (r0M l k (by omega))
    have a3:(0:Int) < (k:Int):=by omega
    have a5:0 < k:=by omega
    have a4:IntKind.i64.wrap ((k:Int) - 1)=((k - 1:Nat):Int):=by rw[IntKind.wrap_i64];omega
    have hix2:=b0w (some ⟨b,o,none⟩) b o l.length c (k - 1) rfl (by omega)
    have hce2:=c0g hsl (k - 1) (by omega)
    have HB:=f1D (HFa.out k hlt)
    have HL:=f1D (show Op.bytesLess (bstr (l.getD (k - 1) [])).toList (bstr (l.getD k [])).toList=Op.bytesLess (l.getD (k - 1) []) (l.getD k []) by rw[a0p,a0p])
    generalize hk1:k - 1=k1 at *
    generalize l.getD k []=s at *
    generalize l.getD k1 []=s1 at *
    clear h0 hk1
    cases hsg:d0F s with
    | true =>
     cases hle:Op.bytesLess s1 s with
     | true =>
      have HN:=f1D (k0y l k HF.out (by rw[HA.out,hsg,hle];rfl))
      have hle2:=HL.out.trans hle
      rw[hsg] at HC
      clear HA hsg HB HL hle
      go_wp2_with (go_at_call 113;refine HC.out.mono ?_;rintro e w' ⟨rfl,rfl⟩)
      go_round
      case rel=>exact⟨k+1,by omega,by go_num,HN.out⟩
      case measure=>simp[intOf];omega
     | false =>
      have HN:=f1D (HB.out (by rw[HA.out,hsg,hle];rfl))
      have hle2:=HL.out.trans hle
      rw[hsg] at HC
      clear HA hsg HB HL hle
      go_wp2_with (go_at_call 113;refine HC.out.mono ?_;rintro e w' ⟨rfl,rfl⟩)
      go_ret
      exact⟨by rw[HN.out];rfl,rfl⟩
    | false =>
     have HN:=f1D (HB.out (by rw[HA.out,hsg];rfl))
     rw[hsg] at HC
     clear HA hsg HB HL
     go_wp2_with (go_at_call 113;refine HC.out.mono ?_;rintro e w' ⟨rfl,rfl⟩)
     go_ret
     exact⟨by rw[HN.out];rfl,rfl⟩
  ·obtain rfl:k=l.length:=by omega
   have HN:=f1D (HT.out hf)
   clear hf
   go_wp2
   go_ret
   exact⟨by rw[HN.out];rfl,rfl⟩
def p0P (o:Option (List (List UInt8))) (w:World) (e:Ending) (w':World):Prop :=
 ∃(A:Option Addr) (c:Nat),e=.returned (.tuple #[.slice A (o.getD []).length c,.bool o.isSome])∧Sl w' A c (a0F (o.getD []))∧Below w.heap.size w w'
theorem c0q (w:World):Sl w none 0 (a0F []):=⟨.inl (by simp[a0F]),by simp[a0F],fun _=>rfl⟩
theorem w0n (x:UInt8) (l:List (List UInt8)) (k:Nat) (hk:0 < k) (h:k < l.length):b0i x (l.take (k+1))=b0i x (l.take k)++(x :: l.getD k []):=by
 have e:l.take (k+1)=l.take k++[l.getD k []]:=by
  rw[List.take_add_one,List.getD_eq_getElem?_getD,List.getElem?_eq_getElem h];rfl
 rw[e,w0m x _ _ (by intro h0;have:=congrArg List.length h0;rw[List.length_take,List.length_nil] at this;omega) (by simp)]
 rfl
theorem r0A (x:UInt8) (l:List (List UInt8)):(b0i x l).length≤sumS l:=by
 induction l with
 | nil=>exact Nat.zero_le _
 | cons p ps ih =>
  by_cases he:ps=[]
  ·subst he
   show p.length≤_
   unfold sumS;simp
  ·rw[b0v x p ps he,List.length_append,List.length_cons]
   have e:sumS (p :: ps)=(p.length+1)+sumS ps:=by unfold sumS;simp
   omega
theorem y0q (A:Option Addr) (c:Nat) (l:List (List UInt8)) (w0:World) (h:Sl w0 A c (a0F l)) (n:Nat) (hn:l.length=n+1) :
  ∃b o A',A=some ⟨b,o,none⟩∧(∀w,(Instr.sliceAt 24 (.slice (some ⟨b,o,none⟩) (n+1) c) (some (.int .i64 1)) none none).run prog w=.ok (.slice A' n (c - 1)) w)∧Sl w0 A' (c - 1) (a0F (l.drop 1)):=by
 have hr:=h.room
 rw[a0w] at hr
 obtain⟨b,o,rfl,hlt,_⟩:=h.rd.get (i:=0) (by rw[a0w];omega)
 refine⟨b,o,some (if c=1 then ⟨b,o,none⟩ else ⟨b,o+1,none⟩),rfl,fun w=>?_,?_⟩
 ·have h3:(n:Int)+1≤(c:Int):=by omega
  clear h hr hlt hn
  have h1:((n:Int)+1 - 1).toNat=n:=by omega
  go_simp
  rw[if_pos (by omega)]
  split<;>rfl
 ·rw[u0C]
  exact h.from (k:=1) (by rw[a0w];omega) rfl
theorem q0L (l:List (List UInt8)) (hl:sumS l≤100000) (A:Option Addr) (c:Nat) (w:World) (hsl:Sl w A c (a0F l)) :
  Calls prog 123 #[.slice A l.length c] w fun e w'=>e=.returned (.string (bstr (b0V l)))∧w=w':=by
 have hll:=j0I l
 have hri:=f1D (p0k l (by omega) (fun p hp=>by have:=j0J l p hp;omega) A c w hsl)
 have HV:=f1D (show b0V l=if c0Y l=true then b0i 44 l else [] from rfl)
 generalize b0V l=V at *
 cases hr:c0Y l with
 | false =>
  have HW:=f1D (HV.out.trans (if_neg (by rw[hr];decide)))
  rw[hr] at hri
  clear HV hr
  go_enter func123,ntmps123
  go_wp2_with (go_at_call 77;refine hri.out.mono ?_;rintro e w' ⟨rfl,rfl⟩)
  go_ret
  exact⟨by rw[HW.out];rfl,rfl⟩
 | true =>
  have HW:=f1D (HV.out.trans (if_pos hr))
  have hpos:1≤l.length:=((i0g l).1 hr).1
  obtain⟨n,hn⟩:∃n,l.length=n+1:=⟨l.length - 1,by omega⟩
  obtain⟨b,o,A1,rfl,hcut,hsl1⟩:=y0q A c l w hsl n hn
  have hix0:=b0w (some ⟨b,o,none⟩) b o (n+1) c 0 rfl (by omega)
  have hce0:=c0g hsl 0 (by omega)
  have HG:=f1D (fun k (h0:0 < k) (h:k < l.length)=>w0n 44 l k h0 h)
  have HB:=f1D (fun k=>show (b0i 44 (l.take k)).length≤100000 from Nat.le_trans (r0A 44 _) (Nat.le_trans (y0k l k) hl))
  have HM:=f1D (fun k (h:k < l.length)=>show (l.getD k []).length≤100000 from by
   have:=j0J l (l.getD k []) (by rw[List.getD_eq_getElem?_getD,List.getElem?_eq_getElem h];exact List.getElem_mem h);omega)
  have HL1:=f1D (show (l.drop 1).length=n by rw[List.length_drop];omega)
  have HLn:=f1D hn
  have HS:=f1D (show b0i 44 (l.take 1)=l.getD 0 [] by
   cases l with
   | nil=>simp at hpos
   | cons p ps=>rfl)
  have HE:=f1D (show b0i 44 (l.take (n+1))=b0i 44 l by rw[←hn,List.take_length])
  have HD:=f1D (show ∀k,(l.drop 1).getD k []=l.getD (k+1) [] by
   intro k;rw[List.getD_eq_getElem?_getD,List.getD_eq_getElem?_getD,List.getElem?_drop,Nat.add_comm])
  rw[hr,hn] at hri
  rw[hn]
  have hnb:n≤100000:=by omega
  clear HV hr hpos hn hll hl hsl
  rw[Nat.add_zero] at hix0 hce0
  go_enter func123,ntmps123
  go_wp2_with (go_at_call 77;refine hri.out.mono ?_;rintro e w' ⟨rfl,rfl⟩)
  clear hix0 hce0 hri hcut
  go_loop [3,15] (fun x i=>∃k:Nat,k≤n∧i=.int .i64 k∧x=.string (bstr (b0i 44 (l.take (k+1))))) (fun _ i=>n - (intOf i).toNat)
  case atStart=>exact⟨0,by omega,rfl,by rw[HS.out,List.getD_eq_getElem?_getD]⟩
  case round =>
   obtain⟨k,hk,rfl,rfl⟩:=hrel
   by_cases hlt:k < n
   ·have hlt':(k:Int) < (n:Int):=by omega
    have hk1:k < (l.drop 1).length:=by rw[HL1.out];exact hlt
    obtain⟨b1,o1,rfl,-,-⟩:=hsl1.rd.get (i:=k) (by rw[a0w];exact hk1)
    have hix:=b0w (some ⟨b1,o1,none⟩) b1 o1 n (c - 1) k rfl hlt
    have hce:=c0g hsl1 k hk1
    rw[HD.out] at hce
    have hkl:k+1 < l.length:=by have:=HLn.out;omega
    have HN:=f1D (HG.out (k+1) (by omega) hkl)
    have hb1:=HB.out (k+1)
    have hb2:=HM.out (k+1) hkl
    generalize l.getD (k+1) []=p at *
    generalize b0i 44 (l.take (k+1))=g at *
    have hzg:=a0c g
    have hzp:=a0c p
    have hcm:({ data:=#[44] } : ByteArray)=bstr [44]:=rfl
    have hzc:({ data:=#[44] } : ByteArray).size=1:=rfl
    have hz2:(({ data:=#[44] } : ByteArray)++bstr p).size=p.length+1:=by rw[hcm,a0x,a0c];simp
    have HC:=f1D (show bstr g++(({ data:=#[44] } : ByteArray)++bstr p)=bstr (b0i 44 (l.take (k+1+1))) by rw[HN.out,hcm,a0x,a0x];rfl)
    clear hkl hk1 hcm
    go_wp2
    go_round
    case rel=>exact⟨k+1,by omega,by go_num,by rw[←HC.out]⟩
    case measure=>simp[intOf];omega
   ·obtain rfl:k=n:=by omega
    have HX:=f1D (HE.out.trans HW.out.symm)
    go_wp2
    go_ret
    exact⟨by rw[HX.out];rfl,rfl⟩
theorem o0q (n:Nat) (h:n < 10):((hexD n).toNat:Int)=48+n:=by
 unfold hexD
 rw[if_pos h,UInt8.toNat_ofNat']
 omega
theorem l0Y (k:Nat):∀(n:Nat) (w:World),n≤k→n < 2^64 →
  Calls prog 75 #[.int .u64 n] w fun e w'=>e=.returned (.string (bstr (numL 10 n)))∧Below w.heap.size w w':=by
 induction k using Nat.strongRecOn with
 | _ k ih =>
  intro n w hk hm
  by_cases hlt:n < 10
  ·have hN:=f1D (a0S 10 n hlt)
   have hlt':(n:Int) < 10:=by omega
   have hd:=o0q n hlt
   generalize hexD n=x at *
   have hw1:IntKind.u64.wrap (48+(n:Int))=48+(n:Int):=by rw[IntKind.wrap_u64];omega
   have hw2:IntKind.u8.wrap (48+(n:Int))=(x.toNat:Int):=by rw[IntKind.wrap_u8];omega
   have hsl:=k0T w [x] #[.int .u8 (x.toNat:Int)] (0,0) rfl 1 rfl
   have hcv:=b0o hsl 1 rfl
   have hb:Below w.heap.size w (w.alloc (.cells #[.int .u8 (x.toNat:Int)] 5 (0,0))):=(Below.refl _ w).alloc (f1F _) _
   clear hsl ih hd
   go_enter func75,ntmps75
   go_wp2_with fail
   go_ret
   exact⟨by rw[hN.out];rfl,hb⟩
  ·have hge:(10:Int)≤(n:Int):=by omega
   have hN:=f1D (b0p 10 n (by omega) (by omega))
   have hq:=f1D (show ∀w',Calls prog 75 #[.int .u64 ((n:Int)/10)] w' fun e w''=>e=.returned (.string (bstr (numL 10 (n/10))))∧Below w'.heap.size w' w'' from fun w'=>ih (n/10) (by omega) (n/10) w' (f1F _) (by omega))
   have hr:=f1D (show ∀w',Calls prog 75 #[.int .u64 ((n:Int)%10)] w' fun e w''=>e=.returned (.string (bstr [hexD (n%10)]))∧Below w'.heap.size w' w'' from by
    rw[←a0S 10 (n%10) (by omega)];exact fun w'=>ih (n%10) (by omega) (n%10) w' (f1F _) (by omega))
   have hY:=b0k 10 (by omega) 62 (n/10) (by omega)
   generalize hXn:numL 10 n=X at *
   generalize numL 10 (n/10)=Y at *
   have hZ:[hexD (n%10)].length=1:=rfl
   generalize [hexD (n%10)]=Z at *
   have hzY:=a0c Y
   have hzZ:=a0c Z
   have hw1:IntKind.u64.wrap ((n:Int)/10)=(n:Int)/10:=by rw[IntKind.wrap_u64];omega
   have hw2:((n:Int)).tmod 10=(n:Int)%10:=Int.tmod_eq_emod_of_nonneg (by omega)
   have tok:True:=trivial
   clear ih hXn
   go_enter func75,ntmps75
   go_wp2_with (first
    | (go_at_call 75;have _t:=tok;refine (hq.out _).mono ?_;rintro e w1 ⟨rfl,hb1⟩;clear tok)
    | (go_at_call 75;refine (hr.out _).mono ?_;rintro e w2 ⟨rfl,hb2⟩))
   go_ret
   exact⟨by rw[hN.out,←a0x];rfl,hb1.trans (hb2.mono hb1.size)⟩
end Go.Proofs.YtcbilopdeiapjaaGreatDoor
