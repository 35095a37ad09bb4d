import Derived.Test.YtimdhdimhboboaaGreatDoorRbao
import Derived.Test.YtimdhdimhboboaaGreatDoorRbaj
import Derived.Test.YtimdhdimhboboaaGreatDoorRbab
import Derived.Test.YtimdhdimhboboaaGreatDoorRbaa
import Derived.SliceStrings
import Derived.Test.YtimdhdimhboboaaGreatDoorRbaf
import Derived.Test.YtimdhdimhboboaaGreatDoorRbag
namespace Go.Proofs.YtimdhdimhboboaaGreatDoor
set_option maxRecDepth 100000
open Go Go.RowKit
structure Prd where
 kind:Int
 time:Nat
 names:List (List UInt8)
 path:List UInt8
 net:Rng
 cost:Nat
structure Prd.Ok (p:Prd):Prop where
 net:p.net.Ok
 time:p.time < 2^64
 cost:p.cost < 2^64
def t0x (a b:Rng):Bool:=(a.a.v6==b.a.v6&&decide (a.a.b=b.a.b))&&a.n==b.n
theorem w0S (a b:Rng):t0x a b=true↔a=b:=by
 unfold t0x
 obtain⟨⟨v,l⟩,n⟩:=a
 obtain⟨⟨v',l'⟩,n'⟩:=b
 simp[and_assoc]
def f0Y:Prd:=⟨0,0,[],[],a0P,0⟩
def h0J (p:Prd):Bool:=(decide (p.kind=1)||decide (p.kind=2)||decide (p.time=0))&&(decide (p.kind=3)||decide (p.names=[]))&&(decide (p.kind=4)||decide (p.path=[]))&&(decide (p.kind=5)||t0x p.net a0P)&&(decide (p.kind=6)||decide (p.cost=0))
def a0t (p:Prd):List UInt8×List UInt8 :=
 if p.kind=1 then ([98,101,102,111,114,101],numL 10 p.time)
 else if p.kind=2 then ([115,105,110,99,101],numL 10 p.time)
 else if p.kind=3 then ([111,112],b0L p.names)
 else if p.kind=4∧b0N p.path=true then ([112,97,116,104],p.path)
 else if p.kind=5 then ([110,101,116],b0t p.net)
 else if p.kind=6 then ([99,111,115,116],b0C p.cost)
 else ([],[])
def c0p (p:Prd):List UInt8 :=
 if (a0t p).2=[]∨h0J p=false∨511 < (a0t p).1.length+(a0t p).2.length then [] else (a0t p).1++32 :: (a0t p).2
def f0Z:List UInt8→Option Nat
 | []=>none
 | c :: s=>if c=32 then some 0 else (f0Z s).map (· + 1)
theorem f0d (t u:List UInt8) (h:∀c∈t,c≠32):f0Z (t++32 :: u)=some t.length:=by
 induction t with
 | nil=>rfl
 | cons c t ih =>
  rw[List.cons_append,f0Z,if_neg (h c (List.mem_cons_self ..)),ih (fun d hd=>h d (List.mem_cons_of_mem _ hd))];rfl
theorem u0p (s:List UInt8) (k:Nat) (hk:k < s.length) (h:s.getD k 0=32) (hn:∀j < k,s.getD j 0≠32):f0Z s=some k:=by
 have e:s=s.take k++32 :: s.drop (k+1):=by
  conv=>lhs;rw[←List.take_append_drop k s]
  rw[List.drop_eq_getElem_cons hk]
  rw[List.getD_eq_getElem?_getD,List.getElem?_eq_getElem hk] at h
  have h:s[k]=32:=h
  rw[h]
 have hl:(s.take k).length=k:=by rw[List.length_take];omega
 conv=>lhs;rw[e]
 rw[f0d _ _ ?_,hl]
 intro c hc
 obtain⟨j,hj,rfl⟩:=List.mem_iff_getElem.1 hc
 rw[hl] at hj
 have:=hn j hj
 rw[List.getD_eq_getElem?_getD,List.getElem?_eq_getElem (by omega)] at this
 rw[List.getElem_take]
 exact this
theorem p0d (s:List UInt8) (h:∀j < s.length,s.getD j 0≠32):f0Z s=none:=by
 induction s with
 | nil=>rfl
 | cons c s ih =>
  rw[f0Z,if_neg (by simpa using h 0 (by simp)),ih (fun j hj=>by simpa using h (j+1) (by simpa using hj))];rfl
def g0j (b:List UInt8):List Prd :=
 [⟨1,(a0F b).getD 0,[],[],a0P,0⟩,⟨2,(a0F b).getD 0,[],[],a0P,0⟩,⟨3,0,(c0g b).getD [],[],a0P,0⟩,⟨4,0,[],b,a0P,0⟩,⟨5,0,[],[],(b0p b).getD a0P,0⟩,⟨6,0,[],[],a0P,(b0o b).getD 0⟩]
def c0x (s:List UInt8):Option Prd :=
 if 512 < s.length then none else match f0Z s with
  | none=>none
  | some k=>(g0j (s.drop (k+1))).find? fun p=>decide (c0p p=s)
theorem h0U (p:Prd) (h:c0p p≠[]):(a0t p).2≠[]∧h0J p=true∧(a0t p).1.length+(a0t p).2.length≤511∧c0p p=(a0t p).1++32 :: (a0t p).2:=by
 unfold c0p at h ⊢
 by_cases hc:(a0t p).2=[]∨h0J p=false∨511 < (a0t p).1.length+(a0t p).2.length
 ·rw[if_pos hc] at h;exact absurd rfl h
 ·rw[if_neg hc]
  refine⟨fun e=>hc (.inl e),?_,?_,rfl⟩
  ·cases ho:h0J p with
   | true=>rfl
   | false=>exact absurd (.inr (.inl ho)) hc
  ·rcases Nat.lt_or_ge 511 ((a0t p).1.length+(a0t p).2.length) with h1 | h1
   ·exact absurd (.inr (.inr h1)) hc
   ·exact h1
theorem c0n (p:Prd) (h:(a0t p).2≠[]) :
  p.kind=1∧a0t p=([98,101,102,111,114,101],numL 10 p.time)∨p.kind=2∧a0t p=([115,105,110,99,101],numL 10 p.time)∨p.kind=3∧a0t p=([111,112],b0L p.names) ∨
  p.kind=4∧a0t p=([112,97,116,104],p.path)∨p.kind=5∧a0t p=([110,101,116],b0t p.net)∨p.kind=6∧a0t p=([99,111,115,116],b0C p.cost):=by
 unfold a0t at h ⊢
 by_cases h1:p.kind=1
 ·rw[if_pos h1];exact .inl ⟨h1,rfl⟩
 rw[if_neg h1] at h ⊢
 by_cases h2:p.kind=2
 ·rw[if_pos h2];exact .inr (.inl ⟨h2,rfl⟩)
 rw[if_neg h2] at h ⊢
 by_cases h3:p.kind=3
 ·rw[if_pos h3];exact .inr (.inr (.inl ⟨h3,rfl⟩))
 rw[if_neg h3] at h ⊢
 by_cases h4:p.kind=4∧b0N p.path=true
 ·rw[if_pos h4];exact .inr (.inr (.inr (.inl ⟨h4.1,rfl⟩)))
 rw[if_neg h4] at h ⊢
 by_cases h5:p.kind=5
 ·rw[if_pos h5];exact .inr (.inr (.inr (.inr (.inl ⟨h5,rfl⟩))))
 rw[if_neg h5] at h ⊢
 by_cases h6:p.kind=6
 ·rw[if_pos h6];exact .inr (.inr (.inr (.inr (.inr ⟨h6,rfl⟩))))
 rw[if_neg h6] at h
 exact absurd rfl h
theorem k0K (p:Prd) (h:(a0t p).2≠[]):∀c∈(a0t p).1,c≠32:=by
 rcases c0n p h with ⟨-,e⟩ | ⟨-,e⟩ | ⟨-,e⟩ | ⟨-,e⟩ | ⟨-,e⟩ | ⟨-,e⟩<;>rw[e]<;>dsimp only<;>decide
theorem g0M (p:Prd) (h:h0J p=true):(p.kind=1∨p.kind=2∨p.time=0)∧(p.kind=3∨p.names=[])∧(p.kind=4∨p.path=[])∧(p.kind=5∨p.net=a0P)∧(p.kind=6∨p.cost=0):=by
 unfold h0J at h
 simp only[Bool.and_eq_true,Bool.or_eq_true,decide_eq_true_iff,w0S] at h
 obtain⟨⟨⟨⟨h1,h2⟩,h3⟩,h4⟩,h5⟩:=h
 exact⟨by rcases h1 with (h | h) | h;exact .inl h;exact .inr (.inl h);exact .inr (.inr h),h2,h3,h4,h5⟩
theorem f0O (l:List (List UInt8)) (h:b0L l≠[]):c0g (b0L l)=some l:=by
 rw[s0G]
 cases hr:c0J l with
 | true=>rfl
 | false=>exact absurd (y0L l hr) h
theorem f0R (r:Rng) (ho:r.Ok) (h:b0t r≠[]):b0p (b0t r)=some r:=(d0T _ r).2 ⟨ho.a,(g0P r h).1,rfl⟩
theorem f0Q (b:Nat) (hb:b < 2^64) (h:b0C b≠[]):b0o (b0C b)=some b:=by
 refine (f0B _ b).2 ⟨hb,?_,rfl⟩
 cases hn:nanC b with
 | false=>rfl
 | true=>exact absurd (by unfold b0C;rw[hn];rfl) h
theorem r0S (p:Prd) (ho:p.Ok) (h:c0p p≠[]):p∈g0j (a0t p).2:=by
 obtain⟨h2,honly,-,-⟩:=h0U p h
 obtain⟨o1,o2,o3,o4,o5⟩:=g0M p honly
 obtain⟨k,t,ns,pa,r,c⟩:=p
 unfold g0j
 simp only at o1 o2 o3 o4 o5
 rcases c0n _ h2 with ⟨e,hw⟩ | ⟨e,hw⟩ | ⟨e,hw⟩ | ⟨e,hw⟩ | ⟨e,hw⟩ | ⟨e,hw⟩<;>simp only at e<;>subst e<;>rw[hw] at h2 ⊢<;>simp only at h2 ⊢
 ·obtain rfl:ns=[]:=o2.resolve_left (by decide)
  obtain rfl:pa=[]:=o3.resolve_left (by decide)
  obtain rfl:r=a0P:=o4.resolve_left (by decide)
  obtain rfl:c=0:=o5.resolve_left (by decide)
  rw[d0R t ho.time]
  simp
 ·obtain rfl:ns=[]:=o2.resolve_left (by decide)
  obtain rfl:pa=[]:=o3.resolve_left (by decide)
  obtain rfl:r=a0P:=o4.resolve_left (by decide)
  obtain rfl:c=0:=o5.resolve_left (by decide)
  rw[d0R t ho.time]
  simp
 ·obtain rfl:t=0:=(o1.resolve_left (by decide)).resolve_left (by decide)
  obtain rfl:pa=[]:=o3.resolve_left (by decide)
  obtain rfl:r=a0P:=o4.resolve_left (by decide)
  obtain rfl:c=0:=o5.resolve_left (by decide)
  rw[f0O ns h2]
  simp
 ·obtain rfl:t=0:=(o1.resolve_left (by decide)).resolve_left (by decide)
  obtain rfl:ns=[]:=o2.resolve_left (by decide)
  obtain rfl:r=a0P:=o4.resolve_left (by decide)
  obtain rfl:c=0:=o5.resolve_left (by decide)
  simp
 ·obtain rfl:t=0:=(o1.resolve_left (by decide)).resolve_left (by decide)
  obtain rfl:ns=[]:=o2.resolve_left (by decide)
  obtain rfl:pa=[]:=o3.resolve_left (by decide)
  obtain rfl:c=0:=o5.resolve_left (by decide)
  rw[f0R r ho.net h2]
  simp
 ·obtain rfl:t=0:=(o1.resolve_left (by decide)).resolve_left (by decide)
  obtain rfl:ns=[]:=o2.resolve_left (by decide)
  obtain rfl:pa=[]:=o3.resolve_left (by decide)
  obtain rfl:r=a0P:=o4.resolve_left (by decide)
  rw[f0Q c ho.cost h2]
  simp
theorem v0c (a b c d:List UInt8) (ha:∀x∈a,x≠32) (hc:∀x∈c,x≠32) (h:a++32 :: b=c++32 :: d):a=c∧b=d:=by
 have e:a.length=c.length:=by
  have h1:=f0d a b ha
  rw[h,f0d c d hc] at h1
  exact (Option.some.inj h1).symm
 obtain⟨h1,h2⟩:=List.append_inj h e
 exact⟨h1,(List.cons.inj h2).2⟩
theorem x0G (p q:Prd) (hp:(a0t p).2≠[]) (hq:(a0t q).2≠[]) (h:(a0t p).1=(a0t q).1):p.kind=q.kind:=by
 rcases c0n p hp with ⟨e,hw⟩ | ⟨e,hw⟩ | ⟨e,hw⟩ | ⟨e,hw⟩ | ⟨e,hw⟩ | ⟨e,hw⟩ <;>
  rcases c0n q hq with ⟨f,hv⟩ | ⟨f,hv⟩ | ⟨f,hv⟩ | ⟨f,hv⟩ | ⟨f,hv⟩ | ⟨f,hv⟩<;>rw[hw,hv] at h<;>first | (rw[e,f];done) | (exact absurd h (by simp))
theorem x0H (p q:Prd) (hk:p.kind=q.kind) (hp:(a0t p).2≠[]) (hq:(a0t q).2≠[]) (h:(a0t p).2=(a0t q).2) :
  p.kind=1∧numL 10 p.time=numL 10 q.time∨p.kind=2∧numL 10 p.time=numL 10 q.time∨p.kind=3∧b0L p.names=b0L q.names∧b0L p.names≠[]∨p.kind=4∧p.path=q.path∨p.kind=5∧b0t p.net=b0t q.net∧b0t p.net≠[]∨p.kind=6∧b0C p.cost=b0C q.cost∧b0C p.cost≠[]:=by
 rcases c0n p hp with ⟨e,hw⟩ | ⟨e,hw⟩ | ⟨e,hw⟩ | ⟨e,hw⟩ | ⟨e,hw⟩ | ⟨e,hw⟩ <;>
  rcases c0n q hq with ⟨f,hv⟩ | ⟨f,hv⟩ | ⟨f,hv⟩ | ⟨f,hv⟩ | ⟨f,hv⟩ | ⟨f,hv⟩ <;>
  first
   | (exfalso;rw[e,f] at hk;exact absurd hk (by decide))
   | (rw [hw] at hp h; rw [hv] at h; simp only at hp h
      first
       | exact .inl ⟨e,h⟩
       | exact .inr (.inl ⟨e,h⟩)
       | exact .inr (.inr (.inl ⟨e,h,hp⟩))
       | exact .inr (.inr (.inr (.inl ⟨e,h⟩)))
       | exact .inr (.inr (.inr (.inr (.inl ⟨e,h,hp⟩))))
       | exact .inr (.inr (.inr (.inr (.inr ⟨e,h,hp⟩)))))
theorem x0v (p q:Prd) (hp:p.Ok) (hq:q.Ok) (h:c0p p=c0p q) (hne:c0p p≠[]):p=q:=by
 obtain⟨p2,po,-,pe⟩:=h0U p hne
 obtain⟨q2,qo,-,qe⟩:=h0U q (by rw[←h];exact hne)
 rw[pe,qe] at h
 obtain⟨h1,h2⟩:=v0c _ _ _ _ (k0K p p2) (k0K q q2) h
 have hk:=x0G p q p2 q2 h1
 obtain⟨o1,o2,o3,o4,o5⟩:=g0M p po
 obtain⟨u1,u2,u3,u4,u5⟩:=g0M q qo
 have hw:=x0H p q hk p2 q2 h2
 have key:p.time=q.time∧p.names=q.names∧p.path=q.path∧p.net=q.net∧p.cost=q.cost:=by
  rcases hw with ⟨e,hh⟩ | ⟨e,hh⟩ | ⟨e,hh,hn⟩ | ⟨e,hh⟩ | ⟨e,hh,hn⟩ | ⟨e,hh,hn⟩<;>rw[←hk] at u1 u2 u3 u4 u5<;>rw[e] at o1 o2 o3 o4 o5 u1 u2 u3 u4 u5
  ·exact⟨j0d 10 _ _ (by omega) (by omega) hh,by rw[o2.resolve_left (by decide),u2.resolve_left (by decide)],by rw[o3.resolve_left (by decide),u3.resolve_left (by decide)],by rw[o4.resolve_left (by decide),u4.resolve_left (by decide)],by rw[o5.resolve_left (by decide),u5.resolve_left (by decide)]⟩
  ·exact⟨j0d 10 _ _ (by omega) (by omega) hh,by rw[o2.resolve_left (by decide),u2.resolve_left (by decide)],by rw[o3.resolve_left (by decide),u3.resolve_left (by decide)],by rw[o4.resolve_left (by decide),u4.resolve_left (by decide)],by rw[o5.resolve_left (by decide),u5.resolve_left (by decide)]⟩
  all_goals have ht:p.time=q.time:=by rw[(o1.resolve_left (by decide)).resolve_left (by decide),(u1.resolve_left (by decide)).resolve_left (by decide)]
  ·refine⟨ht,?_,by rw[o3.resolve_left (by decide),u3.resolve_left (by decide)],by rw[o4.resolve_left (by decide),u4.resolve_left (by decide)],by rw[o5.resolve_left (by decide),u5.resolve_left (by decide)]⟩
   have k1:=f0O p.names hn
   rw[hh,f0O q.names (by rw[←hh];exact hn)] at k1
   exact (Option.some.inj k1).symm
  ·exact⟨ht,by rw[o2.resolve_left (by decide),u2.resolve_left (by decide)],hh,by rw[o4.resolve_left (by decide),u4.resolve_left (by decide)],by rw[o5.resolve_left (by decide),u5.resolve_left (by decide)]⟩
  ·refine⟨ht,by rw[o2.resolve_left (by decide),u2.resolve_left (by decide)],by rw[o3.resolve_left (by decide),u3.resolve_left (by decide)],?_,by rw[o5.resolve_left (by decide),u5.resolve_left (by decide)]⟩
   have k1:=f0R p.net hp.net hn
   rw[hh,f0R q.net hq.net (by rw[←hh];exact hn)] at k1
   exact (Option.some.inj k1).symm
  ·refine⟨ht,by rw[o2.resolve_left (by decide),u2.resolve_left (by decide)],by rw[o3.resolve_left (by decide),u3.resolve_left (by decide)],by rw[o4.resolve_left (by decide),u4.resolve_left (by decide)],?_⟩
   have k1:=f0Q p.cost hp.cost hn
   rw[hh,f0Q q.cost hq.cost (by rw[←hh];exact hn)] at k1
   exact (Option.some.inj k1).symm
 obtain⟨k,t,ns,pa,r,c⟩:=p
 obtain⟨k',t',ns',pa',r',c'⟩:=q
 simp only at hk key
 obtain⟨rfl,rfl,rfl,rfl,rfl⟩:=key
 subst hk
 rfl
theorem j0r:f0Y.Ok:=⟨b0P,by decide,by decide⟩
theorem f0z (s:List UInt8):(a0F s).getD 0 < 2^64:=by
 unfold a0F
 split
 ·decide
 ·split
  ·assumption
  ·decide
theorem g0B (b:List UInt8):∀p∈g0j b,p.Ok:=by
 have hr:((b0p b).getD a0P).Ok:=by
  cases h:b0p b with
  | none=>exact b0P
  | some r =>
   obtain⟨h1,h2,-⟩:=(d0T b r).1 h
   have:=d0k r h2
   exact⟨h1,by show _≤r.n;omega,by show r.n≤_;omega⟩
 have hc:(b0o b).getD 0 < 2^64:=by
  cases h:b0o b with
  | none=>decide
  | some c=>exact ((f0B b c).1 h).1
 have hn:=f0z b
 intro p hp
 unfold g0j at hp
 simp only[List.mem_cons,List.not_mem_nil,or_false] at hp
 rcases hp with rfl | rfl | rfl | rfl | rfl | rfl
 ·exact⟨b0P,hn,by show (0:Nat) < 2^64;decide⟩
 ·exact⟨b0P,hn,by show (0:Nat) < 2^64;decide⟩
 ·exact⟨b0P,by show (0:Nat) < 2^64;decide,by show (0:Nat) < 2^64;decide⟩
 ·exact⟨b0P,by show (0:Nat) < 2^64;decide,by show (0:Nat) < 2^64;decide⟩
 ·exact⟨hr,by show (0:Nat) < 2^64;decide,by show (0:Nat) < 2^64;decide⟩
 ·exact⟨b0P,by show (0:Nat) < 2^64;decide,hc⟩
theorem l0u (s:List UInt8) (p:Prd):c0x s=some p↔p.Ok∧c0p p=s∧s≠[]:=by
 constructor
 ·intro h
  unfold c0x at h
  by_cases hl:512 < s.length
  ·rw[if_pos hl] at h;cases h
  ·rw[if_neg hl] at h
   cases hb:f0Z s with
   | none=>rw[hb] at h;cases h
   | some k =>
    rw[hb] at h
    have h:(g0j (s.drop (k+1))).find? (fun p=>decide (c0p p=s))=some p:=h
    have h1:c0p p=s:=of_decide_eq_true (List.find?_some (p:=fun p=>decide (c0p p=s)) h)
    refine⟨g0B _ p (List.mem_of_find?_eq_some h),h1,?_⟩
    rintro rfl
    cases hb
 ·rintro ⟨ho,rfl,hne⟩
  obtain⟨h2,-,hl,he⟩:=h0U p hne
  have hb:f0Z (c0p p)=some (a0t p).1.length:=by rw[he];exact f0d _ _ (k0K p h2)
  have hd:(c0p p).drop ((a0t p).1.length+1)=(a0t p).2:=by
   rw[he,←List.drop_drop,List.drop_left];rfl
  have hlen:¬512 < (c0p p).length:=by rw[he,List.length_append,List.length_cons];omega
  unfold c0x
  rw[if_neg hlen,hb]
  show (g0j ((c0p p).drop ((a0t p).1.length+1))).find? (fun q=>decide (c0p q=c0p p))=some p
  rw[hd]
  cases hf:(g0j (a0t p).2).find? (fun q=>decide (c0p q=c0p p)) with
  | none =>
   have:=List.find?_eq_none.1 hf p (r0S p ho hne)
   simp at this
  | some q =>
   have h1:c0p q=c0p p:=of_decide_eq_true (List.find?_some (p:=fun q=>decide (c0p q=c0p p)) hf)
   rw[x0v q p (g0B _ q (List.mem_of_find?_eq_some hf)) ho h1 (by rw[h1];exact hne)]
def d0J (l:List UInt8):Prop:=∀c∈l,inkB c=true∧c≠32
theorem c0Z:d0J []:=fun _ hc=>absurd hc List.not_mem_nil
theorem b0A {c:UInt8} {l:List UInt8} (hc:inkB c=true∧c≠32) (h:d0J l):d0J (c :: l):=by
 intro d hd
 rcases List.mem_cons.1 hd with rfl | hd
 ·exact hc
 ·exact h d hd
theorem f0h {a b:List UInt8} (ha:d0J a) (hb:d0J b):d0J (a++b):=by
 intro d hd
 rcases List.mem_append.1 hd with hd | hd
 ·exact ha d hd
 ·exact hb d hd
theorem n0I (i:Nat) (h:i < 16):inkB (hexD i)=true∧hexD i≠32:=by
 have key:∀i:Fin 16,inkB (hexD i.1)=true∧hexD i.1≠32:=by decide +kernel
 exact key ⟨i,h⟩
theorem f0i (b n:Nat) (h2:2≤b) (hb:b≤16):d0J (numL b n):=by
 induction n using Nat.strongRecOn with
 | _ n ih =>
  by_cases h:n < b
  ·rw[a0O b n h]
   exact b0A (n0I n (by omega)) c0Z
  ·rw[b0k b n h2 (by omega)]
   exact f0h (ih (n/b) (Nat.div_lt_self (by omega) (by omega))) (b0A (n0I _ (Nat.lt_of_lt_of_le (Nat.mod_lt _ (by omega)) hb)) c0Z)
theorem j0N (x:UInt8) (ps:List (List UInt8)) (hx:inkB x=true∧x≠32) (h:∀p∈ps,d0J p):d0J (b0c x ps):=by
 intro c hc
 rcases j0b x ps c hc with rfl | ⟨p,hp,hc⟩
 ·exact hx
 ·exact h p hp c hc
theorem i0k (l:List Nat):d0J (b0H l):=by
 rw[b0I]
 refine j0N 58 _ (by decide) fun p hp=>?_
 obtain⟨n,_,rfl⟩:=List.mem_map.1 hp
 exact f0i 16 n (by omega) (by omega)
theorem t0L (l:List Nat):d0J (d0C l):=by
 unfold d0C
 simp only[]
 split
 ·exact i0k l
 ·exact f0h (i0k _) (b0A (by decide) (b0A (by decide) (i0k _)))
theorem t0J (a:Adr):d0J (a0U a):=by
 unfold a0U
 split
 ·split
  ·exact t0L _
  ·have n:∀k,d0J (numL 10 k):=fun k=>f0i 10 k (by omega) (by omega)
   have d:inkB 46=true∧(46:UInt8)≠32:=by decide
   exact f0h (f0h (f0h (n _) (b0A d (n _))) (b0A d (n _))) (b0A d (n _))
 ·exact c0Z
theorem t0N (r:Rng):d0J (b0t r):=by
 by_cases h:b0t r=[]
 ·rw[h];exact c0Z
 ·rw[(g0P r h).2]
  exact f0h (t0J _) (b0A (by decide) (f0i 10 _ (by omega) (by omega)))
theorem y0O (c:UInt8) (h:lowB c=true):inkB c=true∧c≠32:=by
 unfold lowB at h
 rw[Bool.and_eq_true,decide_eq_true_iff,decide_eq_true_iff] at h
 refine⟨?_,?_⟩
 ·unfold inkB
  rw[Bool.and_eq_true,decide_eq_true_iff,decide_eq_true_iff];omega
 ·rintro rfl
  exact absurd h.1 (by decide)
theorem w0W (c:UInt8) (h:d0g c=true):inkB c=true∧c≠32:=by
 have key:∀i:Fin 256,d0g (UInt8.ofNat i.1)=true→inkB (UInt8.ofNat i.1)=true∧UInt8.ofNat i.1≠32:=by decide +kernel
 have e:UInt8.ofNat c.toNat=c:=UInt8.ofNat_toNat
 have:=key ⟨c.toNat,c.toNat_lt⟩
 rw[e] at this
 exact this h
theorem p0s (l:List (List UInt8)):d0J (b0L l):=by
 unfold b0L
 split
 ·rename_i h
  refine j0N 44 l (by decide) fun p hp c hc=>?_
  have:=k0o l h p hp
  unfold d0u at this
  rw[Bool.and_eq_true,List.all_eq_true] at this
  exact y0O c (this.2 c hc)
 ·exact c0Z
theorem t0o (p:List UInt8) (h:b0N p=true):d0J p:=by
 obtain⟨r,rfl⟩:=l0z p h
 refine b0A (by decide) ?_
 have h:(decide (r=[])||(decide (r.length+1≤256)&&(a0h 47 r).all c0c))=true:=h
 rw[Bool.or_eq_true,decide_eq_true_iff,Bool.and_eq_true,List.all_eq_true] at h
 rcases h with rfl | ⟨-,h⟩
 ·exact c0Z
 ·rw[←c0t 47 r]
  refine j0N 47 _ (by decide) fun p hp c hc=>?_
  have:=h p hp
  unfold c0c at this
  rw[Bool.and_eq_true,List.all_eq_true] at this
  exact w0W c (this.2 c hc)
theorem v0t (p:Int):d0J (intL p):=by
 unfold intL
 split
 ·exact b0A (by decide) (f0i 10 _ (by omega) (by omega))
 ·exact f0i 10 _ (by omega) (by omega)
theorem r0P (a:Nat):d0J (h0c a):=by
 unfold h0c
 split
 ·exact b0A (by decide) c0Z
 ·split
  ·exact b0A (by decide) (b0A (by decide) (b0A (by decide) c0Z))
  ·exact f0h (f0i 10 _ (by omega) (by omega)) (b0A (by decide) (v0t _))
theorem t0K (b:Nat):d0J (b0C b):=by
 unfold b0C
 split
 ·exact c0Z
 ·refine f0h ?_ (r0P _)
  split
  ·exact b0A (by decide) c0Z
  ·exact c0Z
theorem x0K (a b:List UInt8) (ha:d0J a) (hb:d0J b) (ha0:a≠[]) (hb0:b≠[]) (hl:a.length+b.length≤511):b0X (a++32 :: b)=some [a,b]:=by
 have e:a0h 32 (a++32 :: b)=[a,b]:=by
  rw[t0D,c0S 32 a (fun c hc=>(ha c hc).2),c0S 32 b (fun c hc=>(hb c hc).2)];rfl
 unfold b0X
 rw[if_neg (by simp),e,if_pos]
 refine⟨by rw[List.length_append,List.length_cons];omega,?_,?_⟩
 ·rw[List.all_append,List.all_cons,List.all_eq_true.2 (fun c hc=>(ha c hc).1),List.all_eq_true.2 (fun c hc=>(hb c hc).1)];rfl
 ·simp[ha0,hb0]
theorem o0T (s a b:List UInt8) (h:b0X s=some [a,b]):s=a++32 :: b∧a≠[]∧b≠[]∧a.length+b.length≤511:=by
 rcases t0R s _ h with ⟨-,h⟩ | ⟨-,h1,-,h2,h3⟩
 ·cases h
 ·have e:=c0t 32 s
  rw[←h3] at e h2
  have e:a++32 :: b=s:=e
  rw[←e] at h1 ⊢
  rw[List.length_append,List.length_cons] at h1
  simp at h2
  exact⟨rfl,h2.1,h2.2,by omega⟩
def f0a (a b:List UInt8):Option Prd :=
 if a=[98,101,102,111,114,101] then (a0F b).map fun n=>⟨1,n,[],[],a0P,0⟩
 else if a=[115,105,110,99,101] then (a0F b).map fun n=>⟨2,n,[],[],a0P,0⟩
 else if a=[111,112] then (c0g b).map fun l=>⟨3,0,l,[],a0P,0⟩
 else if a=[112,97,116,104] then (if b0N b=true then some ⟨4,0,[],b,a0P,0⟩ else none)
 else if a=[110,101,116] then (b0p b).map fun r=>⟨5,0,[],[],r,0⟩
 else if a=[99,111,115,116] then (b0o b).map fun c=>⟨6,0,[],[],a0P,c⟩
 else none
def l0s (s:List UInt8):Option Prd:=match b0X s with
 | some [a,b]=>f0a a b
 | _=>none
theorem q0q (p:Prd) (h:(a0t p).2≠[]):d0J (a0t p).1∧d0J (a0t p).2∧(a0t p).1≠[]:=by
 have w:∀l:List UInt8,(l.all fun c=>inkB c&&decide (c≠32))=true→d0J l:=by
  intro l hl c hc
  have:=List.all_eq_true.1 hl c hc
  rw[Bool.and_eq_true,decide_eq_true_iff] at this
  exact this
 have hr:p.kind=4→(a0t p).2=p.path→b0N p.path=true:=by
  intro hk he
  cases hr:b0N p.path with
  | true=>rfl
  | false =>
   exfalso
   apply h
   unfold a0t
   rw[hk,hr];rfl
 rcases c0n p h with ⟨e,hw⟩ | ⟨e,hw⟩ | ⟨e,hw⟩ | ⟨e,hw⟩ | ⟨e,hw⟩ | ⟨e,hw⟩<;>rw[hw] at hr ⊢<;>refine⟨w _ (by dsimp only;decide),?_,by dsimp only;simp⟩
 ·exact f0i 10 _ (by omega) (by omega)
 ·exact f0i 10 _ (by omega) (by omega)
 ·exact p0s _
 ·exact t0o _ (hr e rfl)
 ·exact t0N _
 ·exact t0K _
theorem z0P (p:Prd) (a b:List UInt8) (hw:a0t p=(a,b)) (hb:b≠[]) (ho:h0J p=true) (hl:a.length+b.length≤511):c0p p=a++32 :: b:=by
 unfold c0p
 rw[hw,if_neg]
 rintro (h | h | h)
 ·exact hb h
 ·rw[ho] at h;cases h
 ·have h:511 < a.length+b.length:=h
  omega
theorem w0C (a b:List UInt8) (p:Prd) (h:f0a a b=some p):p.Ok∧h0J p=true∧a0t p=(a,b):=by
 unfold f0a at h
 split at h
 ·rename_i e
  obtain⟨n,hn,rfl⟩:=Option.map_eq_some_iff.1 h
  have h1:=f0z b
  rw[hn] at h1
  have hv:numL 10 n=b:=by
   unfold a0F at hn
   split at hn
   ·cases hn
   ·rename_i m hm
    split at hn
    ·cases hn;exact ((c0H 10 20 (by omega) (by omega) b _).1 hm).1
    ·cases hn
  refine⟨⟨b0P,h1,by show (0:Nat) < 2^64;decide⟩,rfl,?_⟩
  show (_,numL 10 n)=_
  rw[hv,e]
 split at h
 ·rename_i e
  obtain⟨n,hn,rfl⟩:=Option.map_eq_some_iff.1 h
  have h1:=f0z b
  rw[hn] at h1
  have hv:numL 10 n=b:=by
   unfold a0F at hn
   split at hn
   ·cases hn
   ·rename_i m hm
    split at hn
    ·cases hn;exact ((c0H 10 20 (by omega) (by omega) b _).1 hm).1
    ·cases hn
  refine⟨⟨b0P,h1,by show (0:Nat) < 2^64;decide⟩,rfl,?_⟩
  show (_,numL 10 n)=_
  rw[hv,e]
 split at h
 ·rename_i e
  obtain⟨l,hn,rfl⟩:=Option.map_eq_some_iff.1 h
  refine⟨⟨b0P,by show (0:Nat) < 2^64;decide,by show (0:Nat) < 2^64;decide⟩,rfl,?_⟩
  have hv:b0L l=b:=by
   unfold c0g at hn
   split at hn
   ·rename_i hr
    cases hn
    unfold b0L
    rw[if_pos hr,c0t]
   ·cases hn
  show (_,b0L l)=_
  rw[hv,e]
 split at h
 ·rename_i e
  split at h
  ·rename_i hr
   cases h
   refine⟨⟨b0P,by show (0:Nat) < 2^64;decide,by show (0:Nat) < 2^64;decide⟩,rfl,?_⟩
   unfold a0t
   rw[if_neg (by simp),if_neg (by simp),if_neg (by simp),if_pos ⟨rfl,hr⟩,e]
  ·cases h
 split at h
 ·rename_i e
  obtain⟨r,hn,rfl⟩:=Option.map_eq_some_iff.1 h
  obtain⟨h1,h2,h3⟩:=(d0T b r).1 hn
  have:=d0k r h2
  refine⟨⟨⟨h1,by show _≤r.n;omega,by show r.n≤_;omega⟩,by show (0:Nat) < 2^64;decide,by show (0:Nat) < 2^64;decide⟩,rfl,?_⟩
  show (_,b0t r)=_
  rw[h3,e]
 split at h
 ·rename_i e
  obtain⟨c,hn,rfl⟩:=Option.map_eq_some_iff.1 h
  obtain⟨h1,-,h3⟩:=(f0B b c).1 hn
  refine⟨⟨b0P,by show (0:Nat) < 2^64;decide,h1⟩,rfl,?_⟩
  show (_,b0C c)=_
  rw[h3,e]
 ·cases h
theorem w0B (p:Prd) (ho:p.Ok) (h2:(a0t p).2≠[]) (hon:h0J p=true):f0a (a0t p).1 (a0t p).2=some p:=by
 obtain⟨o1,o2,o3,o4,o5⟩:=g0M p hon
 have hr:p.kind=4→(a0t p).2=p.path→b0N p.path=true:=by
  intro hk he
  cases hr:b0N p.path with
  | true=>rfl
  | false =>
   exfalso
   apply h2
   unfold a0t
   rw[hk,hr];rfl
 obtain⟨k,t,ns,pa,r,c⟩:=p
 simp only at o1 o2 o3 o4 o5
 rcases c0n _ h2 with ⟨e,hw⟩ | ⟨e,hw⟩ | ⟨e,hw⟩ | ⟨e,hw⟩ | ⟨e,hw⟩ | ⟨e,hw⟩<;>simp only at e<;>subst e<;>rw[hw] at h2 hr ⊢<;>simp only at h2 hr ⊢
 ·obtain rfl:ns=[]:=o2.resolve_left (by decide)
  obtain rfl:pa=[]:=o3.resolve_left (by decide)
  obtain rfl:r=a0P:=o4.resolve_left (by decide)
  obtain rfl:c=0:=o5.resolve_left (by decide)
  show (a0F (numL 10 t)).map _=_
  rw[d0R t ho.time];rfl
 ·obtain rfl:ns=[]:=o2.resolve_left (by decide)
  obtain rfl:pa=[]:=o3.resolve_left (by decide)
  obtain rfl:r=a0P:=o4.resolve_left (by decide)
  obtain rfl:c=0:=o5.resolve_left (by decide)
  show (a0F (numL 10 t)).map _=_
  rw[d0R t ho.time];rfl
 ·obtain rfl:t=0:=(o1.resolve_left (by decide)).resolve_left (by decide)
  obtain rfl:pa=[]:=o3.resolve_left (by decide)
  obtain rfl:r=a0P:=o4.resolve_left (by decide)
  obtain rfl:c=0:=o5.resolve_left (by decide)
  show (c0g (b0L ns)).map _=_
  rw[f0O ns h2];rfl
 ·obtain rfl:t=0:=(o1.resolve_left (by decide)).resolve_left (by decide)
  obtain rfl:ns=[]:=o2.resolve_left (by decide)
  obtain rfl:r=a0P:=o4.resolve_left (by decide)
  obtain rfl:c=0:=o5.resolve_left (by decide)
  show (if b0N pa=true then _ else _)=_
  rw[if_pos (by simpa using hr)]
 ·obtain rfl:t=0:=(o1.resolve_left (by decide)).resolve_left (by decide)
  obtain rfl:ns=[]:=o2.resolve_left (by decide)
  obtain rfl:pa=[]:=o3.resolve_left (by decide)
  obtain rfl:c=0:=o5.resolve_left (by decide)
  show (b0p (b0t r)).map _=_
  rw[f0R r ho.net h2];rfl
 ·obtain rfl:t=0:=(o1.resolve_left (by decide)).resolve_left (by decide)
  obtain rfl:ns=[]:=o2.resolve_left (by decide)
  obtain rfl:pa=[]:=o3.resolve_left (by decide)
  obtain rfl:r=a0P:=o4.resolve_left (by decide)
  show (b0o (b0C c)).map _=_
  rw[f0Q c ho.cost h2];rfl
theorem k0i (s:List UInt8) (p:Prd) (h:l0s s=some p):∃a b,b0X s=some [a,b]∧f0a a b=some p:=by
 unfold l0s at h
 split at h
 ·rename_i a b hw
  exact⟨a,b,hw,h⟩
 ·cases h
theorem w0u (s:List UInt8):l0s s=c0x s:=by
 apply Option.ext
 intro p
 constructor
 ·intro h
  obtain⟨a,b,hw,hr⟩:=k0i s p h
  obtain⟨rfl,ha,hb,hl⟩:=o0T s a b hw
  obtain⟨ho,hon,hp⟩:=w0C a b p hr
  exact (l0u _ p).2 ⟨ho,z0P p a b hp hb hon hl,by simp⟩
 ·intro h
  obtain⟨ho,rfl,hne⟩:=(l0u s p).1 h
  obtain⟨h2,hon,hl,he⟩:=h0U p hne
  obtain⟨f1,f2,f3⟩:=q0q p h2
  unfold l0s
  rw[he,x0K _ _ f1 f2 f3 h2 hl]
  exact w0B p ho h2 hon
theorem k0p {w:World} {g:Nat} {t:TypeId} {R V U:List Value} (e:R=V++U) (h:Row w g t R):w.rangeAt g 0 V:=c0L (by rw[e] at h;exact h)
theorem w0H {w:World} {g:Nat} {t:TypeId} {R V:List Value} {n:Int} (hl:V.length=17) (e:R=V++[Value.int .i64 n]) (h:Row w g t R):w.cell? ⟨g,17,none⟩=some (.int .i64 n):=p0W hl (by rw[e] at h;exact h)
theorem l0X (l:List Nat) (h:l.length=8):∃a b c d e f g i:Nat,l=[a,b,c,d,e,f,g,i]:=by
 match l,h with
 | [a,b,c,d,e,f,g,i],_=>exact⟨a,b,c,d,e,f,g,i,rfl⟩
def zB:List Bool→Nat
 | []=>0
 | z :: zs=>if z then zB zs+1 else 0
def r0N (l:List Bool):Nat:=(List.range l.length).foldl (fun best i=>if zB (l.drop i) > zB (l.drop best) then i else best) 0
theorem c1j (l:List Nat):zB (l.map fun n=>decide (n=0))=a0S l:=by
 induction l with
 | nil=>rfl
 | cons n l ih=>rw[List.map_cons,zB,a0S,ih];by_cases h:n=0<;>simp[h]
theorem q0y (l:List Nat):r0N (l.map fun n=>decide (n=0))=d0A l:=by
 unfold r0N d0A
 simp only[←List.map_drop,c1j,List.length_map]
theorem y0a:∀a b c d e f g h:Bool,r0N [a,b,c,d,e,f,g,h] + zB ([a,b,c,d,e,f,g,h].drop (r0N [a,b,c,d,e,f,g,h]))≤8:=by decide
theorem u0n (l:List Nat) (h8:l.length=8):d0A l+a0S (l.drop (d0A l))≤8:=by
 rw[←q0y,←c1j,List.map_drop]
 obtain⟨a,b,c,d,e,f,g,h,rfl⟩:=l0X l h8
 exact y0a _ _ _ _ _ _ _ _
theorem n0C (x:UInt8) (ps:List (List UInt8)) (m:Nat) (hm:∀p∈ps,p.length≤m):(b0c x ps).length+1≤(m+1)*ps.length+(if ps=[] then 1 else 0):=by
 induction ps with
 | nil=>simp[b0c]
 | cons p ps ih =>
  have h1:=hm p (List.mem_cons_self ..)
  have h2:=ih (fun q hq=>hm q (List.mem_cons_of_mem _ hq))
  cases ps with
  | nil=>show p.length+1≤_;simp;omega
  | cons q ps =>
   rw[b0q x p (q :: ps) (by simp),List.length_append,List.length_cons,if_neg (by simp)]
   rw[if_neg (by simp)] at h2
   rw[List.length_cons,Nat.mul_succ]
   omega
theorem l0l (l:List Nat) (hm:∀n∈l,n≤65535):(b0H l).length≤5*l.length:=by
 rw[b0I]
 have:=n0C 58 (l.map (numL 16)) 4 (by
  intro p hp
  obtain⟨n,hn,rfl⟩:=List.mem_map.1 hp
  exact f0y n (hm n hn))
 rw[List.length_map] at this
 split at this<;>omega
theorem s0w (l:List Nat) (h8:l.length=8) (hm:∀n∈l,n≤65535):(b0H l).length≤39:=by
 rw[b0I]
 have:=n0C 58 (l.map (numL 16)) 4 (by
  intro p hp
  obtain⟨n,hn,rfl⟩:=List.mem_map.1 hp
  exact f0y n (hm n hn))
 rw[List.length_map,h8,if_neg (by intro h;have:=congrArg List.length h;simp[h8] at this)] at this
 omega
theorem k0H (a:Adr):(a0U a).length≤39:=by
 unfold a0U
 split
 ·split
  ·unfold d0C
   dsimp only
   have h8:=h0H a
   have hm:=m0q a
   split
   ·exact s0w _ h8 hm
   ·rename_i hz
    have h1:=l0l ((c0d a).take (d0A (c0d a))) (fun n hn=>hm n (List.mem_of_mem_take hn))
    have h2:=l0l ((c0d a).drop (d0A (c0d a)+a0S ((c0d a).drop (d0A (c0d a))))) (fun n hn=>hm n (List.mem_of_mem_drop hn))
    have h3:=u0n (c0d a) h8
    rw[List.length_take] at h1
    rw[List.length_drop] at h2
    rw[List.length_append,List.length_cons,List.length_cons]
    omega
  ·have k0:=f0x (a.b.getD 0 0).toNat (by have:=(a.b.getD 0 0).toNat_lt;omega)
   have k1:=f0x (a.b.getD 1 0).toNat (by have:=(a.b.getD 1 0).toNat_lt;omega)
   have k2:=f0x (a.b.getD 2 0).toNat (by have:=(a.b.getD 2 0).toNat_lt;omega)
   have k3:=f0x (a.b.getD 3 0).toNat (by have:=(a.b.getD 3 0).toNat_lt;omega)
   simp only[List.length_append,List.length_cons]
   omega
 ·simp
theorem y0y (n:Nat) (h:n < 10):((hexD n).toNat:Int)=48+(n:Int):=by
 have:n=0∨n=1∨n=2∨n=3∨n=4∨n=5∨n=6∨n=7∨n=8∨n=9:=by omega
 rcases this with rfl | rfl | rfl | rfl | rfl | rfl | rfl | rfl | rfl | rfl<;>rfl
set_option maxHeartbeats 1000000 in
theorem t0q (k:Nat):∀(n:Nat) (w:World),n≤k→n≤9223372036854775807 →
  Calls Tryz.prog 115 #[.int .i64 n] w fun e w'=>e=.returned (.string (bstr (numL 10 n)))∧Below w.heap.size w w':=by
 induction k using Nat.strongRecOn with
 | _ k ih =>
  intro n w hk hm
  by_cases hlt:n < 10
  ·have hN:=Lib.hid (a0O 10 n hlt)
   have hlt':(n:Int) < 10:=by omega
   have hd:=y0y n hlt
   generalize hexD n=x at *
   have hw1:IntKind.i64.wrap (48+(n:Int))=(x.toNat:Int):=by rw[IntKind.wrap_i64];omega
   have hxl:=x.toNat_lt
   have hw2:IntKind.u8.wrap (x.toNat:Int)=(x.toNat:Int):=by rw[IntKind.wrap_u8];omega
   have hw3:IntKind.u8.wrap (48+(n:Int))=(x.toNat:Int):=by rw[IntKind.wrap_u8];omega
   have hd2:48+(n:Int)=(x.toNat:Int):=hd.symm
   have hsl:=k0x w [x] #[.int .u8 (x.toNat:Int)] (0,0) rfl 1 rfl
   have hcv:=b0Q hsl 1 rfl
   have hb:Below w.heap.size w (w.alloc (.cells #[.int .u8 (x.toNat:Int)] 5 (0,0))):=(Below.refl _ w).alloc (Nat.le_refl _) _
   clear hsl ih hd
   go_enter Tryz.func115,Tryz.ntmps115
   go_wp2_with fail
   go_ret
   exact⟨by rw[hN.out];rfl,hb⟩
  ·have hge:(10:Int)≤(n:Int):=by omega
   have hN:=Lib.hid (b0k 10 n (by omega) (by omega))
   have hq:=Lib.hid (show ∀w',Calls Tryz.prog 115 #[.int .i64 ((n:Int)/10)] w' fun e w''=>e=.returned (.string (bstr (numL 10 (n/10))))∧Below w'.heap.size w' w'' from fun w'=>ih (n/10) (by omega) (n/10) w' (Nat.le_refl _) (by omega))
   have hr:=Lib.hid (show ∀w',Calls Tryz.prog 115 #[.int .i64 ((n:Int)%10)] w' fun e w''=>e=.returned (.string (bstr [hexD (n%10)]))∧Below w'.heap.size w' w'' from by
    rw[←a0O 10 (n%10) (by omega)];exact fun w'=>ih (n%10) (by omega) (n%10) w' (Nat.le_refl _) (by omega))
   have hY:=b0f 10 (by omega) 62 (n/10) (by omega)
   generalize hXn:numL 10 n=X at *
   generalize numL 10 (n/10)=Y at *
   have hZ:[hexD (n%10)].length=1:=rfl
   generalize [hexD (n%10)]=Z at *
   have hl1:(bstr Y).size+(bstr Z).size≤9223372036854775807:=by rw[a0f,a0f];omega
   have hl2:¬9223372036854775807 < (bstr Y).size+(bstr Z).size:=by omega
   have hw1:IntKind.i64.wrap ((n:Int)/10)=(n:Int)/10:=by rw[IntKind.wrap_i64];omega
   have hw2:((n:Int)).tmod 10=(n:Int)%10:=Int.tmod_eq_emod_of_nonneg (by omega)
   clear ih hXn
   have tok1:True:=trivial
   go_enter Tryz.func115,Tryz.ntmps115
   go_wp2_with (first
    | (go_at_call 115;have _t:=tok1;refine (hq.out _).mono ?_;rintro e w2 ⟨rfl,hb2⟩;clear tok1)
    | (go_at_call 115;refine (hr.out _).mono ?_;rintro e w3 ⟨rfl,hb3⟩;have hb3:=hb2.trans (hb3.mono hb2.size)))
   go_ret
   exact⟨by rw[hN.out,←a0r];rfl,hb3⟩
set_option maxHeartbeats 2000000 in
theorem k0r (r:Rng) (h:r.Ok) (w:World) :
  Calls Tryz.prog 78 #[.agg (rngV r).toArray] w fun e w'=>e=.returned (.string (bstr (b0t r)))∧Below w.heap.size w w':=by
 have hcr:=Lib.hid (fun w'=>p0P r h w')
 have htx:=Lib.hid (fun w'=>i0p r.a h.a w')
 have hlim:=d0k r
 obtain⟨R,hR⟩:∃R,R=rngV r:=⟨_,rfl⟩
 obtain⟨V,hV⟩:∃V,V=adrV r.a:=⟨_,rfl⟩
 have HR:=Lib.hid (show R=V++[Value.int .i64 r.n] by rw[hR,hV];rfl)
 have hVl:=Lib.hid (show V.length=17 by rw[hV];exact a0l h.a)
 have hzV:=Lib.hid (show (Tryz.prog.info? 65).map (·.size)=some V.length by rw[hVl.out];exact a0W)
 have hzR:=Lib.hid (show (Tryz.prog.info? 67).map (·.size)=some R.length by rw[hR,a0w r h.a];exact c0f)
 rw[←hR] at hcr ⊢
 rw[←hV] at htx
 clear hR hV
 obtain⟨w1,hw1⟩:∃w1,w1=w.alloc (.cells R.toArray 67):=⟨_,rfl⟩
 have r1:Row w1 w.heap.size 67 R:=by rw[hw1];exact Row.new w _ _
 have hb1:Below w.heap.size w w1:=by rw[hw1];exact (Below.refl _ w).alloc (Nat.le_refl _) _
 have HW:=Lib.hid hw1
 clear hw1
 have tok1:True:=trivial
 cases hc:c0b r with
 | false =>
  have HX:=Lib.hid (show b0t r=[] by unfold b0t;rw[hc];rfl)
  rw[hc] at hcr
  clear hc hlim
  go_enter Tryz.func78,Tryz.ntmps78
  go_wp2_with (first
   | (have _t:=tok1;rw[←HW.out];clear tok1;with_reducible refine wpList_load_mid rfl 67 (.tmp 1) rfl w.heap.size 0 rfl R _ (a0m r1) Tryz.underlying67 rfl hzR.out ?_)
   | (go_at_call 114;refine (hcr.out _).mono ?_;rintro e w2 ⟨rfl,hb2⟩;have hb2:=hb1.trans (hb2.mono hb1.size)))
  go_ret
  exact⟨by rw[HX.out];rfl,hb2⟩
 | true =>
  obtain⟨-,n0,n1⟩:=hlim hc
  have HX:=Lib.hid (show b0t r=(a0U r.a++[47])++numL 10 r.n.toNat by rw[h0V r hc];simp)
  have hnm:=Lib.hid (show ∀w',Calls Tryz.prog 115 #[.int .i64 r.n] w' fun e w''=>e=.returned (.string (bstr (numL 10 r.n.toNat)))∧Below w'.heap.size w' w'' from fun w'=>by
   have:=t0q r.n.toNat r.n.toNat w' (Nat.le_refl _) (by omega)
   rw[Int.toNat_of_nonneg n0] at this
   exact this)
  have hl1:=k0H r.a
  have hl2:=b0f 10 (by omega) 2 r.n.toNat (by omega)
  rw[hc] at hcr
  generalize a0U r.a=A at *
  generalize numL 10 r.n.toNat=B at *
  generalize hn:r.n=n at *
  have hs1:(bstr A).size≤39:=by rw[a0f];exact hl1
  have hs2:(bstr B).size≤3:=by rw[a0f];exact hl2
  clear hc hlim n0 n1 hl1 hl2 hn
  go_enter Tryz.func78,Tryz.ntmps78
  go_wp2_with (first
   | (have _t:=tok1;rw[←HW.out];clear tok1;with_reducible refine wpList_load_mid rfl 67 (.tmp 1) rfl w.heap.size 0 rfl R _ (a0m r1) Tryz.underlying67 rfl hzR.out ?_)
   | (go_at_call 114;refine (hcr.out _).mono ?_;rintro e w2 ⟨rfl,hb2⟩;have r2:=r1.later hb2 r1.lt;have hb2:=hb1.trans (hb2.mono hb1.size)))
  refine wp_region_noPanic ?_
  refine wp_region_held_drew (S:=fun w'=>Below w2.heap.size w2 w') (by kernel_rfl) ((Below.refl _ _).drew) (fun hHeld=>?_)
  have hB:=hHeld
  refine rt 0 6 hHeld ?_
  refine rt 1 7 hHeld ?_ (hy:=by intro w hS;exact a0A 65 (.tmp 6) rfl _ 0 rfl V _ (k0p HR.out (r2.later hS r2.lt)) Tryz.underlying65 rfl hzV.out)
  refine rt 4 10 hHeld ?_
  refine rt 5 11 hHeld ?_ (hy:=by intro w hS;have hcn:=w0H hVl.out HR.out (r2.later hS r2.lt);go_simp;try with_reducible rfl)
  refine wpAnyH_ready (rs:=[2]) (by kernel_rfl) (by simp) (AllReadyH.cons (o:=_) rfl (fun K hK=>?_) AllReadyH.nil)
  go_simp
  refine (htx.out _).mono ?_;rintro e ww22 ⟨rfl,hqw22⟩
  try go_wp2_with fail
  refine hK.out _ _ (hHeld.trans (hqw22.mono hHeld.size)) (fun hHeld'=>?_)
  clear hK K
  try (first | (rw[a0c];dsimp only[List.set]) | rw[a0d])
  have hB:=a0a hB hqw22
  have hB2:Below ww22.heap.size ww22 ww22:=Below.refl _ _
  refine a0j (S':=fun w'=>Below ww22.heap.size ww22 w') (fun _ h=>(hHeld.trans (hqw22.mono hHeld.size)).trans (h.mono (hHeld.trans (hqw22.mono hHeld.size)).size)) _ _ _ _ ?_
  clear hHeld
  have hHeld:Below ww22.heap.size ww22 ww22:=Below.refl _ _
  refine rt 3 9 hHeld ?_ (hy:=by intro w hS;go_simp;rw[if_neg (by (try simp only[ByteArray.size_append]);(try simp only[show ({ data:=#[47] } : ByteArray).size=1 from rfl]);omega)])
  refine wpAnyH_ready (rs:=[6]) (by kernel_rfl) (by simp) (AllReadyH.cons (o:=_) rfl (fun K hK=>?_) AllReadyH.nil)
  go_simp
  refine (hnm.out _).mono ?_;rintro e ww26 ⟨rfl,hqw26⟩
  try go_wp2_with fail
  refine hK.out _ _ (hHeld.trans (hqw26.mono hHeld.size)) (fun hHeld'=>?_)
  clear hK K
  try (first | (rw[a0c];dsimp only[List.set]) | rw[a0d])
  have hB:=a0a hB hqw26
  have hB2:=a0a hB2 hqw26
  have hB6:Below ww26.heap.size ww26 ww26:=Below.refl _ _
  refine a0j (S':=fun w'=>Below ww26.heap.size ww26 w') (fun _ h=>(hHeld.trans (hqw26.mono hHeld.size)).trans (h.mono (hHeld.trans (hqw26.mono hHeld.size)).size)) _ _ _ _ ?_
  clear hHeld
  have hHeld:Below ww26.heap.size ww26 ww26:=Below.refl _ _
  refine rt 7 13 hHeld ?_ (hy:=by intro w hS;go_simp;rw[if_neg (by (try simp only[ByteArray.size_append]);(try simp only[show ({ data:=#[47] } : ByteArray).size=1 from rfl]);omega)])
  refine rt 8 2 hHeld ?_
  refine wpAnyH_done (by kernel_rfl) ?_ _
  refine NoPanic.normal ?_
  have hbe:=hb2.trans (hB.mono hb2.size)
  clear hHeld
  go_wp2
  go_ret
  exact⟨by rw[HX.out];simp only[←a0r];rfl,hbe⟩
theorem d1d (P:UInt8→Bool) (s:List UInt8) (k:Nat) (h:k < s.length):(s.drop k).all P=(P (s.getD k 0)&&(s.drop (k+1)).all P):=by
 rw[List.drop_eq_getElem_cons h,List.all_cons,List.getD_eq_getElem?_getD,List.getElem?_eq_getElem h];rfl
theorem l0m (s:List UInt8):d0u s=(decide (1≤s.length)&&decide (s.length≤16)&&s.all lowB):=rfl
set_option maxHeartbeats 2000000 in
theorem p0V (s:List UInt8) (hs:s.length≤100000) (w:World):Calls Tryz.prog 110 #[.string (bstr s)] w fun e w'=>e=.returned (.bool (d0u s))∧w=w':=by
 have hz:=a0f s
 have HV:=Lib.hid (l0m s)
 generalize d0u s=V at *
 by_cases h1:s.length < 1
 ·have HW:=Lib.hid (show V=false by rw[HV.out,decide_eq_false (by omega:¬1≤s.length)];rfl)
  have a1:(s.length:Int) < 1:=by omega
  clear HV
  go_enter Tryz.func110,Tryz.ntmps110
  go_wp2
  go_ret
  exact⟨by rw[HW.out];rfl,rfl⟩
 have a1:decide ((s.length:Int) < 1)=false:=decide_eq_false (by omega)
 by_cases h2:16 < s.length
 ·have HW:=Lib.hid (show V=false by rw[HV.out,decide_eq_false (by omega:¬s.length≤16),Bool.and_false];rfl)
  have a2:(16:Int) < (s.length:Int):=by omega
  clear HV
  go_enter Tryz.func110,Tryz.ntmps110
  go_wp2
  go_ret
  exact⟨by rw[HW.out];rfl,rfl⟩
 have a2:decide ((16:Int) < (s.length:Int))=false:=decide_eq_false (by omega)
 have HW:=Lib.hid (show V=s.all lowB by rw[HV.out,decide_eq_true (show 1≤s.length by omega),decide_eq_true (show s.length≤16 by omega)];rfl)
 clear HV h1 h2
 go_enter Tryz.func110,Tryz.ntmps110
 go_wp2
 clear a1 a2
 go_loop [3] (fun i=>∃k:Nat,k≤s.length∧i=.int .i64 k∧(s.drop k).all lowB=s.all lowB) (fun i=>s.length - (intOf i).toNat)
 case atStart=>exact⟨0,by omega,rfl,rfl⟩
 case round =>
  obtain⟨k,hk,rfl,hf⟩:=hrel
  by_cases hlt:k < s.length
  ·have hlt':(k:Int) < (s.length:Int):=by omega
   have hix:=a0Q s k hlt
   have HA:=Lib.hid (d1d lowB s k hlt)
   have HF:=Lib.hid hf
   generalize s.getD k 0=c at *
   clear hf
   by_cases c1:c.toNat < 97
   ·have HN:=Lib.hid (show V=false by rw[HW.out,←HF.out,HA.out,show lowB c=false by unfold lowB;rw[decide_eq_false (by omega:¬97≤c.toNat)];rfl,Bool.false_and])
    have c1':(c.toNat:Int) < 97:=by omega
    clear HA c1
    go_wp2
    go_ret
    exact⟨by rw[HN.out];rfl,rfl⟩
   ·have c1':decide ((c.toNat:Int) < 97)=false:=decide_eq_false (by omega)
    by_cases c2:122 < c.toNat
    ·have HN:=Lib.hid (show V=false by rw[HW.out,←HF.out,HA.out,show lowB c=false by unfold lowB;rw[decide_eq_false (by omega:¬c.toNat≤122),Bool.and_false],Bool.false_and])
     have c2':(122:Int) < (c.toNat:Int):=by omega
     clear HA c1 c2
     go_wp2
     go_ret
     exact⟨by rw[HN.out];rfl,rfl⟩
    ·have HN:=Lib.hid (show (s.drop (k+1)).all lowB=s.all lowB by rw[←HF.out,HA.out,show lowB c=true by unfold lowB;rw[decide_eq_true (by omega:97≤c.toNat),decide_eq_true (by omega:c.toNat≤122)];rfl,Bool.true_and])
     have c2':decide ((122:Int) < (c.toNat:Int))=false:=decide_eq_false (by omega)
     clear HA c1 c2
     go_wp2
     go_round
     case rel=>exact⟨k+1,by omega,by go_num,HN.out⟩
     case measure=>simp[intOf];omega
  ·obtain rfl:k=s.length:=by omega
   have HN:=Lib.hid (show V=true by rw[HW.out,←hf,List.drop_length];rfl)
   clear hf
   go_wp2
   go_ret
   exact⟨by rw[HN.out];rfl,rfl⟩
open Go.ChangeShapes Go.WideShapes Go.ChangeAt Go.RowKit
theorem h0t (s:ByteArray):bstr s.data.toList=s:=by obtain⟨⟨l⟩⟩:=s;rfl
theorem h0x:Tryz.prog.cellsOf 9=1:=by kernel_rfl
end Go.Proofs.YtimdhdimhboboaaGreatDoor
namespace Go.Proofs.YtimdhdimhboboaaGreatDoor
set_option maxRecDepth 100000
open Go Go.RowKit
set_option maxHeartbeats 2000000 in
theorem o0C (s:List UInt8) (x:UInt8) (hs:s.length≤4000) (w:World) :
  Calls Tryz.prog 75 #[.string (bstr s),.int .u8 (x.toNat:Int)] w fun e w'=>∃v,e=.returned v∧w'.ownsRow w.heap.size 9 1 v (a0h x s).length (a0I (a0h x s))∧Below w.heap.size w w':=by
 obtain⟨i0,hi,hz0,hz1,hz2⟩:=info_parts j0O
 have hz:=a0f s
 have hown0:(w.alloc (.cells #[] 9)).ownsRow w.heap.size 9 1 (.slice (some ⟨w.heap.size,0,none⟩) 0 0) 0 (a0I []):=World.ownsRow_lit w (e:=9) (size:=1) #[] 0 (Nat.le_refl _) (by unfold maxLen;omega) rfl
 have hb0:Below w.heap.size w (w.alloc (.cells #[] 9)):=(Below.refl _ w).alloc (Nat.le_refl _) _
 go_enter Tryz.func75,Tryz.ntmps75
 go_wp2
 go_loopw [5,6,7] (fun v f i wr=>∃(out:List (List UInt8)) (g k:Nat),k≤s.length+1∧g≤k∧i=.int .i64 k∧f=.int .i64 g∧wr.ownsRow w.heap.size 9 1 v out.length (a0I out)∧Below w.heap.size w wr∧out.length≤k ∧
   (k≤s.length∧out++a0h x (s.drop g)=a0h x s∧(∀c∈(s.drop g).take (k - g),c≠x)∨k=s.length+1∧out=a0h x s)) (fun _ _ i _=>s.length+1 - (intOf i).toNat)
 case atStart=>exact⟨[],0,0,by omega,by omega,rfl,rfl,hown0,hb0,by simp,.inl ⟨by omega,rfl,by simp⟩⟩
 case round =>
  clear hown0 hb0
  obtain⟨out,g,k,hk,hg,rfl,rfl,hown,hb,hol,hcase⟩:=hrel
  by_cases hlt:k≤s.length
  ·obtain⟨-,hsp,hno⟩:k≤s.length∧out++a0h x (s.drop g)=a0h x s∧(∀c∈(s.drop g).take (k - g),c≠x):=by
    rcases hcase with h | ⟨h,_⟩
    ·exact h
    ·omega
   have hlt':(k:Int)≤(s.length:Int):=by omega
   have hg':(g:Int)≤(k:Int):=by omega
   have hex:=a0y s g k
   have hbs:=hb.size
   have n1:out.length+1≤maxLen:=by unfold maxLen;omega
   have n2:(out.length+1)*16≤140737488355328:=by omega
   by_cases he:k=s.length
   ·have heb:((k:Int)==(s.length:Int))=true:=by rw[he];exact beq_self_eq_true _
    have HF:=Lib.hid (show out++[(s.drop g).take (k - g)]=a0h x s by
     have e:(s.drop g).take (k - g)=s.drop g:=by rw[List.take_of_length_le];rw[List.length_drop];omega
     rw[e] at hno ⊢
     rw[←hsp,c0S x _ hno])
    have HK:=Lib.hid he
    generalize (s.drop g).take (k - g)=p at *
    clear hcase hsp hno he
    have hslp:Sl (wr.alloc (.cells #[.string (bstr p)] 9)) (some ⟨wr.heap.size,0,none⟩) 1 (a0I [p]):=c0O (a0I [p]) rfl 1 rfl
    have howna:=hown.alloc (.cells #[.string (bstr p)] 9)
    have hbe:=hb.alloc hb.size (.cells #[.string (bstr p)] 9)
    go_wp2_with (at_builtin;refine a0k rfl (.tmp 26) (.tmp 31) 59 rfl w.heap.size 9 i0 _ 16 Tryz.underlying59 hi hz0 hz1 hz2 rfl _ out.length (a0I out) rfl howna (some ⟨wr.heap.size,0,none⟩) 1 1 (a0I [p]) rfl rfl hslp (d0x _) n1 n2 hbe.size ?_;intro v3 w3 hown3 hg3;have hb3:=hbe.grown hg3 hbe.size (fun j hj=>(howna.lt j hj).1);rw[←c0y] at hown3)
    go_roundw
    case rel=>exact⟨out++[p],k+1,k+1,by omega,by omega,by go_num,by go_num,by rw[List.length_append];exact hown3,hb3,by rw[List.length_append];simp;omega,.inr ⟨by rw[HK.out],HF.out⟩⟩
    case measure=>simp[intOf];omega
   ·have heb:((k:Int)==(s.length:Int))=false:=by rw[beq_eq_false_iff_ne];omega
    have hlt2:k < s.length:=by omega
    have hix:=a0Q s k hlt2
    by_cases hc:s.getD k 0=x
    ·have e2:a0h x (s.drop g)=(s.drop g).take (k - g) :: a0h x (s.drop (k+1)):=by
      conv=>lhs;rw[i0c s g k hg hlt2,hc]
      exact d0U x _ _ hno
     have HF:=Lib.hid (show (out++[(s.drop g).take (k - g)])++a0h x (s.drop (k+1))=a0h x s by
      rw[←hsp,e2,List.append_assoc];rfl)
     rw[hc] at hix
     generalize (s.drop g).take (k - g)=p at *
     clear hcase hsp hno hc e2
     have hslp:Sl (wr.alloc (.cells #[.string (bstr p)] 9)) (some ⟨wr.heap.size,0,none⟩) 1 (a0I [p]):=c0O (a0I [p]) rfl 1 rfl
     have howna:=hown.alloc (.cells #[.string (bstr p)] 9)
     have hbe:=hb.alloc hb.size (.cells #[.string (bstr p)] 9)
     go_wp2_with (at_builtin;refine a0k rfl (.tmp 26) (.tmp 31) 59 rfl w.heap.size 9 i0 _ 16 Tryz.underlying59 hi hz0 hz1 hz2 rfl _ out.length (a0I out) rfl howna (some ⟨wr.heap.size,0,none⟩) 1 1 (a0I [p]) rfl rfl hslp (d0x _) n1 n2 hbe.size ?_;intro v3 w3 hown3 hg3;have hb3:=hbe.grown hg3 hbe.size (fun j hj=>(howna.lt j hj).1);rw[←c0y] at hown3)
     go_roundw
     case rel=>exact⟨out++[p],k+1,k+1,by omega,by omega,by go_num,by go_num,by rw[List.length_append];exact hown3,hb3,by rw[List.length_append];simp;omega,.inl ⟨by omega,HF.out,by simp⟩⟩
     case measure=>simp[intOf];omega
    ·have HN:=Lib.hid (show ∀c∈(s.drop g).take (k+1 - g),c≠x by
      rw[i0r s g k hg hlt2]
      intro c hcm
      rcases List.mem_append.1 hcm with h | h
      ·exact hno c h
      ·rw[List.mem_singleton.1 h];exact hc)
     have HS:=Lib.hid hsp
     have hxc:(((s.getD k 0).toNat:Int)==(x.toNat:Int))=false:=by
      rw[beq_eq_false_iff_ne]
      intro h
      exact hc (UInt8.toNat_inj.1 (by omega))
     generalize s.getD k 0=y at *
     clear hcase hsp hno hc hex
     go_wp2
     go_roundw
     case rel=>exact⟨out,g,k+1,by omega,by omega,by go_num,rfl,hown,hb,by omega,.inl ⟨by omega,HS.out,HN.out⟩⟩
     case measure=>simp[intOf];omega
  ·obtain rfl:k=s.length+1:=by omega
   obtain rfl:out=a0h x s:=by
    rcases hcase with ⟨h,_⟩ | ⟨_,h⟩
    ·omega
    ·exact h
   have hgt:(s.length:Int) < ((s.length+1:Nat):Int):=by omega
   clear hcase
   go_wp2
   go_ret
   exact⟨_,rfl,hown,hb⟩
end Go.Proofs.YtimdhdimhboboaaGreatDoor
