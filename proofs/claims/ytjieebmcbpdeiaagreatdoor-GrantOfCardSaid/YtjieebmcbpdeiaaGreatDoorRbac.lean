import Derived.Test.YtjieebmcbpdeiaaGreatDoorRbab
import Derived.Test.YtjieebmcbpdeiaaGreatDoorRbaa
import Derived.SliceStrings
import Derived.Laws.Cover1
namespace Go.Proofs.YtjieebmcbpdeiaaGreatDoor
set_option maxRecDepth 100000
open Go Go.RowKit
def magC (b:Nat):Nat:=b%2^63
def negC (b:Nat):Bool:=decide (b/2^63=1)
def nanC (b:Nat):Bool:=decide (2047*2^52 < magC b)
def partsC (b:Nat):Bool×Nat×Int :=
 if nanC b then (false,0,0)
 else if magC b=2047*2^52∨magC b=0 then (negC b,0,0)
 else (negC b,oddC (sigC (magC b)),powC (magC b)+twosC (sigC (magC b)))
def intL (p:Int):List UInt8:=if p < 0 then 45 :: numL 10 p.natAbs else numL 10 p.natAbs
def bodyC (a:Nat):List UInt8 :=
 if a=0 then [48] else if a=2047*2^52 then [105,110,102]
 else numL 10 (oddC (sigC a))++112 :: intL (powC a+twosC (sigC a))
def textC (b:Nat):List UInt8:=if nanC b then [] else (if negC b then [45] else [])++bodyC (magC b)
def parseI (t:List UInt8):Option Int :=
 match t with
 | 45 :: r=>if r=[]∨r=[48] then (valueL 10 4 (45 :: r)).map fun n:Nat=>(n:Int) else (valueL 10 4 r).map fun n:Nat=>-(n:Int)
 | _=>(valueL 10 4 t).map fun n:Nat=>(n:Int)
def cutP:List UInt8→Option (List UInt8×List UInt8)
 | []=>none
 | c :: s=>if c=112 then some ([],s) else (cutP s).map fun x=>(c :: x.1,x.2)
def magP (s:List UInt8):Option Nat :=
 match cutP s with
 | none=>none
 | some x=>match valueL 10 16 x.1,parseI x.2 with
  | some m,some p=>ofC m p
  | _,_=>none
def bodyP (s:List UInt8):Option Nat:=if s=[48] then some 0 else if s=[105,110,102] then some (2047*2^52) else magP s
def parseC (s:List UInt8):Option Nat :=
 match s with
 | 45 :: r=>(bodyP r).map (2^63 + ·)
 | _=>bodyP s
theorem cutP_at (t u:List UInt8) (h:(112:UInt8)∉t):cutP (t++112 :: u)=some (t,u):=by
 induction t with
 | nil=>rfl
 | cons c t ih =>
  rw[List.cons_append,cutP,if_neg (fun e=>h (by rw[e];exact List.mem_cons_self ..)),ih (fun hm=>h (List.mem_cons_of_mem _ hm))]
  rfl
theorem cutP_some (s t u:List UInt8) (h:cutP s=some (t,u)):s=t++112 :: u:=by
 induction s generalizing t u with
 | nil=>cases h
 | cons c s ih =>
  rw[cutP] at h
  split at h
  ·rename_i e
   cases h
   rw[e];rfl
  ·cases hc:cutP s with
   | none=>rw[hc] at h;cases h
   | some x =>
    rw[hc] at h
    cases h
    rw[ih x.1 x.2 hc];rfl
theorem hexD_dec9:∀i:Nat,i < 10→hexD i≠45∧hexD i≠112∧hexD i≠105:=by
 intro i hi
 have:i=0∨i=1∨i=2∨i=3∨i=4∨i=5∨i=6∨i=7∨i=8∨i=9:=by omega
 rcases this with rfl | rfl | rfl | rfl | rfl | rfl | rfl | rfl | rfl | rfl<;>decide
theorem num10_signs (n:Nat):∀c∈numL 10 n,c≠45∧c≠112∧c≠105:=by
 induction n using Nat.strongRecOn with
 | _ n ih =>
  by_cases h:n < 10
  ·rw[numL_small 10 n h]
   intro c hc
   rw[List.mem_singleton.1 hc]
   exact hexD_dec9 n h
  ·rw[numL_great 10 n (by omega) (by omega)]
   intro c hc
   rcases List.mem_append.1 hc with h1 | h1
   ·exact ih (n/10) (Nat.div_lt_self (by omega) (by omega)) c h1
   ·rw[List.mem_singleton.1 h1]
    exact hexD_dec9 _ (Nat.mod_lt _ (by omega))
theorem num10_head (n:Nat):∃c r,numL 10 n=c :: r∧c≠45:=by
 cases h:numL 10 n with
 | nil=>exact absurd h (numL_ne 10 n)
 | cons c r=>exact⟨c,r,rfl,(num10_signs n c (by rw[h];exact List.mem_cons_self ..)).1⟩
theorem parseI_other (c:UInt8) (r:List UInt8) (h:c≠45):parseI (c :: r)=(valueL 10 4 (c :: r)).map fun n:Nat=>(n:Int):=by
 unfold parseI
 split
 ·rename_i e;injection e with e _;exact absurd e h
 ·rfl
theorem parseI_iff (t:List UInt8) (p:Int):parseI t=some p↔intL p=t∧(numL 10 p.natAbs).length≤4:=by
 have vi:=fun s n=>valueL_iff 10 4 (by omega) (by omega) s n
 constructor
 ·intro h
  by_cases hc:∃r,t=45 :: r
  ·obtain⟨r,rfl⟩:=hc
   unfold parseI at h
   by_cases hr:r=[]∨r=[48]
   ·simp only[if_pos hr] at h
    cases hv:valueL 10 4 (45 :: r) with
    | none=>rw[hv] at h;cases h
    | some n =>
     obtain⟨e,-⟩:=(vi _ n).1 hv
     obtain⟨c,q,e2,hc⟩:=num10_head n
     rw[e2] at e
     injection e with e _
     exact absurd e hc
   ·simp only[if_neg hr] at h
    cases hv:valueL 10 4 r with
    | none=>rw[hv] at h;cases h
    | some n =>
     rw[hv] at h
     have h:-(n:Int)=p:=Option.some.inj h
     obtain⟨e,hl⟩:=(vi _ n).1 hv
     have hn:n≠0:=by
      rintro rfl
      exact hr (.inr e.symm)
     have hp:p.natAbs=n:=by omega
     refine⟨?_,by rw[hp,e];exact hl⟩
     unfold intL
     rw[if_pos (by omega),hp,e]
  ·have hp:parseI t=(valueL 10 4 t).map fun n:Nat=>(n:Int):=by
    cases t with
    | nil=>rfl
    | cons c r=>exact parseI_other c r fun e=>hc ⟨r,by rw[e]⟩
   rw[hp] at h
   cases hv:valueL 10 4 t with
   | none=>rw[hv] at h;cases h
   | some n =>
    rw[hv] at h
    have h:(n:Int)=p:=Option.some.inj h
    obtain⟨e,hl⟩:=(vi _ n).1 hv
    have hp:p.natAbs=n:=by omega
    refine⟨?_,by rw[hp,e];exact hl⟩
    unfold intL
    rw[if_neg (by omega),hp,e]
 ·rintro ⟨rfl,hl⟩
  have hv:valueL 10 4 (numL 10 p.natAbs)=some p.natAbs:=(vi _ _).2 ⟨rfl,hl⟩
  unfold intL
  by_cases h0:p < 0
  ·rw[if_pos h0]
   unfold parseI
   have hr:¬(numL 10 p.natAbs=[]∨numL 10 p.natAbs=[48]):=by
    rintro (h | h)
    ·exact numL_ne 10 _ h
    ·have:=numL_inj 10 p.natAbs 0 (by omega) (by omega) (by rw[h];rfl)
     omega
   simp only[if_neg hr,hv,Option.map_some]
   congr 1
   omega
  ·rw[if_neg h0]
   obtain⟨c,q,e2,hc⟩:=num10_head p.natAbs
   rw[e2] at hv ⊢
   rw[parseI_other c q hc,hv]
   show some ((p.natAbs:Nat):Int)=some p
   congr 1
   omega
theorem magP_iff (s:List UInt8) (a:Nat):magP s=some a↔FinC a∧s=numL 10 (oddC (sigC a))++112 :: intL (powC a+twosC (sigC a)):=by
 have vi:=fun s n=>valueL_iff 10 16 (by omega) (by omega) s n
 constructor
 ·intro h
  unfold magP at h
  cases hc:cutP s with
  | none=>rw[hc] at h;cases h
  | some x =>
   obtain⟨x1,x2⟩:=x
   rw[hc] at h
   simp only at h
   cases hv:valueL 10 16 x1 with
   | none=>rw[hv] at h;cases h
   | some m =>
    cases hp:parseI x2 with
    | none=>rw[hv,hp] at h;cases h
    | some p =>
     rw[hv,hp] at h
     obtain⟨f1,f2,f3⟩:=(ofC_iff m p a).1 h
     refine⟨f1,?_⟩
     rw[f2,f3,((vi _ _).1 hv).1,((parseI_iff _ _).1 hp).1]
     exact cutP_some _ _ _ hc
 ·rintro ⟨hf,rfl⟩
  obtain⟨g1,-⟩:=fit_of a hf
  obtain⟨o1,o2⟩:=odd_twos (sigC a) (by have:=sig_pos a hf;omega)
  have hle:oddC (sigC a)≤oddC (sigC a)*2^twosC (sigC a):=Nat.le_mul_of_pos_right _ (Nat.pow_pos (by omega))
  have hge:2^twosC (sigC a)≤oddC (sigC a)*2^twosC (sigC a):=Nat.le_mul_of_pos_left _ (by omega)
  rw[←o2] at hle hge
  have hsl:sigC a < 2^53:=by
   rcases g1 with ⟨_,h,_⟩ | ⟨_,h,_,_⟩<;>omega
  have hpow:-1074≤powC a∧powC a≤971:=by
   rcases g1 with ⟨_,_,h⟩ | ⟨_,_,h,h'⟩<;>omega
  have ht:twosC (sigC a)≤52:=by
   by_cases hlt:twosC (sigC a)≤52
   ·exact hlt
   ·exfalso
    have:2^53≤2^twosC (sigC a):=Nat.pow_le_pow_right (by omega) (by omega)
    omega
  unfold magP
  rw[cutP_at _ _ (fun h=>(num10_signs _ _ h).2.1 rfl)]
  simp only
  have hv:=(vi (numL 10 (oddC (sigC a))) _).2 ⟨rfl,numL_len 10 (by omega) 15 _ (by omega)⟩
  have hp:=(parseI_iff (intL (powC a+twosC (sigC a))) _).2 ⟨rfl,numL_len 10 (by omega) 3 _ (by omega)⟩
  rw[hv,hp]
  exact (ofC_iff _ _ a).2 ⟨hf,rfl,rfl⟩
theorem bodyP_iff (s:List UInt8) (a:Nat):bodyP s=some a↔a≤2047*2^52∧bodyC a=s:=by
 unfold bodyP
 constructor
 ·intro h
  split at h
  ·rename_i e;cases h;exact⟨by omega,e.symm⟩
  ·split at h
   ·rename_i e;cases h;exact⟨by omega,e.symm⟩
   ·obtain⟨⟨f1,f2⟩,f3⟩:=(magP_iff s a).1 h
    refine⟨by omega,?_⟩
    unfold bodyC
    rw[if_neg (by omega),if_neg (by omega),f3]
 ·rintro ⟨hle,rfl⟩
  unfold bodyC
  by_cases h0:a=0
  ·rw[if_pos h0,if_pos rfl,h0]
  ·rw[if_neg h0]
   by_cases hi:a=2047*2^52
   ·rw[if_pos hi,if_neg (by decide),if_pos rfl,hi]
   ·rw[if_neg hi]
    have hmem:(112:UInt8)∈numL 10 (oddC (sigC a))++112 :: intL (powC a+twosC (sigC a)):=by simp
    rw[if_neg (by intro e;rw[e] at hmem;exact absurd hmem (by decide)),if_neg (by intro e;rw[e] at hmem;exact absurd hmem (by decide))]
    exact (magP_iff _ a).2 ⟨⟨by omega,by omega⟩,rfl⟩
theorem body_head (a:Nat):∃c r,bodyC a=c :: r∧c≠45:=by
 unfold bodyC
 split
 ·exact⟨48,[],rfl,by decide⟩
 ·split
  ·exact⟨105,[110,102],rfl,by decide⟩
  ·obtain⟨c,r,e,hc⟩:=num10_head (oddC (sigC a))
   exact⟨c,r++_,by rw[e];rfl,hc⟩
theorem parseC_other (c:UInt8) (r:List UInt8) (h:c≠45):parseC (c :: r)=bodyP (c :: r):=by
 unfold parseC
 split
 ·rename_i e;injection e with e _;exact absurd e h
 ·rfl
theorem parseC_iff (s:List UInt8) (b:Nat):parseC s=some b↔b < 2^64∧nanC b=false∧textC b=s:=by
 constructor
 ·intro h
  by_cases hc:∃r,s=45 :: r
  ·obtain⟨r,rfl⟩:=hc
   unfold parseC at h
   simp only at h
   cases hb:bodyP r with
   | none=>rw[hb] at h;cases h
   | some a =>
    rw[hb] at h
    have h:2^63+a=b:=Option.some.inj h
    obtain⟨h1,h2⟩:=(bodyP_iff r a).1 hb
    have hm:magC b=a:=by unfold magC;omega
    have hn:nanC b=false:=by unfold nanC;rw[hm];exact decide_eq_false (by omega)
    have hg:negC b=true:=by unfold negC;exact decide_eq_true (by omega)
    refine⟨by omega,hn,?_⟩
    unfold textC
    rw[hn,hg,hm,h2];rfl
  ·have hp:bodyP s=some b:=by
    cases s with
    | nil=>exact h
    | cons c r=>rw[←parseC_other c r (fun e=>hc ⟨r,by rw[e]⟩)];exact h
   obtain⟨h1,h2⟩:=(bodyP_iff s b).1 hp
   have hm:magC b=b:=by unfold magC;omega
   have hn:nanC b=false:=by unfold nanC;rw[hm];exact decide_eq_false (by omega)
   have hg:negC b=false:=by unfold negC;exact decide_eq_false (by omega)
   refine⟨by omega,hn,?_⟩
   unfold textC
   rw[hn,hg,hm,h2];rfl
 ·rintro ⟨h1,hn,rfl⟩
  have hle:magC b≤2047*2^52:=by
   unfold nanC at hn
   have:=of_decide_eq_false hn
   omega
  have hb:=(bodyP_iff (bodyC (magC b)) (magC b)).2 ⟨hle,rfl⟩
  unfold textC
  rw[hn]
  cases hg:negC b with
  | true =>
   have:b/2^63=1:=of_decide_eq_true hg
   show (bodyP (bodyC (magC b))).map (2^63 + ·)=some b
   rw[hb]
   show some (2^63+magC b)=some b
   congr 1
   unfold magC
   omega
  | false =>
   have:¬b/2^63=1:=of_decide_eq_false hg
   show parseC (bodyC (magC b))=some b
   obtain⟨c,r,e,hc⟩:=body_head (magC b)
   rw[e] at hb ⊢
   rw[parseC_other c r hc,hb]
   congr 1
   unfold magC
   omega
def signB (c:UInt8):Bool:=decide (97≤c∧c≤122)||decide (65≤c∧c≤90)||decide (48≤c∧c≤57)||c==46||c==95||c==45
def nameL (s:List UInt8):Bool:=decide (1≤s.length)&&decide (s.length≤64)&&decide (s≠[46])&&decide (s≠[46,46])&&s.all signB
def rightL:List UInt8→Bool
 | 47 :: r=>decide (r=[])||(decide (r.length+1≤256)&&(splitL 47 r).all nameL)
 | _=>false
def namesL:List UInt8→List (List UInt8)
 | 47 :: r=>if rightL (47 :: r)=true∧r≠[] then splitL 47 r else []
 | _=>[]
def underL (top p:List UInt8):Bool:=rightL top&&rightL p&&(decide (top=[47])||decide (p=top)||(decide (top.length < p.length)&&decide (p.take top.length=top)&&decide (p.getD top.length 0=47)))
def goN:List (List UInt8)→List (List UInt8)→Option (List (List UInt8))
 | l,[]=>some l
 | l,w :: ws =>
  if w=[]∨w=[46] then goN l ws
  else if w=[46,46] then (if l=[] then none else goN l.dropLast ws)
  else if nameL w then goN (l++[w]) ws else none
def joinP (l:List (List UInt8)):List UInt8:=if l=[] then [47] else l.flatMap fun w=>47 :: w
def normL:List UInt8→Option (List UInt8)
 | 47 :: r=>match goN [] (splitL 47 r) with
  | none=>none
  | some l=>if (joinP l).length≤256 then some (joinP l) else none
 | _=>none
theorem signB_47:signB 47=false:=by decide
theorem name_47 (s:List UInt8) (h:nameL s=true):∀c∈s,c≠47:=by
 unfold nameL at h
 rw[Bool.and_eq_true,List.all_eq_true] at h
 intro c hc e
 have:=h.2 c hc
 rw[e,signB_47] at this;cases this
theorem name_ne (s:List UInt8) (h:nameL s=true):s≠[]∧s≠[46]∧s≠[46,46]:=by
 unfold nameL at h
 simp only[Bool.and_eq_true,decide_eq_true_iff] at h
 obtain⟨⟨⟨⟨h1,h2⟩,h3⟩,h4⟩,h5⟩:=h
 refine⟨?_,h3,h4⟩
 rintro rfl
 simp at h1
theorem rightL_ne (p:List UInt8) (h:rightL p=true):p≠[]:=by
 rintro rfl;cases h
theorem underL_self (p:List UInt8):underL p p=rightL p:=by
 unfold underL
 cases h:rightL p with
 | false=>rfl
 | true=>simp
theorem right_head (p:List UInt8) (h:rightL p=true):∃r,p=47 :: r:=by
 match p,h with
 | [],h=>cases h
 | c :: r,h =>
  by_cases hc:c=47
  ·exact⟨r,by rw[hc]⟩
  ·unfold rightL at h
   split at h
   ·rename_i e;injection e with e1 e2;exact absurd e1 hc
   ·cases h
theorem goN_names:∀(ws l x:List (List UInt8)),(∀w∈l,nameL w=true)→goN l ws=some x→∀w∈x,nameL w=true:=by
 intro ws
 induction ws with
 | nil=>intro l x hl h;cases h;exact hl
 | cons w ws ih =>
  intro l x hl h
  rw[goN] at h
  split at h
  ·exact ih l x hl h
  ·split at h
   ·split at h
    ·cases h
    ·exact ih l.dropLast x (fun v hv=>hl v (List.dropLast_subset l hv)) h
   ·split at h
    ·rename_i hw
     refine ih (l++[w]) x (fun v hv=>?_) h
     rcases List.mem_append.1 hv with hv | hv
     ·exact hl v hv
     ·rw[List.mem_singleton.1 hv];exact hw
    ·cases h
theorem goN_self:∀(ws l:List (List UInt8)),(∀w∈ws,nameL w=true)→goN l ws=some (l++ws):=by
 intro ws
 induction ws with
 | nil=>intro l _;rw[goN,List.append_nil]
 | cons w ws ih =>
  intro l hw
  have h1:=hw w (List.mem_cons_self ..)
  obtain⟨n1,n2,n3⟩:=name_ne w h1
  rw[goN,if_neg (by rintro (h | h);exact n1 h;exact n2 h),if_neg n3,if_pos h1,ih (l++[w]) (fun v hv=>hw v (List.mem_cons_of_mem _ hv)),List.append_assoc]
  rfl
theorem flat_glue (l:List (List UInt8)) (h:l≠[]):(l.flatMap fun w=>47 :: w)=47 :: glueL 47 l:=by
 induction l with
 | nil=>exact absurd rfl h
 | cons w ws ih =>
  rw[List.flatMap_cons]
  by_cases he:ws=[]
  ·subst he;simp[glueL]
  ·rw[ih he,glueL_cons 47 w ws he];rfl
theorem joinP_split (l:List (List UInt8)) (h:l≠[]) (hn:∀w∈l,nameL w=true):joinP l=47 :: glueL 47 l∧splitL 47 (glueL 47 l)=l:=by
 refine⟨by unfold joinP;rw[if_neg h];exact flat_glue l h,?_⟩
 exact splitL_glue 47 l h fun p hp c hc=>name_47 p (hn p hp) c hc
theorem normL_right (p x:List UInt8) (h:normL p=some x):rightL x=true∧normL x=some x:=by
 unfold normL at h
 split at h
 ·rename_i r
  split at h
  ·cases h
  ·rename_i l hl
   split at h
   ·rename_i hlen
    cases h
    have hn:=goN_names _ [] l (fun w hw=>by cases hw) hl
    by_cases he:l=[]
    ·subst he
     exact⟨rfl,rfl⟩
    ·obtain⟨e1,e2⟩:=joinP_split l he hn
     rw[e1] at hlen ⊢
     rw[List.length_cons] at hlen
     constructor
     ·show (decide (glueL 47 l=[])||(decide ((glueL 47 l).length+1≤256)&&(splitL 47 (glueL 47 l)).all nameL))=true
      rw[e2,decide_eq_true hlen,Bool.true_and,Bool.or_eq_true]
      exact .inr (List.all_eq_true.2 hn)
     ·show (match goN [] (splitL 47 (glueL 47 l)) with
       | none=>none
       | some l=>if (joinP l).length≤256 then some (joinP l) else none)=_
      rw[e2,goN_self l [] hn,List.nil_append]
      show (if (joinP l).length≤256 then some (joinP l) else none)=_
      rw[if_pos (by rw[e1,List.length_cons];exact hlen),e1]
   ·cases h
 ·cases h
def inkB (c:UInt8):Bool:=decide (32≤c.toNat)&&decide (c.toNat≤126)
def wordsL (s:List UInt8):Option (List (List UInt8)) :=
 if s=[] then some [] else if s.length≤512∧s.all inkB=true∧(splitL 32 s).all (fun p=>decide (p≠[]))=true then some (splitL 32 s) else none
def lowB (c:UInt8):Bool:=decide (97≤c.toNat)&&decide (c.toNat≤122)
def name16 (s:List UInt8):Bool:=decide (1≤s.length)&&decide (s.length≤16)&&s.all lowB
def okAt (l:List (List UInt8)) (i:Nat):Bool:=name16 (l.getD i [])&&(decide (i=0)||Op.bytesLess (l.getD (i - 1) []) (l.getD i []))
def riseL (l:List (List UInt8)):Bool:=decide (1≤l.length)&&decide (l.length≤32)&&(List.range l.length).all (okAt l)
def namesC (s:List UInt8):Option (List (List UInt8)):=if riseL (splitL 44 s)=true then some (splitL 44 s) else none
def joinL16 (l:List (List UInt8)):List UInt8:=if riseL l=true then glueL 44 l else []
def numberL (s:List UInt8):Option Nat:=match valueL 10 20 s with
 | none=>none
 | some n=>if n < 2^64 then some n else none
theorem riseL_at (l:List (List UInt8)):riseL l=true↔1≤l.length∧l.length≤32∧∀i < l.length,okAt l i=true:=by
 unfold riseL
 rw[Bool.and_eq_true,Bool.and_eq_true,decide_eq_true_iff,decide_eq_true_iff,List.all_eq_true]
 constructor
 ·rintro ⟨⟨h1,h2⟩,h3⟩
  exact⟨h1,h2,fun i hi=>h3 i (List.mem_range.2 hi)⟩
 ·rintro ⟨h1,h2,h3⟩
  exact⟨⟨h1,h2⟩,fun i hi=>h3 i (List.mem_range.1 hi)⟩
theorem riseL_bad (l:List (List UInt8)) (i:Nat) (hi:i < l.length) (h:okAt l i=false):riseL l=false:=by
 cases hr:riseL l with
 | false=>rfl
 | true=>have:=((riseL_at l).1 hr).2.2 i hi;rw[h] at this;cases this
theorem riseL_names (l:List (List UInt8)) (h:riseL l=true):∀p∈l,name16 p=true:=by
 intro p hp
 obtain⟨i,hi,rfl⟩:=List.mem_iff_getElem.1 hp
 have:=((riseL_at l).1 h).2.2 i hi
 unfold okAt at this
 rw[Bool.and_eq_true] at this
 rw[←this.1,List.getD_eq_getElem?_getD,List.getElem?_eq_getElem hi];rfl
theorem name16_44 (p:List UInt8) (h:name16 p=true):p≠[]∧∀c∈p,c≠44:=by
 unfold name16 at h
 rw[Bool.and_eq_true,Bool.and_eq_true,decide_eq_true_iff,List.all_eq_true] at h
 refine⟨?_,?_⟩
 ·rintro rfl;have:=h.1.1;simp at this
 ·rintro c hc rfl
  have:=h.2 44 hc
  revert this;decide
theorem names_join (l:List (List UInt8)):namesC (joinL16 l)=if riseL l=true then some l else none:=by
 unfold namesC joinL16
 by_cases h:riseL l=true
 ·rw[if_pos h,if_pos h]
  have hne:l≠[]:=by rintro rfl;simp[riseL] at h
  rw[splitL_glue 44 l hne (fun p hp=>(name16_44 p (riseL_names l h p hp)).2),if_pos h]
 ·rw[if_neg h,if_neg h]
  have:riseL (splitL 44 [])=false:=by decide
  rw[this];rfl
theorem join_off (l:List (List UInt8)) (h:riseL l=false):joinL16 l=[]:=by
 unfold joinL16
 rw[h];rfl
theorem words_some (s:List UInt8) (x:List (List UInt8)) (h:wordsL s=some x):s=[]∧x=[]∨s≠[]∧s.length≤512∧s.all inkB=true∧(splitL 32 s).all (fun p=>decide (p≠[]))=true∧x=splitL 32 s:=by
 unfold wordsL at h
 split at h
 ·rename_i e;cases h;exact .inl ⟨e,rfl⟩
 ·rename_i e
  split at h
  ·rename_i k;cases h;exact .inr ⟨e,k.1,k.2.1,k.2.2,rfl⟩
  ·cases h
theorem numL_len20 (n:Nat) (h:n < 2^64):(numL 10 n).length≤20:=by
 have key:∀k n:Nat,n < 10^(k+1)→(numL 10 n).length≤k+1:=by
  intro k
  induction k with
  | zero=>intro n h;rw[numL_small 10 n (by omega)];simp
  | succ k ih =>
   intro n h
   by_cases hs:n < 10
   ·rw[numL_small 10 n hs];simp
   ·rw[numL_great 10 n (by omega) (by omega),List.length_append]
    have:=ih (n/10) (by rw[Nat.pow_succ] at h;omega)
    simp;omega
 exact key 19 n (Nat.lt_trans h (by decide))
theorem number_num (n:Nat) (h:n < 2^64):numberL (numL 10 n)=some n:=by
 unfold numberL
 rw[(valueL_iff 10 20 (by omega) (by omega) (numL 10 n) n).2 ⟨rfl,numL_len20 n h⟩]
 show (if n < 2^64 then some n else none)=_
 rw[if_pos h]
structure Prd where
 kind:Int
 time:Nat
 names:List (List UInt8)
 path:List UInt8
 net:Rng
 cost:Nat
structure Prd.Ok (p:Prd):Prop where
 net:p.net.Ok
 time:p.time < 2^64
 cost:p.cost < 2^64
def sameR (a b:Rng):Bool:=(a.a.v6==b.a.v6&&decide (a.a.b=b.a.b))&&a.n==b.n
theorem sameR_iff (a b:Rng):sameR a b=true↔a=b:=by
 unfold sameR
 obtain⟨⟨v,l⟩,n⟩:=a
 obtain⟨⟨v',l'⟩,n'⟩:=b
 simp[and_assoc]
def zeroP:Prd:=⟨0,0,[],[],zeroR,0⟩
def onlyP (p:Prd):Bool:=(decide (p.kind=1)||decide (p.kind=2)||decide (p.time=0))&&(decide (p.kind=3)||decide (p.names=[]))&&(decide (p.kind=4)||decide (p.path=[]))&&(decide (p.kind=5)||sameR p.net zeroR)&&(decide (p.kind=6)||decide (p.cost=0))
def wordsP (p:Prd):List UInt8×List UInt8 :=
 if p.kind=1 then ([98,101,102,111,114,101],numL 10 p.time)
 else if p.kind=2 then ([115,105,110,99,101],numL 10 p.time)
 else if p.kind=3 then ([111,112],joinL16 p.names)
 else if p.kind=4∧rightL p.path=true then ([112,97,116,104],p.path)
 else if p.kind=5 then ([110,101,116],textR p.net)
 else if p.kind=6 then ([99,111,115,116],textC p.cost)
 else ([],[])
def textP (p:Prd):List UInt8 :=
 if (wordsP p).2=[]∨onlyP p=false∨511 < (wordsP p).1.length+(wordsP p).2.length then [] else (wordsP p).1++32 :: (wordsP p).2
def blankL:List UInt8→Option Nat
 | []=>none
 | c :: s=>if c=32 then some 0 else (blankL s).map (· + 1)
theorem blankL_front (t u:List UInt8) (h:∀c∈t,c≠32):blankL (t++32 :: u)=some t.length:=by
 induction t with
 | nil=>rfl
 | cons c t ih =>
  rw[List.cons_append,blankL,if_neg (h c (List.mem_cons_self ..)),ih (fun d hd=>h d (List.mem_cons_of_mem _ hd))];rfl
def candsP (b:List UInt8):List Prd :=
 [⟨1,(numberL b).getD 0,[],[],zeroR,0⟩,⟨2,(numberL b).getD 0,[],[],zeroR,0⟩,⟨3,0,(namesC b).getD [],[],zeroR,0⟩,⟨4,0,[],b,zeroR,0⟩,⟨5,0,[],[],(parseR b).getD zeroR,0⟩,⟨6,0,[],[],zeroR,(parseC b).getD 0⟩]
def parseP (s:List UInt8):Option Prd :=
 if 512 < s.length then none else match blankL s with
  | none=>none
  | some k=>(candsP (s.drop (k+1))).find? fun p=>decide (textP p=s)
theorem textP_ne (p:Prd) (h:textP p≠[]):(wordsP p).2≠[]∧onlyP p=true∧(wordsP p).1.length+(wordsP p).2.length≤511∧textP p=(wordsP p).1++32 :: (wordsP p).2:=by
 unfold textP at h ⊢
 by_cases hc:(wordsP p).2=[]∨onlyP p=false∨511 < (wordsP p).1.length+(wordsP p).2.length
 ·rw[if_pos hc] at h;exact absurd rfl h
 ·rw[if_neg hc]
  refine⟨fun e=>hc (.inl e),?_,?_,rfl⟩
  ·cases ho:onlyP p with
   | true=>rfl
   | false=>exact absurd (.inr (.inl ho)) hc
  ·rcases Nat.lt_or_ge 511 ((wordsP p).1.length+(wordsP p).2.length) with h1 | h1
   ·exact absurd (.inr (.inr h1)) hc
   ·exact h1
theorem wordsP_ways (p:Prd) (h:(wordsP p).2≠[]) :
  p.kind=1∧wordsP p=([98,101,102,111,114,101],numL 10 p.time)∨p.kind=2∧wordsP p=([115,105,110,99,101],numL 10 p.time)∨p.kind=3∧wordsP p=([111,112],joinL16 p.names) ∨
  p.kind=4∧wordsP p=([112,97,116,104],p.path)∨p.kind=5∧wordsP p=([110,101,116],textR p.net)∨p.kind=6∧wordsP p=([99,111,115,116],textC p.cost):=by
 unfold wordsP at h ⊢
 by_cases h1:p.kind=1
 ·rw[if_pos h1];exact .inl ⟨h1,rfl⟩
 rw[if_neg h1] at h ⊢
 by_cases h2:p.kind=2
 ·rw[if_pos h2];exact .inr (.inl ⟨h2,rfl⟩)
 rw[if_neg h2] at h ⊢
 by_cases h3:p.kind=3
 ·rw[if_pos h3];exact .inr (.inr (.inl ⟨h3,rfl⟩))
 rw[if_neg h3] at h ⊢
 by_cases h4:p.kind=4∧rightL p.path=true
 ·rw[if_pos h4];exact .inr (.inr (.inr (.inl ⟨h4.1,rfl⟩)))
 rw[if_neg h4] at h ⊢
 by_cases h5:p.kind=5
 ·rw[if_pos h5];exact .inr (.inr (.inr (.inr (.inl ⟨h5,rfl⟩))))
 rw[if_neg h5] at h ⊢
 by_cases h6:p.kind=6
 ·rw[if_pos h6];exact .inr (.inr (.inr (.inr (.inr ⟨h6,rfl⟩))))
 rw[if_neg h6] at h
 exact absurd rfl h
theorem wordsP_32 (p:Prd) (h:(wordsP p).2≠[]):∀c∈(wordsP p).1,c≠32:=by
 rcases wordsP_ways p h with ⟨-,e⟩ | ⟨-,e⟩ | ⟨-,e⟩ | ⟨-,e⟩ | ⟨-,e⟩ | ⟨-,e⟩<;>rw[e]<;>dsimp only<;>decide
theorem only_parts (p:Prd) (h:onlyP p=true):(p.kind=1∨p.kind=2∨p.time=0)∧(p.kind=3∨p.names=[])∧(p.kind=4∨p.path=[])∧(p.kind=5∨p.net=zeroR)∧(p.kind=6∨p.cost=0):=by
 unfold onlyP at h
 simp only[Bool.and_eq_true,Bool.or_eq_true,decide_eq_true_iff,sameR_iff] at h
 obtain⟨⟨⟨⟨h1,h2⟩,h3⟩,h4⟩,h5⟩:=h
 exact⟨by rcases h1 with (h | h) | h;exact .inl h;exact .inr (.inl h);exact .inr (.inr h),h2,h3,h4,h5⟩
theorem namesC_join (l:List (List UInt8)) (h:joinL16 l≠[]):namesC (joinL16 l)=some l:=by
 rw[names_join]
 cases hr:riseL l with
 | true=>rfl
 | false=>exact absurd (join_off l hr) h
theorem parseR_text (r:Rng) (ho:r.Ok) (h:textR r≠[]):parseR (textR r)=some r:=(parseR_iff _ r).2 ⟨ho.a,(textR_ne r h).1,rfl⟩
theorem parseC_text (b:Nat) (hb:b < 2^64) (h:textC b≠[]):parseC (textC b)=some b:=by
 refine (parseC_iff _ b).2 ⟨hb,?_,rfl⟩
 cases hn:nanC b with
 | false=>rfl
 | true=>exact absurd (by unfold textC;rw[hn];rfl) h
theorem cands_self (p:Prd) (ho:p.Ok) (h:textP p≠[]):p∈candsP (wordsP p).2:=by
 obtain⟨h2,honly,-,-⟩:=textP_ne p h
 obtain⟨o1,o2,o3,o4,o5⟩:=only_parts p honly
 obtain⟨k,t,ns,pa,r,c⟩:=p
 unfold candsP
 simp only at o1 o2 o3 o4 o5
 rcases wordsP_ways _ h2 with ⟨e,hw⟩ | ⟨e,hw⟩ | ⟨e,hw⟩ | ⟨e,hw⟩ | ⟨e,hw⟩ | ⟨e,hw⟩<;>simp only at e<;>subst e<;>rw[hw] at h2 ⊢<;>simp only at h2 ⊢
 ·obtain rfl:ns=[]:=o2.resolve_left (by decide)
  obtain rfl:pa=[]:=o3.resolve_left (by decide)
  obtain rfl:r=zeroR:=o4.resolve_left (by decide)
  obtain rfl:c=0:=o5.resolve_left (by decide)
  rw[number_num t ho.time]
  simp
 ·obtain rfl:ns=[]:=o2.resolve_left (by decide)
  obtain rfl:pa=[]:=o3.resolve_left (by decide)
  obtain rfl:r=zeroR:=o4.resolve_left (by decide)
  obtain rfl:c=0:=o5.resolve_left (by decide)
  rw[number_num t ho.time]
  simp
 ·obtain rfl:t=0:=(o1.resolve_left (by decide)).resolve_left (by decide)
  obtain rfl:pa=[]:=o3.resolve_left (by decide)
  obtain rfl:r=zeroR:=o4.resolve_left (by decide)
  obtain rfl:c=0:=o5.resolve_left (by decide)
  rw[namesC_join ns h2]
  simp
 ·obtain rfl:t=0:=(o1.resolve_left (by decide)).resolve_left (by decide)
  obtain rfl:ns=[]:=o2.resolve_left (by decide)
  obtain rfl:r=zeroR:=o4.resolve_left (by decide)
  obtain rfl:c=0:=o5.resolve_left (by decide)
  simp
 ·obtain rfl:t=0:=(o1.resolve_left (by decide)).resolve_left (by decide)
  obtain rfl:ns=[]:=o2.resolve_left (by decide)
  obtain rfl:pa=[]:=o3.resolve_left (by decide)
  obtain rfl:c=0:=o5.resolve_left (by decide)
  rw[parseR_text r ho.net h2]
  simp
 ·obtain rfl:t=0:=(o1.resolve_left (by decide)).resolve_left (by decide)
  obtain rfl:ns=[]:=o2.resolve_left (by decide)
  obtain rfl:pa=[]:=o3.resolve_left (by decide)
  obtain rfl:r=zeroR:=o4.resolve_left (by decide)
  rw[parseC_text c ho.cost h2]
  simp
theorem front_inj (a b c d:List UInt8) (ha:∀x∈a,x≠32) (hc:∀x∈c,x≠32) (h:a++32 :: b=c++32 :: d):a=c∧b=d:=by
 have e:a.length=c.length:=by
  have h1:=blankL_front a b ha
  rw[h,blankL_front c d hc] at h1
  exact (Option.some.inj h1).symm
 obtain⟨h1,h2⟩:=List.append_inj h e
 exact⟨h1,(List.cons.inj h2).2⟩
theorem word_kind (p q:Prd) (hp:(wordsP p).2≠[]) (hq:(wordsP q).2≠[]) (h:(wordsP p).1=(wordsP q).1):p.kind=q.kind:=by
 rcases wordsP_ways p hp with ⟨e,hw⟩ | ⟨e,hw⟩ | ⟨e,hw⟩ | ⟨e,hw⟩ | ⟨e,hw⟩ | ⟨e,hw⟩ <;>
  rcases wordsP_ways q hq with ⟨f,hv⟩ | ⟨f,hv⟩ | ⟨f,hv⟩ | ⟨f,hv⟩ | ⟨f,hv⟩ | ⟨f,hv⟩<;>rw[hw,hv] at h<;>first | (rw[e,f];done) | (exact absurd h (by simp))
theorem wordsP_at (p q:Prd) (hk:p.kind=q.kind) (hp:(wordsP p).2≠[]) (hq:(wordsP q).2≠[]) (h:(wordsP p).2=(wordsP q).2) :
  p.kind=1∧numL 10 p.time=numL 10 q.time∨p.kind=2∧numL 10 p.time=numL 10 q.time∨p.kind=3∧joinL16 p.names=joinL16 q.names∧joinL16 p.names≠[]∨p.kind=4∧p.path=q.path∨p.kind=5∧textR p.net=textR q.net∧textR p.net≠[]∨p.kind=6∧textC p.cost=textC q.cost∧textC p.cost≠[]:=by
 rcases wordsP_ways p hp with ⟨e,hw⟩ | ⟨e,hw⟩ | ⟨e,hw⟩ | ⟨e,hw⟩ | ⟨e,hw⟩ | ⟨e,hw⟩ <;>
  rcases wordsP_ways q hq with ⟨f,hv⟩ | ⟨f,hv⟩ | ⟨f,hv⟩ | ⟨f,hv⟩ | ⟨f,hv⟩ | ⟨f,hv⟩ <;>
  first
   | (exfalso;rw[e,f] at hk;exact absurd hk (by decide))
   | (rw [hw] at hp h; rw [hv] at h; simp only at hp h
      first
       | exact .inl ⟨e,h⟩
       | exact .inr (.inl ⟨e,h⟩)
       | exact .inr (.inr (.inl ⟨e,h,hp⟩))
       | exact .inr (.inr (.inr (.inl ⟨e,h⟩)))
       | exact .inr (.inr (.inr (.inr (.inl ⟨e,h,hp⟩))))
       | exact .inr (.inr (.inr (.inr (.inr ⟨e,h,hp⟩)))))
theorem textP_inj (p q:Prd) (hp:p.Ok) (hq:q.Ok) (h:textP p=textP q) (hne:textP p≠[]):p=q:=by
 obtain⟨p2,po,-,pe⟩:=textP_ne p hne
 obtain⟨q2,qo,-,qe⟩:=textP_ne q (by rw[←h];exact hne)
 rw[pe,qe] at h
 obtain⟨h1,h2⟩:=front_inj _ _ _ _ (wordsP_32 p p2) (wordsP_32 q q2) h
 have hk:=word_kind p q p2 q2 h1
 obtain⟨o1,o2,o3,o4,o5⟩:=only_parts p po
 obtain⟨u1,u2,u3,u4,u5⟩:=only_parts q qo
 have hw:=wordsP_at p q hk p2 q2 h2
 have key:p.time=q.time∧p.names=q.names∧p.path=q.path∧p.net=q.net∧p.cost=q.cost:=by
  rcases hw with ⟨e,hh⟩ | ⟨e,hh⟩ | ⟨e,hh,hn⟩ | ⟨e,hh⟩ | ⟨e,hh,hn⟩ | ⟨e,hh,hn⟩<;>rw[←hk] at u1 u2 u3 u4 u5<;>rw[e] at o1 o2 o3 o4 o5 u1 u2 u3 u4 u5
  ·exact⟨numL_inj 10 _ _ (by omega) (by omega) hh,by rw[o2.resolve_left (by decide),u2.resolve_left (by decide)],by rw[o3.resolve_left (by decide),u3.resolve_left (by decide)],by rw[o4.resolve_left (by decide),u4.resolve_left (by decide)],by rw[o5.resolve_left (by decide),u5.resolve_left (by decide)]⟩
  ·exact⟨numL_inj 10 _ _ (by omega) (by omega) hh,by rw[o2.resolve_left (by decide),u2.resolve_left (by decide)],by rw[o3.resolve_left (by decide),u3.resolve_left (by decide)],by rw[o4.resolve_left (by decide),u4.resolve_left (by decide)],by rw[o5.resolve_left (by decide),u5.resolve_left (by decide)]⟩
  all_goals have ht:p.time=q.time:=by rw[(o1.resolve_left (by decide)).resolve_left (by decide),(u1.resolve_left (by decide)).resolve_left (by decide)]
  ·refine⟨ht,?_,by rw[o3.resolve_left (by decide),u3.resolve_left (by decide)],by rw[o4.resolve_left (by decide),u4.resolve_left (by decide)],by rw[o5.resolve_left (by decide),u5.resolve_left (by decide)]⟩
   have k1:=namesC_join p.names hn
   rw[hh,namesC_join q.names (by rw[←hh];exact hn)] at k1
   exact (Option.some.inj k1).symm
  ·exact⟨ht,by rw[o2.resolve_left (by decide),u2.resolve_left (by decide)],hh,by rw[o4.resolve_left (by decide),u4.resolve_left (by decide)],by rw[o5.resolve_left (by decide),u5.resolve_left (by decide)]⟩
  ·refine⟨ht,by rw[o2.resolve_left (by decide),u2.resolve_left (by decide)],by rw[o3.resolve_left (by decide),u3.resolve_left (by decide)],?_,by rw[o5.resolve_left (by decide),u5.resolve_left (by decide)]⟩
   have k1:=parseR_text p.net hp.net hn
   rw[hh,parseR_text q.net hq.net (by rw[←hh];exact hn)] at k1
   exact (Option.some.inj k1).symm
  ·refine⟨ht,by rw[o2.resolve_left (by decide),u2.resolve_left (by decide)],by rw[o3.resolve_left (by decide),u3.resolve_left (by decide)],by rw[o4.resolve_left (by decide),u4.resolve_left (by decide)],?_⟩
   have k1:=parseC_text p.cost hp.cost hn
   rw[hh,parseC_text q.cost hq.cost (by rw[←hh];exact hn)] at k1
   exact (Option.some.inj k1).symm
 obtain⟨k,t,ns,pa,r,c⟩:=p
 obtain⟨k',t',ns',pa',r',c'⟩:=q
 simp only at hk key
 obtain⟨rfl,rfl,rfl,rfl,rfl⟩:=key
 subst hk
 rfl
theorem zeroP_ok:zeroP.Ok:=⟨zeroR_ok,by decide,by decide⟩
theorem numberL_lt (s:List UInt8):(numberL s).getD 0 < 2^64:=by
 unfold numberL
 split
 ·decide
 ·split
  ·assumption
  ·decide
theorem cands_ok (b:List UInt8):∀p∈candsP b,p.Ok:=by
 have hr:((parseR b).getD zeroR).Ok:=by
  cases h:parseR b with
  | none=>exact zeroR_ok
  | some r =>
   obtain⟨h1,h2,-⟩:=(parseR_iff b r).1 h
   have:=checkR_lim r h2
   exact⟨h1,by show _≤r.n;omega,by show r.n≤_;omega⟩
 have hc:(parseC b).getD 0 < 2^64:=by
  cases h:parseC b with
  | none=>decide
  | some c=>exact ((parseC_iff b c).1 h).1
 have hn:=numberL_lt b
 intro p hp
 unfold candsP at hp
 simp only[List.mem_cons,List.not_mem_nil,or_false] at hp
 rcases hp with rfl | rfl | rfl | rfl | rfl | rfl
 ·exact⟨zeroR_ok,hn,by show (0:Nat) < 2^64;decide⟩
 ·exact⟨zeroR_ok,hn,by show (0:Nat) < 2^64;decide⟩
 ·exact⟨zeroR_ok,by show (0:Nat) < 2^64;decide,by show (0:Nat) < 2^64;decide⟩
 ·exact⟨zeroR_ok,by show (0:Nat) < 2^64;decide,by show (0:Nat) < 2^64;decide⟩
 ·exact⟨hr,by show (0:Nat) < 2^64;decide,by show (0:Nat) < 2^64;decide⟩
 ·exact⟨zeroR_ok,by show (0:Nat) < 2^64;decide,hc⟩
theorem parseP_iff (s:List UInt8) (p:Prd):parseP s=some p↔p.Ok∧textP p=s∧s≠[]:=by
 constructor
 ·intro h
  unfold parseP at h
  by_cases hl:512 < s.length
  ·rw[if_pos hl] at h;cases h
  ·rw[if_neg hl] at h
   cases hb:blankL s with
   | none=>rw[hb] at h;cases h
   | some k =>
    rw[hb] at h
    have h:(candsP (s.drop (k+1))).find? (fun p=>decide (textP p=s))=some p:=h
    have h1:textP p=s:=of_decide_eq_true (List.find?_some (p:=fun p=>decide (textP p=s)) h)
    refine⟨cands_ok _ p (List.mem_of_find?_eq_some h),h1,?_⟩
    rintro rfl
    cases hb
 ·rintro ⟨ho,rfl,hne⟩
  obtain⟨h2,-,hl,he⟩:=textP_ne p hne
  have hb:blankL (textP p)=some (wordsP p).1.length:=by rw[he];exact blankL_front _ _ (wordsP_32 p h2)
  have hd:(textP p).drop ((wordsP p).1.length+1)=(wordsP p).2:=by
   rw[he,←List.drop_drop,List.drop_left];rfl
  have hlen:¬512 < (textP p).length:=by rw[he,List.length_append,List.length_cons];omega
  unfold parseP
  rw[if_neg hlen,hb]
  show (candsP ((textP p).drop ((wordsP p).1.length+1))).find? (fun q=>decide (textP q=textP p))=some p
  rw[hd]
  cases hf:(candsP (wordsP p).2).find? (fun q=>decide (textP q=textP p)) with
  | none =>
   have:=List.find?_eq_none.1 hf p (cands_self p ho hne)
   simp at this
  | some q =>
   have h1:textP q=textP p:=of_decide_eq_true (List.find?_some (p:=fun q=>decide (textP q=textP p)) hf)
   rw[textP_inj q p (cands_ok _ q (List.mem_of_find?_eq_some hf)) ho h1 (by rw[h1];exact hne)]
theorem row_part' {w:World} {g:Nat} {t:TypeId} {R V U:List Value} (e:R=V++U) (h:Row w g t R):w.rangeAt g 0 V:=row_part (by rw[e] at h;exact h)
theorem rng_n' {w:World} {g:Nat} {t:TypeId} {R V:List Value} {n:Int} (hl:V.length=17) (e:R=V++[Value.int .i64 n]) (h:Row w g t R):w.cell? ⟨g,17,none⟩=some (.int .i64 n):=rng_n hl (by rw[e] at h;exact h)
theorem eight_of (l:List Nat) (h:l.length=8):∃a b c d e f g i:Nat,l=[a,b,c,d,e,f,g,i]:=by
 match l,h with
 | [a,b,c,d,e,f,g,i],_=>exact⟨a,b,c,d,e,f,g,i,rfl⟩
def zB:List Bool→Nat
 | []=>0
 | z :: zs=>if z then zB zs+1 else 0
def bestB (l:List Bool):Nat:=(List.range l.length).foldl (fun best i=>if zB (l.drop i) > zB (l.drop best) then i else best) 0
theorem zB_eq (l:List Nat):zB (l.map fun n=>decide (n=0))=zerosL l:=by
 induction l with
 | nil=>rfl
 | cons n l ih=>rw[List.map_cons,zB,zerosL,ih];by_cases h:n=0<;>simp[h]
theorem bestB_eq (l:List Nat):bestB (l.map fun n=>decide (n=0))=bestL l:=by
 unfold bestB bestL
 simp only[←List.map_drop,zB_eq,List.length_map]
theorem bestL_le:∀a b c d e f g h:Bool,bestB [a,b,c,d,e,f,g,h] + zB ([a,b,c,d,e,f,g,h].drop (bestB [a,b,c,d,e,f,g,h]))≤8:=by decide
theorem best_le (l:List Nat) (h8:l.length=8):bestL l+zerosL (l.drop (bestL l))≤8:=by
 rw[←bestB_eq,←zB_eq,List.map_drop]
 obtain⟨a,b,c,d,e,f,g,h,rfl⟩:=eight_of l h8
 exact bestL_le _ _ _ _ _ _ _ _
theorem glue_len1 (x:UInt8) (ps:List (List UInt8)) (m:Nat) (hm:∀p∈ps,p.length≤m):(glueL x ps).length+1≤(m+1)*ps.length+(if ps=[] then 1 else 0):=by
 induction ps with
 | nil=>simp[glueL]
 | cons p ps ih =>
  have h1:=hm p (List.mem_cons_self ..)
  have h2:=ih (fun q hq=>hm q (List.mem_cons_of_mem _ hq))
  cases ps with
  | nil=>show p.length+1≤_;simp;omega
  | cons q ps =>
   rw[glueL_cons x p (q :: ps) (by simp),List.length_append,List.length_cons,if_neg (by simp)]
   rw[if_neg (by simp)] at h2
   rw[List.length_cons,Nat.mul_succ]
   omega
theorem joinN_len5 (l:List Nat) (hm:∀n∈l,n≤65535):(joinN l).length≤5*l.length:=by
 rw[joinN_glue]
 have:=glue_len1 58 (l.map (numL 16)) 4 (by
  intro p hp
  obtain⟨n,hn,rfl⟩:=List.mem_map.1 hp
  exact numL16_len n (hm n hn))
 rw[List.length_map] at this
 split at this<;>omega
theorem joinN_len8 (l:List Nat) (h8:l.length=8) (hm:∀n∈l,n≤65535):(joinN l).length≤39:=by
 rw[joinN_glue]
 have:=glue_len1 58 (l.map (numL 16)) 4 (by
  intro p hp
  obtain⟨n,hn,rfl⟩:=List.mem_map.1 hp
  exact numL16_len n (hm n hn))
 rw[List.length_map,h8,if_neg (by intro h;have:=congrArg List.length h;simp[h8] at this)] at this
 omega
theorem textA_len (a:Adr):(textA a).length≤39:=by
 unfold textA
 split
 ·split
  ·unfold textN
   dsimp only
   have h8:=numsA_len a
   have hm:=numsA_le a
   split
   ·exact joinN_len8 _ h8 hm
   ·rename_i hz
    have h1:=joinN_len5 ((numsA a).take (bestL (numsA a))) (fun n hn=>hm n (List.mem_of_mem_take hn))
    have h2:=joinN_len5 ((numsA a).drop (bestL (numsA a)+zerosL ((numsA a).drop (bestL (numsA a))))) (fun n hn=>hm n (List.mem_of_mem_drop hn))
    have h3:=best_le (numsA a) h8
    rw[List.length_take] at h1
    rw[List.length_drop] at h2
    rw[List.length_append,List.length_cons,List.length_cons]
    omega
  ·have k0:=numL10_len (a.b.getD 0 0).toNat (by have:=(a.b.getD 0 0).toNat_lt;omega)
   have k1:=numL10_len (a.b.getD 1 0).toNat (by have:=(a.b.getD 1 0).toNat_lt;omega)
   have k2:=numL10_len (a.b.getD 2 0).toNat (by have:=(a.b.getD 2 0).toNat_lt;omega)
   have k3:=numL10_len (a.b.getD 3 0).toNat (by have:=(a.b.getD 3 0).toNat_lt;omega)
   simp only[List.length_append,List.length_cons]
   omega
 ·simp
theorem allAt (P:UInt8→Bool) (s:List UInt8) (k:Nat) (h:k < s.length):(s.drop k).all P=(P (s.getD k 0)&&(s.drop (k+1)).all P):=by
 rw[List.drop_eq_getElem_cons h,List.all_cons,List.getD_eq_getElem?_getD,List.getElem?_eq_getElem h];rfl
theorem name16_iff (s:List UInt8):name16 s=(decide (1≤s.length)&&decide (s.length≤16)&&s.all lowB):=rfl
set_option maxHeartbeats 2000000 in
theorem rname16_any (s:List UInt8) (hs:s.length≤100000) (w:World):Calls Tryz.prog 44 #[.string (bstr s)] w fun e w'=>e=.returned (.bool (name16 s))∧w=w':=by
 have hz:=size_bstr s
 have HV:=Lib.hid (name16_iff s)
 generalize name16 s=V at *
 by_cases h1:s.length < 1
 ·have HW:=Lib.hid (show V=false by rw[HV.out,decide_eq_false (by omega:¬1≤s.length)];rfl)
  have a1:(s.length:Int) < 1:=by omega
  clear HV
  go_enter Tryz.func44,Tryz.ntmps44
  go_wp2
  go_ret
  exact⟨by rw[HW.out];rfl,rfl⟩
 have a1:decide ((s.length:Int) < 1)=false:=decide_eq_false (by omega)
 by_cases h2:16 < s.length
 ·have HW:=Lib.hid (show V=false by rw[HV.out,decide_eq_false (by omega:¬s.length≤16),Bool.and_false];rfl)
  have a2:(16:Int) < (s.length:Int):=by omega
  clear HV
  go_enter Tryz.func44,Tryz.ntmps44
  go_wp2
  go_ret
  exact⟨by rw[HW.out];rfl,rfl⟩
 have a2:decide ((16:Int) < (s.length:Int))=false:=decide_eq_false (by omega)
 have HW:=Lib.hid (show V=s.all lowB by rw[HV.out,decide_eq_true (show 1≤s.length by omega),decide_eq_true (show s.length≤16 by omega)];rfl)
 clear HV h1 h2
 go_enter Tryz.func44,Tryz.ntmps44
 go_wp2
 clear a1 a2
 go_loop [3] (fun i=>∃k:Nat,k≤s.length∧i=.int .i64 k∧(s.drop k).all lowB=s.all lowB) (fun i=>s.length - (intOf i).toNat)
 case atStart=>exact⟨0,by omega,rfl,rfl⟩
 case round =>
  obtain⟨k,hk,rfl,hf⟩:=hrel
  by_cases hlt:k < s.length
  ·have hlt':(k:Int) < (s.length:Int):=by omega
   have hix:=index_bstr s k hlt
   have HA:=Lib.hid (allAt lowB s k hlt)
   have HF:=Lib.hid hf
   generalize s.getD k 0=c at *
   clear hf
   by_cases c1:c.toNat < 97
   ·have HN:=Lib.hid (show V=false by rw[HW.out,←HF.out,HA.out,show lowB c=false by unfold lowB;rw[decide_eq_false (by omega:¬97≤c.toNat)];rfl,Bool.false_and])
    have c1':(c.toNat:Int) < 97:=by omega
    clear HA c1
    go_wp2
    go_ret
    exact⟨by rw[HN.out];rfl,rfl⟩
   ·have c1':decide ((c.toNat:Int) < 97)=false:=decide_eq_false (by omega)
    by_cases c2:122 < c.toNat
    ·have HN:=Lib.hid (show V=false by rw[HW.out,←HF.out,HA.out,show lowB c=false by unfold lowB;rw[decide_eq_false (by omega:¬c.toNat≤122),Bool.and_false],Bool.false_and])
     have c2':(122:Int) < (c.toNat:Int):=by omega
     clear HA c1 c2
     go_wp2
     go_ret
     exact⟨by rw[HN.out];rfl,rfl⟩
    ·have HN:=Lib.hid (show (s.drop (k+1)).all lowB=s.all lowB by rw[←HF.out,HA.out,show lowB c=true by unfold lowB;rw[decide_eq_true (by omega:97≤c.toNat),decide_eq_true (by omega:c.toNat≤122)];rfl,Bool.true_and])
     have c2':decide ((122:Int) < (c.toNat:Int))=false:=decide_eq_false (by omega)
     clear HA c1 c2
     go_wp2
     go_round
     case rel=>exact⟨k+1,by omega,by go_num,HN.out⟩
     case measure=>simp[intOf];omega
  ·obtain rfl:k=s.length:=by omega
   have HN:=Lib.hid (show V=true by rw[HW.out,←hf,List.drop_length];rfl)
   clear hf
   go_wp2
   go_ret
   exact⟨by rw[HN.out];rfl,rfl⟩
theorem Sl.of_ownk {w:World} {base t k n:Nat} {v:Value} {xs:List Value} (h:w.ownsRow base t k v n xs):∃A c,v=.slice A n c∧xs.length=n*k∧Sl w A (c*k) xs:=by
 rcases h.2 with ⟨rfl,rfl⟩ | ⟨g,cap,cur,rfl,_,hg,hle,_,hs,htake⟩
 ·have hn:xs.length=0:=by simpa using h.1
  exact⟨none,0,rfl,h.1,⟨.inl (List.eq_nil_of_length_eq_zero hn),by omega,fun _=>Nat.zero_mul k⟩⟩
 ·refine⟨some ⟨g,0,none⟩,cap,rfl,h.1,⟨.inr ⟨g,0,rfl,(Array.getElem?_eq_some_iff.1 hg).1,fun i hi=>?_⟩,by rw[h.1];exact Nat.mul_le_mul_right k hle,fun h=>by cases h⟩⟩
  have hi':i < n*k:=by rw[←h.1];exact hi
  rw[Nat.zero_add,cell_of_row w g i cur t (0,0) hg,←htake,List.getElem?_take,if_pos hi']
  simp
theorem ownk_later {w w':World} {base t k n B:Nat} {v:Value} {xs:List Value} (h:w.ownsRow base t k v n xs) (hb:Below B w w') (hB:w.heap.size≤B):w'.ownsRow base t k v n xs:=by
 refine⟨h.1,?_⟩
 rcases h.2 with hn | ⟨g,cap,cur,rfl,hbg,hg,rest⟩
 ·exact .inl hn
 ·exact .inr ⟨g,cap,cur,rfl,hbg,(hb.block g (Nat.lt_of_lt_of_le (Array.getElem?_eq_some_iff.1 hg).1 hB)).trans hg,rest⟩
theorem run_append_k {P:Program} (w:World) (base:Nat) (t ty e:TypeId) (i:TypeInfo) (z:Value) (k bytes:Nat) (ht:P.underlying t=some (.slice e)) (hi:P.info? e=some i) (hz:i.zero=some z)
  (hsize:i.size=k) (hk:0 < k) (hby:i.bytes=bytes) (hzs:z.cells.size=k) (v:Value) (n:Nat) (xs:List Value) (hown:w.ownsRow base e k v n xs)
  (A:Option Addr) (m c:Nat) (news:List Value) (hm:news.length=m*k) (hsl:Sl w A (c*k) news) (h1:∀u∈news,u.oneCell'=true)
  (h63:n+m≤maxLen) (hbytes:(n+m)*bytes≤140737488355328) (hbase:base≤w.heap.size) :
  ∃v' w',(Builtin.append_ #[t,t] ty #[v,.slice A m c]).run P w=.ok v' w'∧w'.ownsRow base e k v' (n+m) (xs++news)∧w.grownBy w' v.ownBlock:=by
 cases A with
 | none =>
  have hc:=hsl.bare rfl
  have hl:=hsl.room
  have hm0:m=0:=by
   have h0:m*k=0:=by omega
   rcases Nat.mul_eq_zero.1 h0 with h | h
   ·exact h
   ·omega
  have hc0:c=0:=by
   rcases Nat.mul_eq_zero.1 hc with h | h
   ·exact h
   ·omega
  subst hm0 hc0
  obtain rfl:news=[]:=List.eq_nil_of_length_eq_zero (by omega)
  exact⟨v,w,run_append_owned_none (P:=P) (w:=w) base t ty e i k ht hi v n xs hown,by simpa using hown,World.grownBy.refl w _⟩
 | some ad =>
  obtain⟨v',w',h1',h2,h3,_⟩:=run_append_own (P:=P) w base t ty e i z k bytes ht hi hz hsize hby hzs hk v n xs hown ad m c news hm hsl.rd.at_add h1 h63 hbytes hbase
  exact⟨v',w',h1',h2,h3⟩
theorem wpList_append_k {P:Program} {w:World} {ops:Array Oper} {rest:List Oper} {o:Oper} {a:Act} {Q:Exit→Act→World→Prop} (hgd:o.guard=none) (s x:Operand) (t:TypeId)
  (ho:o.op=.call { callee:=.builtin .append,args:=#[s,x],argTypes:=#[t,t] })
  (base:Nat) (e:TypeId) (i:TypeInfo) (z:Value) (k bytes:Nat) (ht:P.underlying t=some (.slice e)) (hi:P.info? e=some i) (hz:i.zero=some z)
  (hsize:i.size=k) (hk:0 < k) (hby:i.bytes=bytes) (hzs:z.cells.size=k)
  (v:Value) (n:Nat) (xs:List Value) (hs:a.eval s=v) (hown:w.ownsRow base e k v n xs)
  (A:Option Addr) (m c:Nat) (news:List Value) (hx:a.eval x=.slice A m c) (hm:news.length=m*k) (hsl:Sl w A (c*k) news) (h1:∀u∈news,u.oneCell'=true)
  (h63:n+m≤maxLen) (hbytes:(n+m)*bytes≤140737488355328) (hbase:base≤w.heap.size)
  (h:∀v' w',w'.ownsRow base e k v' (n+m) (xs++news)→w.grownBy w' v.ownBlock→wpList P ops Q rest (a.put o.dst v') w'):wpList P ops Q (o :: rest) a w:=by
 refine wpList_plain hgd fun _ hK=>?_
 obtain⟨v',w',hrun,h2,h3⟩:=run_append_k (P:=P) w base t o.type e i z k bytes ht hi hz hsize hk hby hzs v n xs hown A m c news hm hsl h1 h63 hbytes hbase
 unfold Oper.wp execOp
 simp only[ho,resolve,invoke,builtin,Sem.run_bind,Sem.run_pure,Result.andThen_ok,List.map_toArray,List.map_cons,List.map_nil,hs,hx,hrun]
 exact hK _ _ (h v' w' h2 h3)
theorem step_append_k {P:Program} {w:World} {ops:Array Oper} {o:Oper} {a:Act} {K:Act→World→Prop} {Q:Exit→Act→World→Prop} {E:Prop} (dst:Option Tmp) (hdst:o.dst=dst) (hgd:Region.wanted o (yielded ops a.tmps)=true) (s x:Operand) (t:TypeId)
  (ho:o.op=.call { callee:=.builtin .append,args:=#[s,x],argTypes:=#[t,t] })
  (base:Nat) (e:TypeId) (i:TypeInfo) (z:Value) (k bytes:Nat) (ht:P.underlying t=some (.slice e)) (hi:P.info? e=some i) (hz:i.zero=some z)
  (hsize:i.size=k) (hk:0 < k) (hby:i.bytes=bytes) (hzs:z.cells.size=k)
  (v:Value) (n:Nat) (xs:List Value) (hs:a.eval s=v) (hown:w.ownsRow base e k v n xs)
  (A:Option Addr) (m c:Nat) (news:List Value) (hx:a.eval x=.slice A m c) (hm:news.length=m*k) (hsl:Sl w A (c*k) news) (h1:∀u∈news,u.oneCell'=true)
  (h63:n+m≤maxLen) (hbytes:(n+m)*bytes≤140737488355328) (hbase:base≤w.heap.size)
  (h:∀v' w',w'.ownsRow base e k v' (n+m) (xs++news)→w.grownBy w' v.ownBlock→K (a.put dst v') w') :
  if Region.wanted o (yielded ops a.tmps)=true then Oper.wp P o a w K Q else E:=by
 subst hdst
 rw[if_pos hgd]
 obtain⟨v',w',hrun,h2,h3⟩:=run_append_k (P:=P) w base t o.type e i z k bytes ht hi hz hsize hk hby hzs v n xs hown A m c news hm hsl h1 h63 hbytes hbase
 unfold Oper.wp execOp
 simp only[ho,resolve,invoke,builtin,Sem.run_bind,Sem.run_pure,Result.andThen_ok,List.map_toArray,List.map_cons,List.map_nil,hs,hx,hrun]
 exact h v' w' h2 h3
theorem flat_at {α:Type} (f:α→List Value) (k:Nat) (fs:List α) (hf:∀a∈fs,(f a).length=k):∀(i:Nat) (a:α),fs[i]?=some a→∀j,j < k→(fs.flatMap f)[i*k+j]?=(f a)[j]?:=by
 induction fs with
 | nil=>intro i a h;simp at h
 | cons b fs ih =>
  intro i a h j hj
  have hb:=hf b (List.mem_cons_self ..)
  rw[List.flatMap_cons]
  cases i with
  | zero =>
   simp only[List.getElem?_cons_zero,Option.some.injEq] at h
   subst h
   rw[Nat.zero_mul,Nat.zero_add,List.getElem?_append_left (by omega)]
  | succ i =>
   rw[List.getElem?_append_right (by rw[hb,Nat.succ_mul];omega),hb,show (i+1)*k+j - k=i*k+j by rw[Nat.succ_mul];omega]
   exact ih (fun a ha=>hf a (List.mem_cons_of_mem _ ha)) i a (by simpa using h) j hj
theorem flat_length {α:Type} (f:α→List Value) (k:Nat) (fs:List α) (hf:∀a∈fs,(f a).length=k):(fs.flatMap f).length=fs.length*k:=by
 induction fs with
 | nil=>simp
 | cons b fs ih =>
  rw[List.flatMap_cons,List.length_append,hf b (List.mem_cons_self ..),ih (fun a ha=>hf a (List.mem_cons_of_mem _ ha)),List.length_cons,Nat.succ_mul];omega
theorem Sl.thing {α:Type} {f:α→List Value} {k:Nat} {fs:List α} {w:World} {b o c:Nat} (h:Sl w (some ⟨b,o,none⟩) c (fs.flatMap f)) (hf:∀a∈fs,(f a).length=k) (i:Nat) (a:α) (ha:fs[i]?=some a):w.rangeAt b (o+i*k) (f a):=by
 intro j v hj
 have hlen:(f a).length=k:=hf a (List.mem_of_getElem? ha)
 have hjk:j < k:=by have:=(List.getElem?_eq_some_iff.1 hj).1;omega
 have hi:=(List.getElem?_eq_some_iff.1 ha).1
 have hlt:i*k+j < (fs.flatMap f).length:=by
  rw[flat_length f k fs hf]
  have:(i+1)*k≤fs.length*k:=Nat.mul_le_mul_right k hi
  rw[Nat.succ_mul] at this
  omega
 obtain⟨b',o',he,_,hc⟩:=h.rd.get hlt
 cases he
 rw[Nat.add_assoc,hc,flat_at f k fs hf i a ha j hjk,hj]
open Go.ChangeShapes Go.WideShapes Go.ChangeAt Go.RowKit
theorem bstr_data (s:ByteArray):bstr s.data.toList=s:=by obtain⟨⟨l⟩⟩:=s;rfl
theorem cells_str:Tryz.prog.cellsOf 9=1:=by kernel_rfl
end Go.Proofs.YtjieebmcbpdeiaaGreatDoor
namespace Go.Proofs.YtjieebmcbpdeiaaGreatDoor
set_option maxRecDepth 100000
open Go Go.RowKit
theorem okAt_zero (l:List (List UInt8)) (i:Nat) (h:i=0):okAt l i=name16 (l.getD i []):=by
 subst h
 unfold okAt
 simp
theorem okAt_pos (l:List (List UInt8)) (i:Nat) (h:0 < i):okAt l i=(name16 (l.getD i [])&&Op.bytesLess (l.getD (i - 1) []) (l.getD i [])):=by
 unfold okAt
 rw[decide_eq_false (by omega:¬i=0),Bool.false_or]
theorem okAt_next (l:List (List UInt8)) (k:Nat) (h:∀j < k,okAt l j=true) (hk:okAt l k=true):∀j < k+1,okAt l j=true:=by
 intro j hj
 rcases Nat.lt_succ_iff_lt_or_eq.1 hj with h1 | h1
 ·exact h j h1
 ·rw[h1];exact hk
def GaveRow (o:Option (List (List UInt8))) (w:World) (e:Ending) (w':World):Prop :=
 ∃(A:Option Addr) (c:Nat),e=.returned (.tuple #[.slice A (o.getD []).length c,.bool o.isSome])∧Sl w' A c (strsV (o.getD []))∧Below w.heap.size w w'
theorem sl_none16 (w:World):Sl w none 0 (strsV []):=⟨.inl (by simp[strsV]),by simp[strsV],fun _=>rfl⟩
theorem glue_len (x:UInt8) (l:List (List UInt8)):(glueL x l).length≤sumS l:=by
 induction l with
 | nil=>exact Nat.zero_le _
 | cons p ps ih =>
  by_cases he:ps=[]
  ·subst he
   show p.length≤_
   unfold sumS;simp
  ·rw[glueL_cons x p ps he,List.length_append,List.length_cons]
   have e:sumS (p :: ps)=(p.length+1)+sumS ps:=by unfold sumS;simp
   omega
end Go.Proofs.YtjieebmcbpdeiaaGreatDoor
