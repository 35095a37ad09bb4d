import Derived.Test.YtjieebmcbpdeiaaGreatDoorRcaa
import Derived.Test.YtjieebmcbpdeiaaGreatDoorRcab
import Derived.SliceStrings
import Derived.Laws.Cover1
import Derived.Laws.Cover2
import Derived.Laws.FloatArith
import Derived.Laws.Externs
namespace Go.Proofs.YtjieebmcbpdeiaaGreatDoor
set_option maxRecDepth 100000
open Go Go.RowKit
def signB (c:UInt8):Bool:=decide (97≤c∧c≤122)||decide (65≤c∧c≤90)||decide (48≤c∧c≤57)||c==46||c==95||c==45
def nameL (s:List UInt8):Bool:=decide (1≤s.length)&&decide (s.length≤64)&&decide (s≠[46])&&decide (s≠[46,46])&&s.all signB
def rightL:List UInt8→Bool
 | 47 :: r=>decide (r=[])||(decide (r.length+1≤256)&&(splitL 47 r).all nameL)
 | _=>false
def namesL:List UInt8→List (List UInt8)
 | 47 :: r=>if rightL (47 :: r)=true∧r≠[] then splitL 47 r else []
 | _=>[]
def underL (top p:List UInt8):Bool:=rightL top&&rightL p&&(decide (top=[47])||decide (p=top)||(decide (top.length < p.length)&&decide (p.take top.length=top)&&decide (p.getD top.length 0=47)))
def goN:List (List UInt8)→List (List UInt8)→Option (List (List UInt8))
 | l,[]=>some l
 | l,w :: ws =>
  if w=[]∨w=[46] then goN l ws
  else if w=[46,46] then (if l=[] then none else goN l.dropLast ws)
  else if nameL w then goN (l++[w]) ws else none
def joinP (l:List (List UInt8)):List UInt8:=if l=[] then [47] else l.flatMap fun w=>47 :: w
def normL:List UInt8→Option (List UInt8)
 | 47 :: r=>match goN [] (splitL 47 r) with
  | none=>none
  | some l=>if (joinP l).length≤256 then some (joinP l) else none
 | _=>none
theorem signB_47:signB 47=false:=by decide
theorem name_47 (s:List UInt8) (h:nameL s=true):∀c∈s,c≠47:=by
 unfold nameL at h
 rw[Bool.and_eq_true,List.all_eq_true] at h
 intro c hc e
 have:=h.2 c hc
 rw[e,signB_47] at this;cases this
theorem name_ne (s:List UInt8) (h:nameL s=true):s≠[]∧s≠[46]∧s≠[46,46]:=by
 unfold nameL at h
 simp only[Bool.and_eq_true,decide_eq_true_iff] at h
 obtain⟨⟨⟨⟨h1,h2⟩,h3⟩,h4⟩,h5⟩:=h
 refine⟨?_,h3,h4⟩
 rintro rfl
 simp at h1
theorem right_head (p:List UInt8) (h:rightL p=true):∃r,p=47 :: r:=by
 match p,h with
 | [],h=>cases h
 | c :: r,h =>
  by_cases hc:c=47
  ·exact⟨r,by rw[hc]⟩
  ·unfold rightL at h
   split at h
   ·rename_i e;injection e with e1 e2;exact absurd e1 hc
   ·cases h
theorem goN_names:∀(ws l x:List (List UInt8)),(∀w∈l,nameL w=true)→goN l ws=some x→∀w∈x,nameL w=true:=by
 intro ws
 induction ws with
 | nil=>intro l x hl h;cases h;exact hl
 | cons w ws ih =>
  intro l x hl h
  rw[goN] at h
  split at h
  ·exact ih l x hl h
  ·split at h
   ·split at h
    ·cases h
    ·exact ih l.dropLast x (fun v hv=>hl v (List.dropLast_subset l hv)) h
   ·split at h
    ·rename_i hw
     refine ih (l++[w]) x (fun v hv=>?_) h
     rcases List.mem_append.1 hv with hv | hv
     ·exact hl v hv
     ·rw[List.mem_singleton.1 hv];exact hw
    ·cases h
theorem goN_self:∀(ws l:List (List UInt8)),(∀w∈ws,nameL w=true)→goN l ws=some (l++ws):=by
 intro ws
 induction ws with
 | nil=>intro l _;rw[goN,List.append_nil]
 | cons w ws ih =>
  intro l hw
  have h1:=hw w (List.mem_cons_self ..)
  obtain⟨n1,n2,n3⟩:=name_ne w h1
  rw[goN,if_neg (by rintro (h | h);exact n1 h;exact n2 h),if_neg n3,if_pos h1,ih (l++[w]) (fun v hv=>hw v (List.mem_cons_of_mem _ hv)),List.append_assoc]
  rfl
theorem flat_glue (l:List (List UInt8)) (h:l≠[]):(l.flatMap fun w=>47 :: w)=47 :: glueL 47 l:=by
 induction l with
 | nil=>exact absurd rfl h
 | cons w ws ih =>
  rw[List.flatMap_cons]
  by_cases he:ws=[]
  ·subst he;simp[glueL]
  ·rw[ih he,glueL_cons 47 w ws he];rfl
theorem joinP_split (l:List (List UInt8)) (h:l≠[]) (hn:∀w∈l,nameL w=true):joinP l=47 :: glueL 47 l∧splitL 47 (glueL 47 l)=l:=by
 refine⟨by unfold joinP;rw[if_neg h];exact flat_glue l h,?_⟩
 exact splitL_glue 47 l h fun p hp c hc=>name_47 p (hn p hp) c hc
theorem normL_right (p x:List UInt8) (h:normL p=some x):rightL x=true∧normL x=some x:=by
 unfold normL at h
 split at h
 ·rename_i r
  split at h
  ·cases h
  ·rename_i l hl
   split at h
   ·rename_i hlen
    cases h
    have hn:=goN_names _ [] l (fun w hw=>by cases hw) hl
    by_cases he:l=[]
    ·subst he
     exact⟨rfl,rfl⟩
    ·obtain⟨e1,e2⟩:=joinP_split l he hn
     rw[e1] at hlen ⊢
     rw[List.length_cons] at hlen
     constructor
     ·show (decide (glueL 47 l=[])||(decide ((glueL 47 l).length+1≤256)&&(splitL 47 (glueL 47 l)).all nameL))=true
      rw[e2,decide_eq_true hlen,Bool.true_and,Bool.or_eq_true]
      exact .inr (List.all_eq_true.2 hn)
     ·show (match goN [] (splitL 47 (glueL 47 l)) with
       | none=>none
       | some l=>if (joinP l).length≤256 then some (joinP l) else none)=_
      rw[e2,goN_self l [] hn,List.nil_append]
      show (if (joinP l).length≤256 then some (joinP l) else none)=_
      rw[if_pos (by rw[e1,List.length_cons];exact hlen),e1]
   ·cases h
 ·cases h
def inkB (c:UInt8):Bool:=decide (32≤c.toNat)&&decide (c.toNat≤126)
def wordsL (s:List UInt8):Option (List (List UInt8)) :=
 if s=[] then some [] else if s.length≤512∧s.all inkB=true∧(splitL 32 s).all (fun p=>decide (p≠[]))=true then some (splitL 32 s) else none
def lowB (c:UInt8):Bool:=decide (97≤c.toNat)&&decide (c.toNat≤122)
def name16 (s:List UInt8):Bool:=decide (1≤s.length)&&decide (s.length≤16)&&s.all lowB
def okAt (l:List (List UInt8)) (i:Nat):Bool:=name16 (l.getD i [])&&(decide (i=0)||Op.bytesLess (l.getD (i - 1) []) (l.getD i []))
def riseL (l:List (List UInt8)):Bool:=decide (1≤l.length)&&decide (l.length≤32)&&(List.range l.length).all (okAt l)
def namesC (s:List UInt8):Option (List (List UInt8)):=if riseL (splitL 44 s)=true then some (splitL 44 s) else none
def joinL16 (l:List (List UInt8)):List UInt8:=if riseL l=true then glueL 44 l else []
def numberL (s:List UInt8):Option Nat:=match valueL 10 20 s with
 | none=>none
 | some n=>if n < 2^64 then some n else none
theorem riseL_at (l:List (List UInt8)):riseL l=true↔1≤l.length∧l.length≤32∧∀i < l.length,okAt l i=true:=by
 unfold riseL
 rw[Bool.and_eq_true,Bool.and_eq_true,decide_eq_true_iff,decide_eq_true_iff,List.all_eq_true]
 constructor
 ·rintro ⟨⟨h1,h2⟩,h3⟩
  exact⟨h1,h2,fun i hi=>h3 i (List.mem_range.2 hi)⟩
 ·rintro ⟨h1,h2,h3⟩
  exact⟨⟨h1,h2⟩,fun i hi=>h3 i (List.mem_range.1 hi)⟩
theorem riseL_bad (l:List (List UInt8)) (i:Nat) (hi:i < l.length) (h:okAt l i=false):riseL l=false:=by
 cases hr:riseL l with
 | false=>rfl
 | true=>have:=((riseL_at l).1 hr).2.2 i hi;rw[h] at this;cases this
theorem riseL_names (l:List (List UInt8)) (h:riseL l=true):∀p∈l,name16 p=true:=by
 intro p hp
 obtain⟨i,hi,rfl⟩:=List.mem_iff_getElem.1 hp
 have:=((riseL_at l).1 h).2.2 i hi
 unfold okAt at this
 rw[Bool.and_eq_true] at this
 rw[←this.1,List.getD_eq_getElem?_getD,List.getElem?_eq_getElem hi];rfl
theorem name16_44 (p:List UInt8) (h:name16 p=true):p≠[]∧∀c∈p,c≠44:=by
 unfold name16 at h
 rw[Bool.and_eq_true,Bool.and_eq_true,decide_eq_true_iff,List.all_eq_true] at h
 refine⟨?_,?_⟩
 ·rintro rfl;have:=h.1.1;simp at this
 ·rintro c hc rfl
  have:=h.2 44 hc
  revert this;decide
theorem names_join (l:List (List UInt8)):namesC (joinL16 l)=if riseL l=true then some l else none:=by
 unfold namesC joinL16
 by_cases h:riseL l=true
 ·rw[if_pos h,if_pos h]
  have hne:l≠[]:=by rintro rfl;simp[riseL] at h
  rw[splitL_glue 44 l hne (fun p hp=>(name16_44 p (riseL_names l h p hp)).2),if_pos h]
 ·rw[if_neg h,if_neg h]
  have:riseL (splitL 44 [])=false:=by decide
  rw[this];rfl
theorem join_off (l:List (List UInt8)) (h:riseL l=false):joinL16 l=[]:=by
 unfold joinL16
 rw[h];rfl
theorem words_some (s:List UInt8) (x:List (List UInt8)) (h:wordsL s=some x):s=[]∧x=[]∨s≠[]∧s.length≤512∧s.all inkB=true∧(splitL 32 s).all (fun p=>decide (p≠[]))=true∧x=splitL 32 s:=by
 unfold wordsL at h
 split at h
 ·rename_i e;cases h;exact .inl ⟨e,rfl⟩
 ·rename_i e
  split at h
  ·rename_i k;cases h;exact .inr ⟨e,k.1,k.2.1,k.2.2,rfl⟩
  ·cases h
theorem numL_len20 (n:Nat) (h:n < 2^64):(numL 10 n).length≤20:=by
 have key:∀k n:Nat,n < 10^(k+1)→(numL 10 n).length≤k+1:=by
  intro k
  induction k with
  | zero=>intro n h;rw[numL_small 10 n (by omega)];simp
  | succ k ih =>
   intro n h
   by_cases hs:n < 10
   ·rw[numL_small 10 n hs];simp
   ·rw[numL_great 10 n (by omega) (by omega),List.length_append]
    have:=ih (n/10) (by rw[Nat.pow_succ] at h;omega)
    simp;omega
 exact key 19 n (Nat.lt_trans h (by decide))
theorem number_num (n:Nat) (h:n < 2^64):numberL (numL 10 n)=some n:=by
 unfold numberL
 rw[(valueL_iff 10 20 (by omega) (by omega) (numL 10 n) n).2 ⟨rfl,numL_len20 n h⟩]
 show (if n < 2^64 then some n else none)=_
 rw[if_pos h]
structure Prd where
 kind:Int
 time:Nat
 names:List (List UInt8)
 path:List UInt8
 net:Rng
 cost:Nat
structure Prd.Ok (p:Prd):Prop where
 net:p.net.Ok
 time:p.time < 2^64
 cost:p.cost < 2^64
def sameR (a b:Rng):Bool:=(a.a.v6==b.a.v6&&decide (a.a.b=b.a.b))&&a.n==b.n
theorem sameR_iff (a b:Rng):sameR a b=true↔a=b:=by
 unfold sameR
 obtain⟨⟨v,l⟩,n⟩:=a
 obtain⟨⟨v',l'⟩,n'⟩:=b
 simp[and_assoc]
def zeroP:Prd:=⟨0,0,[],[],zeroR,0⟩
def onlyP (p:Prd):Bool:=(decide (p.kind=1)||decide (p.kind=2)||decide (p.time=0))&&(decide (p.kind=3)||decide (p.names=[]))&&(decide (p.kind=4)||decide (p.path=[]))&&(decide (p.kind=5)||sameR p.net zeroR)&&(decide (p.kind=6)||decide (p.cost=0))
def wordsP (p:Prd):List UInt8×List UInt8 :=
 if p.kind=1 then ([98,101,102,111,114,101],numL 10 p.time)
 else if p.kind=2 then ([115,105,110,99,101],numL 10 p.time)
 else if p.kind=3 then ([111,112],joinL16 p.names)
 else if p.kind=4∧rightL p.path=true then ([112,97,116,104],p.path)
 else if p.kind=5 then ([110,101,116],textR p.net)
 else if p.kind=6 then ([99,111,115,116],textC p.cost)
 else ([],[])
def textP (p:Prd):List UInt8 :=
 if (wordsP p).2=[]∨onlyP p=false∨511 < (wordsP p).1.length+(wordsP p).2.length then [] else (wordsP p).1++32 :: (wordsP p).2
def blankL:List UInt8→Option Nat
 | []=>none
 | c :: s=>if c=32 then some 0 else (blankL s).map (· + 1)
theorem blankL_front (t u:List UInt8) (h:∀c∈t,c≠32):blankL (t++32 :: u)=some t.length:=by
 induction t with
 | nil=>rfl
 | cons c t ih =>
  rw[List.cons_append,blankL,if_neg (h c (List.mem_cons_self ..)),ih (fun d hd=>h d (List.mem_cons_of_mem _ hd))];rfl
def candsP (b:List UInt8):List Prd :=
 [⟨1,(numberL b).getD 0,[],[],zeroR,0⟩,⟨2,(numberL b).getD 0,[],[],zeroR,0⟩,⟨3,0,(namesC b).getD [],[],zeroR,0⟩,⟨4,0,[],b,zeroR,0⟩,⟨5,0,[],[],(parseR b).getD zeroR,0⟩,⟨6,0,[],[],zeroR,(parseC b).getD 0⟩]
def parseP (s:List UInt8):Option Prd :=
 if 512 < s.length then none else match blankL s with
  | none=>none
  | some k=>(candsP (s.drop (k+1))).find? fun p=>decide (textP p=s)
theorem textP_ne (p:Prd) (h:textP p≠[]):(wordsP p).2≠[]∧onlyP p=true∧(wordsP p).1.length+(wordsP p).2.length≤511∧textP p=(wordsP p).1++32 :: (wordsP p).2:=by
 unfold textP at h ⊢
 by_cases hc:(wordsP p).2=[]∨onlyP p=false∨511 < (wordsP p).1.length+(wordsP p).2.length
 ·rw[if_pos hc] at h;exact absurd rfl h
 ·rw[if_neg hc]
  refine⟨fun e=>hc (.inl e),?_,?_,rfl⟩
  ·cases ho:onlyP p with
   | true=>rfl
   | false=>exact absurd (.inr (.inl ho)) hc
  ·rcases Nat.lt_or_ge 511 ((wordsP p).1.length+(wordsP p).2.length) with h1 | h1
   ·exact absurd (.inr (.inr h1)) hc
   ·exact h1
theorem wordsP_ways (p:Prd) (h:(wordsP p).2≠[]) :
  p.kind=1∧wordsP p=([98,101,102,111,114,101],numL 10 p.time)∨p.kind=2∧wordsP p=([115,105,110,99,101],numL 10 p.time)∨p.kind=3∧wordsP p=([111,112],joinL16 p.names) ∨
  p.kind=4∧wordsP p=([112,97,116,104],p.path)∨p.kind=5∧wordsP p=([110,101,116],textR p.net)∨p.kind=6∧wordsP p=([99,111,115,116],textC p.cost):=by
 unfold wordsP at h ⊢
 by_cases h1:p.kind=1
 ·rw[if_pos h1];exact .inl ⟨h1,rfl⟩
 rw[if_neg h1] at h ⊢
 by_cases h2:p.kind=2
 ·rw[if_pos h2];exact .inr (.inl ⟨h2,rfl⟩)
 rw[if_neg h2] at h ⊢
 by_cases h3:p.kind=3
 ·rw[if_pos h3];exact .inr (.inr (.inl ⟨h3,rfl⟩))
 rw[if_neg h3] at h ⊢
 by_cases h4:p.kind=4∧rightL p.path=true
 ·rw[if_pos h4];exact .inr (.inr (.inr (.inl ⟨h4.1,rfl⟩)))
 rw[if_neg h4] at h ⊢
 by_cases h5:p.kind=5
 ·rw[if_pos h5];exact .inr (.inr (.inr (.inr (.inl ⟨h5,rfl⟩))))
 rw[if_neg h5] at h ⊢
 by_cases h6:p.kind=6
 ·rw[if_pos h6];exact .inr (.inr (.inr (.inr (.inr ⟨h6,rfl⟩))))
 rw[if_neg h6] at h
 exact absurd rfl h
theorem wordsP_32 (p:Prd) (h:(wordsP p).2≠[]):∀c∈(wordsP p).1,c≠32:=by
 rcases wordsP_ways p h with ⟨-,e⟩ | ⟨-,e⟩ | ⟨-,e⟩ | ⟨-,e⟩ | ⟨-,e⟩ | ⟨-,e⟩<;>rw[e]<;>dsimp only<;>decide
theorem only_parts (p:Prd) (h:onlyP p=true):(p.kind=1∨p.kind=2∨p.time=0)∧(p.kind=3∨p.names=[])∧(p.kind=4∨p.path=[])∧(p.kind=5∨p.net=zeroR)∧(p.kind=6∨p.cost=0):=by
 unfold onlyP at h
 simp only[Bool.and_eq_true,Bool.or_eq_true,decide_eq_true_iff,sameR_iff] at h
 obtain⟨⟨⟨⟨h1,h2⟩,h3⟩,h4⟩,h5⟩:=h
 exact⟨by rcases h1 with (h | h) | h;exact .inl h;exact .inr (.inl h);exact .inr (.inr h),h2,h3,h4,h5⟩
theorem namesC_join (l:List (List UInt8)) (h:joinL16 l≠[]):namesC (joinL16 l)=some l:=by
 rw[names_join]
 cases hr:riseL l with
 | true=>rfl
 | false=>exact absurd (join_off l hr) h
theorem parseR_text (r:Rng) (ho:r.Ok) (h:textR r≠[]):parseR (textR r)=some r:=(parseR_iff _ r).2 ⟨ho.a,(textR_ne r h).1,rfl⟩
theorem parseC_text (b:Nat) (hb:b < 2^64) (h:textC b≠[]):parseC (textC b)=some b:=by
 refine (parseC_iff _ b).2 ⟨hb,?_,rfl⟩
 cases hn:nanC b with
 | false=>rfl
 | true=>exact absurd (by unfold textC;rw[hn];rfl) h
theorem cands_self (p:Prd) (ho:p.Ok) (h:textP p≠[]):p∈candsP (wordsP p).2:=by
 obtain⟨h2,honly,-,-⟩:=textP_ne p h
 obtain⟨o1,o2,o3,o4,o5⟩:=only_parts p honly
 obtain⟨k,t,ns,pa,r,c⟩:=p
 unfold candsP
 simp only at o1 o2 o3 o4 o5
 rcases wordsP_ways _ h2 with ⟨e,hw⟩ | ⟨e,hw⟩ | ⟨e,hw⟩ | ⟨e,hw⟩ | ⟨e,hw⟩ | ⟨e,hw⟩<;>simp only at e<;>subst e<;>rw[hw] at h2 ⊢<;>simp only at h2 ⊢
 ·obtain rfl:ns=[]:=o2.resolve_left (by decide)
  obtain rfl:pa=[]:=o3.resolve_left (by decide)
  obtain rfl:r=zeroR:=o4.resolve_left (by decide)
  obtain rfl:c=0:=o5.resolve_left (by decide)
  rw[number_num t ho.time]
  simp
 ·obtain rfl:ns=[]:=o2.resolve_left (by decide)
  obtain rfl:pa=[]:=o3.resolve_left (by decide)
  obtain rfl:r=zeroR:=o4.resolve_left (by decide)
  obtain rfl:c=0:=o5.resolve_left (by decide)
  rw[number_num t ho.time]
  simp
 ·obtain rfl:t=0:=(o1.resolve_left (by decide)).resolve_left (by decide)
  obtain rfl:pa=[]:=o3.resolve_left (by decide)
  obtain rfl:r=zeroR:=o4.resolve_left (by decide)
  obtain rfl:c=0:=o5.resolve_left (by decide)
  rw[namesC_join ns h2]
  simp
 ·obtain rfl:t=0:=(o1.resolve_left (by decide)).resolve_left (by decide)
  obtain rfl:ns=[]:=o2.resolve_left (by decide)
  obtain rfl:r=zeroR:=o4.resolve_left (by decide)
  obtain rfl:c=0:=o5.resolve_left (by decide)
  simp
 ·obtain rfl:t=0:=(o1.resolve_left (by decide)).resolve_left (by decide)
  obtain rfl:ns=[]:=o2.resolve_left (by decide)
  obtain rfl:pa=[]:=o3.resolve_left (by decide)
  obtain rfl:c=0:=o5.resolve_left (by decide)
  rw[parseR_text r ho.net h2]
  simp
 ·obtain rfl:t=0:=(o1.resolve_left (by decide)).resolve_left (by decide)
  obtain rfl:ns=[]:=o2.resolve_left (by decide)
  obtain rfl:pa=[]:=o3.resolve_left (by decide)
  obtain rfl:r=zeroR:=o4.resolve_left (by decide)
  rw[parseC_text c ho.cost h2]
  simp
theorem front_inj (a b c d:List UInt8) (ha:∀x∈a,x≠32) (hc:∀x∈c,x≠32) (h:a++32 :: b=c++32 :: d):a=c∧b=d:=by
 have e:a.length=c.length:=by
  have h1:=blankL_front a b ha
  rw[h,blankL_front c d hc] at h1
  exact (Option.some.inj h1).symm
 obtain⟨h1,h2⟩:=List.append_inj h e
 exact⟨h1,(List.cons.inj h2).2⟩
theorem word_kind (p q:Prd) (hp:(wordsP p).2≠[]) (hq:(wordsP q).2≠[]) (h:(wordsP p).1=(wordsP q).1):p.kind=q.kind:=by
 rcases wordsP_ways p hp with ⟨e,hw⟩ | ⟨e,hw⟩ | ⟨e,hw⟩ | ⟨e,hw⟩ | ⟨e,hw⟩ | ⟨e,hw⟩ <;>
  rcases wordsP_ways q hq with ⟨f,hv⟩ | ⟨f,hv⟩ | ⟨f,hv⟩ | ⟨f,hv⟩ | ⟨f,hv⟩ | ⟨f,hv⟩<;>rw[hw,hv] at h<;>first | (rw[e,f];done) | (exact absurd h (by simp))
theorem wordsP_at (p q:Prd) (hk:p.kind=q.kind) (hp:(wordsP p).2≠[]) (hq:(wordsP q).2≠[]) (h:(wordsP p).2=(wordsP q).2) :
  p.kind=1∧numL 10 p.time=numL 10 q.time∨p.kind=2∧numL 10 p.time=numL 10 q.time∨p.kind=3∧joinL16 p.names=joinL16 q.names∧joinL16 p.names≠[]∨p.kind=4∧p.path=q.path∨p.kind=5∧textR p.net=textR q.net∧textR p.net≠[]∨p.kind=6∧textC p.cost=textC q.cost∧textC p.cost≠[]:=by
 rcases wordsP_ways p hp with ⟨e,hw⟩ | ⟨e,hw⟩ | ⟨e,hw⟩ | ⟨e,hw⟩ | ⟨e,hw⟩ | ⟨e,hw⟩ <;>
  rcases wordsP_ways q hq with ⟨f,hv⟩ | ⟨f,hv⟩ | ⟨f,hv⟩ | ⟨f,hv⟩ | ⟨f,hv⟩ | ⟨f,hv⟩ <;>
  first
   | (exfalso;rw[e,f] at hk;exact absurd hk (by decide))
   | (rw [hw] at hp h; rw [hv] at h; simp only at hp h
      first
       | exact .inl ⟨e,h⟩
       | exact .inr (.inl ⟨e,h⟩)
       | exact .inr (.inr (.inl ⟨e,h,hp⟩))
       | exact .inr (.inr (.inr (.inl ⟨e,h⟩)))
       | exact .inr (.inr (.inr (.inr (.inl ⟨e,h,hp⟩))))
       | exact .inr (.inr (.inr (.inr (.inr ⟨e,h,hp⟩)))))
theorem textP_inj (p q:Prd) (hp:p.Ok) (hq:q.Ok) (h:textP p=textP q) (hne:textP p≠[]):p=q:=by
 obtain⟨p2,po,-,pe⟩:=textP_ne p hne
 obtain⟨q2,qo,-,qe⟩:=textP_ne q (by rw[←h];exact hne)
 rw[pe,qe] at h
 obtain⟨h1,h2⟩:=front_inj _ _ _ _ (wordsP_32 p p2) (wordsP_32 q q2) h
 have hk:=word_kind p q p2 q2 h1
 obtain⟨o1,o2,o3,o4,o5⟩:=only_parts p po
 obtain⟨u1,u2,u3,u4,u5⟩:=only_parts q qo
 have hw:=wordsP_at p q hk p2 q2 h2
 have key:p.time=q.time∧p.names=q.names∧p.path=q.path∧p.net=q.net∧p.cost=q.cost:=by
  rcases hw with ⟨e,hh⟩ | ⟨e,hh⟩ | ⟨e,hh,hn⟩ | ⟨e,hh⟩ | ⟨e,hh,hn⟩ | ⟨e,hh,hn⟩<;>rw[←hk] at u1 u2 u3 u4 u5<;>rw[e] at o1 o2 o3 o4 o5 u1 u2 u3 u4 u5
  ·exact⟨numL_inj 10 _ _ (by omega) (by omega) hh,by rw[o2.resolve_left (by decide),u2.resolve_left (by decide)],by rw[o3.resolve_left (by decide),u3.resolve_left (by decide)],by rw[o4.resolve_left (by decide),u4.resolve_left (by decide)],by rw[o5.resolve_left (by decide),u5.resolve_left (by decide)]⟩
  ·exact⟨numL_inj 10 _ _ (by omega) (by omega) hh,by rw[o2.resolve_left (by decide),u2.resolve_left (by decide)],by rw[o3.resolve_left (by decide),u3.resolve_left (by decide)],by rw[o4.resolve_left (by decide),u4.resolve_left (by decide)],by rw[o5.resolve_left (by decide),u5.resolve_left (by decide)]⟩
  all_goals have ht:p.time=q.time:=by rw[(o1.resolve_left (by decide)).resolve_left (by decide),(u1.resolve_left (by decide)).resolve_left (by decide)]
  ·refine⟨ht,?_,by rw[o3.resolve_left (by decide),u3.resolve_left (by decide)],by rw[o4.resolve_left (by decide),u4.resolve_left (by decide)],by rw[o5.resolve_left (by decide),u5.resolve_left (by decide)]⟩
   have k1:=namesC_join p.names hn
   rw[hh,namesC_join q.names (by rw[←hh];exact hn)] at k1
   exact (Option.some.inj k1).symm
  ·exact⟨ht,by rw[o2.resolve_left (by decide),u2.resolve_left (by decide)],hh,by rw[o4.resolve_left (by decide),u4.resolve_left (by decide)],by rw[o5.resolve_left (by decide),u5.resolve_left (by decide)]⟩
  ·refine⟨ht,by rw[o2.resolve_left (by decide),u2.resolve_left (by decide)],by rw[o3.resolve_left (by decide),u3.resolve_left (by decide)],?_,by rw[o5.resolve_left (by decide),u5.resolve_left (by decide)]⟩
   have k1:=parseR_text p.net hp.net hn
   rw[hh,parseR_text q.net hq.net (by rw[←hh];exact hn)] at k1
   exact (Option.some.inj k1).symm
  ·refine⟨ht,by rw[o2.resolve_left (by decide),u2.resolve_left (by decide)],by rw[o3.resolve_left (by decide),u3.resolve_left (by decide)],by rw[o4.resolve_left (by decide),u4.resolve_left (by decide)],?_⟩
   have k1:=parseC_text p.cost hp.cost hn
   rw[hh,parseC_text q.cost hq.cost (by rw[←hh];exact hn)] at k1
   exact (Option.some.inj k1).symm
 obtain⟨k,t,ns,pa,r,c⟩:=p
 obtain⟨k',t',ns',pa',r',c'⟩:=q
 simp only at hk key
 obtain⟨rfl,rfl,rfl,rfl,rfl⟩:=key
 subst hk
 rfl
theorem zeroP_ok:zeroP.Ok:=⟨zeroR_ok,by decide,by decide⟩
theorem numberL_lt (s:List UInt8):(numberL s).getD 0 < 2^64:=by
 unfold numberL
 split
 ·decide
 ·split
  ·assumption
  ·decide
theorem cands_ok (b:List UInt8):∀p∈candsP b,p.Ok:=by
 have hr:((parseR b).getD zeroR).Ok:=by
  cases h:parseR b with
  | none=>exact zeroR_ok
  | some r =>
   obtain⟨h1,h2,-⟩:=(parseR_iff b r).1 h
   have:=checkR_lim r h2
   exact⟨h1,by show _≤r.n;omega,by show r.n≤_;omega⟩
 have hc:(parseC b).getD 0 < 2^64:=by
  cases h:parseC b with
  | none=>decide
  | some c=>exact ((parseC_iff b c).1 h).1
 have hn:=numberL_lt b
 intro p hp
 unfold candsP at hp
 simp only[List.mem_cons,List.not_mem_nil,or_false] at hp
 rcases hp with rfl | rfl | rfl | rfl | rfl | rfl
 ·exact⟨zeroR_ok,hn,by show (0:Nat) < 2^64;decide⟩
 ·exact⟨zeroR_ok,hn,by show (0:Nat) < 2^64;decide⟩
 ·exact⟨zeroR_ok,by show (0:Nat) < 2^64;decide,by show (0:Nat) < 2^64;decide⟩
 ·exact⟨zeroR_ok,by show (0:Nat) < 2^64;decide,by show (0:Nat) < 2^64;decide⟩
 ·exact⟨hr,by show (0:Nat) < 2^64;decide,by show (0:Nat) < 2^64;decide⟩
 ·exact⟨zeroR_ok,by show (0:Nat) < 2^64;decide,hc⟩
theorem parseP_iff (s:List UInt8) (p:Prd):parseP s=some p↔p.Ok∧textP p=s∧s≠[]:=by
 constructor
 ·intro h
  unfold parseP at h
  by_cases hl:512 < s.length
  ·rw[if_pos hl] at h;cases h
  ·rw[if_neg hl] at h
   cases hb:blankL s with
   | none=>rw[hb] at h;cases h
   | some k =>
    rw[hb] at h
    have h:(candsP (s.drop (k+1))).find? (fun p=>decide (textP p=s))=some p:=h
    have h1:textP p=s:=of_decide_eq_true (List.find?_some (p:=fun p=>decide (textP p=s)) h)
    refine⟨cands_ok _ p (List.mem_of_find?_eq_some h),h1,?_⟩
    rintro rfl
    cases hb
 ·rintro ⟨ho,rfl,hne⟩
  obtain⟨h2,-,hl,he⟩:=textP_ne p hne
  have hb:blankL (textP p)=some (wordsP p).1.length:=by rw[he];exact blankL_front _ _ (wordsP_32 p h2)
  have hd:(textP p).drop ((wordsP p).1.length+1)=(wordsP p).2:=by
   rw[he,←List.drop_drop,List.drop_left];rfl
  have hlen:¬512 < (textP p).length:=by rw[he,List.length_append,List.length_cons];omega
  unfold parseP
  rw[if_neg hlen,hb]
  show (candsP ((textP p).drop ((wordsP p).1.length+1))).find? (fun q=>decide (textP q=textP p))=some p
  rw[hd]
  cases hf:(candsP (wordsP p).2).find? (fun q=>decide (textP q=textP p)) with
  | none =>
   have:=List.find?_eq_none.1 hf p (cands_self p ho hne)
   simp at this
  | some q =>
   have h1:textP q=textP p:=of_decide_eq_true (List.find?_some (p:=fun q=>decide (textP q=textP p)) hf)
   rw[textP_inj q p (cands_ok _ q (List.mem_of_find?_eq_some hf)) ho h1 (by rw[h1];exact hne)]
theorem row_part' {w:World} {g:Nat} {t:TypeId} {R V U:List Value} (e:R=V++U) (h:Row w g t R):w.rangeAt g 0 V:=row_part (by rw[e] at h;exact h)
theorem rng_n' {w:World} {g:Nat} {t:TypeId} {R V:List Value} {n:Int} (hl:V.length=17) (e:R=V++[Value.int .i64 n]) (h:Row w g t R):w.cell? ⟨g,17,none⟩=some (.int .i64 n):=rng_n hl (by rw[e] at h;exact h)
theorem eight_of (l:List Nat) (h:l.length=8):∃a b c d e f g i:Nat,l=[a,b,c,d,e,f,g,i]:=by
 match l,h with
 | [a,b,c,d,e,f,g,i],_=>exact⟨a,b,c,d,e,f,g,i,rfl⟩
def zB:List Bool→Nat
 | []=>0
 | z :: zs=>if z then zB zs+1 else 0
def bestB (l:List Bool):Nat:=(List.range l.length).foldl (fun best i=>if zB (l.drop i) > zB (l.drop best) then i else best) 0
theorem zB_eq (l:List Nat):zB (l.map fun n=>decide (n=0))=zerosL l:=by
 induction l with
 | nil=>rfl
 | cons n l ih=>rw[List.map_cons,zB,zerosL,ih];by_cases h:n=0<;>simp[h]
theorem bestB_eq (l:List Nat):bestB (l.map fun n=>decide (n=0))=bestL l:=by
 unfold bestB bestL
 simp only[←List.map_drop,zB_eq,List.length_map]
theorem bestL_le:∀a b c d e f g h:Bool,bestB [a,b,c,d,e,f,g,h] + zB ([a,b,c,d,e,f,g,h].drop (bestB [a,b,c,d,e,f,g,h]))≤8:=by decide
theorem best_le (l:List Nat) (h8:l.length=8):bestL l+zerosL (l.drop (bestL l))≤8:=by
 rw[←bestB_eq,←zB_eq,List.map_drop]
 obtain⟨a,b,c,d,e,f,g,h,rfl⟩:=eight_of l h8
 exact bestL_le _ _ _ _ _ _ _ _
theorem glue_len1 (x:UInt8) (ps:List (List UInt8)) (m:Nat) (hm:∀p∈ps,p.length≤m):(glueL x ps).length+1≤(m+1)*ps.length+(if ps=[] then 1 else 0):=by
 induction ps with
 | nil=>simp[glueL]
 | cons p ps ih =>
  have h1:=hm p (List.mem_cons_self ..)
  have h2:=ih (fun q hq=>hm q (List.mem_cons_of_mem _ hq))
  cases ps with
  | nil=>show p.length+1≤_;simp;omega
  | cons q ps =>
   rw[glueL_cons x p (q :: ps) (by simp),List.length_append,List.length_cons,if_neg (by simp)]
   rw[if_neg (by simp)] at h2
   rw[List.length_cons,Nat.mul_succ]
   omega
theorem joinN_len5 (l:List Nat) (hm:∀n∈l,n≤65535):(joinN l).length≤5*l.length:=by
 rw[joinN_glue]
 have:=glue_len1 58 (l.map (numL 16)) 4 (by
  intro p hp
  obtain⟨n,hn,rfl⟩:=List.mem_map.1 hp
  exact numL16_len n (hm n hn))
 rw[List.length_map] at this
 split at this<;>omega
theorem joinN_len8 (l:List Nat) (h8:l.length=8) (hm:∀n∈l,n≤65535):(joinN l).length≤39:=by
 rw[joinN_glue]
 have:=glue_len1 58 (l.map (numL 16)) 4 (by
  intro p hp
  obtain⟨n,hn,rfl⟩:=List.mem_map.1 hp
  exact numL16_len n (hm n hn))
 rw[List.length_map,h8,if_neg (by intro h;have:=congrArg List.length h;simp[h8] at this)] at this
 omega
theorem textA_len (a:Adr):(textA a).length≤39:=by
 unfold textA
 split
 ·split
  ·unfold textN
   dsimp only
   have h8:=numsA_len a
   have hm:=numsA_le a
   split
   ·exact joinN_len8 _ h8 hm
   ·rename_i hz
    have h1:=joinN_len5 ((numsA a).take (bestL (numsA a))) (fun n hn=>hm n (List.mem_of_mem_take hn))
    have h2:=joinN_len5 ((numsA a).drop (bestL (numsA a)+zerosL ((numsA a).drop (bestL (numsA a))))) (fun n hn=>hm n (List.mem_of_mem_drop hn))
    have h3:=best_le (numsA a) h8
    rw[List.length_take] at h1
    rw[List.length_drop] at h2
    rw[List.length_append,List.length_cons,List.length_cons]
    omega
  ·have k0:=numL10_len (a.b.getD 0 0).toNat (by have:=(a.b.getD 0 0).toNat_lt;omega)
   have k1:=numL10_len (a.b.getD 1 0).toNat (by have:=(a.b.getD 1 0).toNat_lt;omega)
   have k2:=numL10_len (a.b.getD 2 0).toNat (by have:=(a.b.getD 2 0).toNat_lt;omega)
   have k3:=numL10_len (a.b.getD 3 0).toNat (by have:=(a.b.getD 3 0).toNat_lt;omega)
   simp only[List.length_append,List.length_cons]
   omega
 ·simp
theorem name16_iff (s:List UInt8):name16 s=(decide (1≤s.length)&&decide (s.length≤16)&&s.all lowB):=rfl
theorem run_append_k {P:Program} (w:World) (base:Nat) (t ty e:TypeId) (i:TypeInfo) (z:Value) (k bytes:Nat) (ht:P.underlying t=some (.slice e)) (hi:P.info? e=some i) (hz:i.zero=some z)
  (hsize:i.size=k) (hk:0 < k) (hby:i.bytes=bytes) (hzs:z.cells.size=k) (v:Value) (n:Nat) (xs:List Value) (hown:w.ownsRow base e k v n xs)
  (A:Option Addr) (m c:Nat) (news:List Value) (hm:news.length=m*k) (hsl:Sl w A (c*k) news) (h1:∀u∈news,u.oneCell'=true)
  (h63:n+m≤maxLen) (hbytes:(n+m)*bytes≤140737488355328) (hbase:base≤w.heap.size) :
  ∃v' w',(Builtin.append_ #[t,t] ty #[v,.slice A m c]).run P w=.ok v' w'∧w'.ownsRow base e k v' (n+m) (xs++news)∧w.grownBy w' v.ownBlock:=by
 cases A with
 | none =>
  have hc:=hsl.bare rfl
  have hl:=hsl.room
  have hm0:m=0:=by
   have h0:m*k=0:=by omega
   rcases Nat.mul_eq_zero.1 h0 with h | h
   ·exact h
   ·omega
  have hc0:c=0:=by
   rcases Nat.mul_eq_zero.1 hc with h | h
   ·exact h
   ·omega
  subst hm0 hc0
  obtain rfl:news=[]:=List.eq_nil_of_length_eq_zero (by omega)
  exact⟨v,w,run_append_owned_none (P:=P) (w:=w) base t ty e i k ht hi v n xs hown,by simpa using hown,World.grownBy.refl w _⟩
 | some ad =>
  obtain⟨v',w',h1',h2,h3,_⟩:=run_append_own (P:=P) w base t ty e i z k bytes ht hi hz hsize hby hzs hk v n xs hown ad m c news hm hsl.rd.at_add h1 h63 hbytes hbase
  exact⟨v',w',h1',h2,h3⟩
theorem step_append_k {P:Program} {w:World} {ops:Array Oper} {o:Oper} {a:Act} {K:Act→World→Prop} {Q:Exit→Act→World→Prop} {E:Prop} (dst:Option Tmp) (hdst:o.dst=dst) (hgd:Region.wanted o (yielded ops a.tmps)=true) (s x:Operand) (t:TypeId)
  (ho:o.op=.call { callee:=.builtin .append,args:=#[s,x],argTypes:=#[t,t] })
  (base:Nat) (e:TypeId) (i:TypeInfo) (z:Value) (k bytes:Nat) (ht:P.underlying t=some (.slice e)) (hi:P.info? e=some i) (hz:i.zero=some z)
  (hsize:i.size=k) (hk:0 < k) (hby:i.bytes=bytes) (hzs:z.cells.size=k)
  (v:Value) (n:Nat) (xs:List Value) (hs:a.eval s=v) (hown:w.ownsRow base e k v n xs)
  (A:Option Addr) (m c:Nat) (news:List Value) (hx:a.eval x=.slice A m c) (hm:news.length=m*k) (hsl:Sl w A (c*k) news) (h1:∀u∈news,u.oneCell'=true)
  (h63:n+m≤maxLen) (hbytes:(n+m)*bytes≤140737488355328) (hbase:base≤w.heap.size)
  (h:∀v' w',w'.ownsRow base e k v' (n+m) (xs++news)→w.grownBy w' v.ownBlock→K (a.put dst v') w') :
  if Region.wanted o (yielded ops a.tmps)=true then Oper.wp P o a w K Q else E:=by
 subst hdst
 rw[if_pos hgd]
 obtain⟨v',w',hrun,h2,h3⟩:=run_append_k (P:=P) w base t o.type e i z k bytes ht hi hz hsize hk hby hzs v n xs hown A m c news hm hsl h1 h63 hbytes hbase
 unfold Oper.wp execOp
 simp only[ho,resolve,invoke,builtin,Sem.run_bind,Sem.run_pure,Result.andThen_ok,List.map_toArray,List.map_cons,List.map_nil,hs,hx,hrun]
 exact h v' w' h2 h3
open Go.ChangeShapes Go.WideShapes Go.ChangeAt Go.RowKit
theorem bstr_data (s:ByteArray):bstr s.data.toList=s:=by obtain⟨⟨l⟩⟩:=s;rfl
theorem cells_str:Tryz.prog.cellsOf 9=1:=by kernel_rfl
theorem weights_strs {H:Type} {P:Program} {e:TypeId} (ss:List ByteArray) (s:ByteArray) (h:s∈ss):s.data.toList.length∈DataW.weightsAll P e (strs ss:List (DataW H)):=by
 induction ss with
 | nil=>cases h
 | cons q ss ih =>
  show _∈DataW.weights P e (.lit (.string q.data.toList))++DataW.weightsAll P e (strs ss)
  rcases List.mem_cons.1 h with rfl | h
  ·exact List.mem_append_left _ (by simp[DataW.weights])
  ·exact List.mem_append_right _ (ih h)
theorem open_strSlice {H:Type} {enc:TypeId×Value→H} {W:World} {held:Bool} {b1:Nat} {a:Option Addr} {len cap:Nat} {d:DataW H} {p:List MemPlace} {ts:List TypeId} {ds:List (DataW H)}
  (h:DataW.Trod enc Tryz.prog W b1 (fun _=>true) held 23 (.slice a len cap) d p) (hsz:(DataW.weightsEach Tryz.prog ts ds).all (·≤reachBytes)=true) {j:Nat} (ht:ts[j]?=some 23) (hd:ds[j]?=some d) :
  ∃ss:List (List UInt8),len=ss.length∧Sl W a cap (strsV ss)∧ss.length≤9223372036854775807∧∀l∈ss,l.length≤140737488351232:=by
 obtain⟨fuel,hf⟩:=h
 rcases open_strings Tryz.underlying23 Tryz.underlying9 cells_str hf with ⟨hcs,_⟩ | ⟨x,l,c,bs,hcs,_,hl,hm,hz,hx,hcell,_⟩
 ·simp[Value.cells] at hcs
  obtain⟨rfl,rfl,rfl⟩:=hcs
  exact⟨[],rfl,⟨.inl rfl,Nat.le_refl _,fun _=>rfl⟩,by simp,fun l hl=>by cases hl⟩
 ·simp[Value.cells] at hcs
  obtain⟨rfl,rfl,rfl⟩:=hcs
  simp only[Prod.mk.injEq] at hx
  obtain⟨rfl,_⟩:=hx
  have hbl:bs.length=cap:=by simpa using hz
  unfold maxLen at hm
  have hlen:((bs.take len).map fun s=>s.data.toList).length=len:=by simp;omega
  have hsv:strsV ((bs.take len).map fun s=>s.data.toList)=(bs.take len).map Value.string:=by
   unfold strsV
   rw[List.map_map]
   exact List.map_congr_left fun s _=>by show Value.string (bstr s.data.toList)=_;rw[bstr_data]
  refine⟨(bs.take len).map fun s=>s.data.toList,hlen.symm,⟨?_,by rw[length_strsV,hlen];exact hl,fun h=>by cases h⟩,by rw[hlen];omega,fun q hq=>?_⟩
  ·by_cases h0:len=0
   ·subst h0;exact .inl rfl
   ·obtain⟨b,off,spot⟩:=x
    have hc0:=hcell 0 (by omega)
    have hspot:spot=none:=by simpa [Addr.add] using World.cell?_spot hc0
    subst hspot
    refine .inr ⟨b,off,rfl,?_,fun i hi=>?_⟩
    ·have:=World.block_lt_of_cell? W _ hc0
     rw[Addr.add_lit] at this;exact this
    ·rw[length_strsV,hlen] at hi
     have hci:=hcell i (by omega)
     rw[Addr.add_lit] at hci
     rw[hci,hsv]
     simp[hi,show i < bs.length by omega]
  ·obtain⟨s,hs,rfl⟩:=List.mem_map.1 hq
   have hw:=weights_strs (H:=H) (P:=Tryz.prog) (e:=9) _ _ hs
   have h1:s.data.toList.length≤reachBytes:=of_decide_eq_true (List.all_eq_true.1 hsz _ (DataW.weights_mem_each ht hd s.data.toList.length (by
    simp only[DataW.weights,Tryz.underlying23]
    exact List.mem_cons_of_mem _ (List.mem_append_left _ hw))))
   unfold reachBytes at h1
   exact h1
end Go.Proofs.YtjieebmcbpdeiaaGreatDoor
namespace Go.Proofs.YtjieebmcbpdeiaaGreatDoor
set_option maxRecDepth 100000
open Go Go.RowKit
theorem okAt_zero (l:List (List UInt8)) (i:Nat) (h:i=0):okAt l i=name16 (l.getD i []):=by
 subst h
 unfold okAt
 simp
theorem okAt_pos (l:List (List UInt8)) (i:Nat) (h:0 < i):okAt l i=(name16 (l.getD i [])&&Op.bytesLess (l.getD (i - 1) []) (l.getD i [])):=by
 unfold okAt
 rw[decide_eq_false (by omega:¬i=0),Bool.false_or]
theorem okAt_next (l:List (List UInt8)) (k:Nat) (h:∀j < k,okAt l j=true) (hk:okAt l k=true):∀j < k+1,okAt l j=true:=by
 intro j hj
 rcases Nat.lt_succ_iff_lt_or_eq.1 hj with h1 | h1
 ·exact h j h1
 ·rw[h1];exact hk
def GaveRow (o:Option (List (List UInt8))) (w:World) (e:Ending) (w':World):Prop :=
 ∃(A:Option Addr) (c:Nat),e=.returned (.tuple #[.slice A (o.getD []).length c,.bool o.isSome])∧Sl w' A c (strsV (o.getD []))∧Below w.heap.size w w'
theorem sl_none16 (w:World):Sl w none 0 (strsV []):=⟨.inl (by simp[strsV]),by simp[strsV],fun _=>rfl⟩
theorem glue_len (x:UInt8) (l:List (List UInt8)):(glueL x l).length≤sumS l:=by
 induction l with
 | nil=>exact Nat.zero_le _
 | cons p ps ih =>
  by_cases he:ps=[]
  ·subst he
   show p.length≤_
   unfold sumS;simp
  ·rw[glueL_cons x p ps he,List.length_append,List.length_cons]
   have e:sumS (p :: ps)=(p.length+1)+sumS ps:=by unfold sumS;simp
   omega
def rankC (b:Nat):Int:=if negC b then -(magC b:Int) else (magC b:Int)
theorem cmp_congr {x y u v:Int} (h1:x < y↔u < v) (h2:x=y↔u=v):compare x y=compare u v:=by
 show compareOfLessAndEq x y=compareOfLessAndEq u v
 unfold compareOfLessAndEq
 by_cases a:x < y
 ·rw[if_pos a,if_pos (h1.1 a)]
 ·rw[if_neg a,if_neg (fun h=>a (h1.2 h))]
  by_cases b:x=y
  ·rw[if_pos b,if_pos (h2.1 b)]
  ·rw[if_neg b,if_neg (fun h=>b (h2.2 h))]
theorem cmp_lt {x y:Int} (h:x < y):compare x y=.lt:=by
 show compareOfLessAndEq x y=.lt
 unfold compareOfLessAndEq
 rw[if_pos h]
theorem cmp_gt {x y:Int} (h:y < x):compare x y=.gt:=by
 show compareOfLessAndEq x y=.gt
 unfold compareOfLessAndEq
 rw[if_neg (by omega),if_neg (by omega)]
theorem sig_mono (a b:Nat) (base:Int) (ha:base≤powC a) (hb:base≤powC b) (h:a < b):sigC a*2^(powC a - base).toNat < sigC b*2^(powC b - base).toNat:=by
 have hP:powC a≤powC b:=by unfold powC;split<;>split<;>omega
 obtain⟨k,hk⟩:∃k,k=(powC b - powC a).toNat:=⟨_,rfl⟩
 have e:(powC b - base).toNat=(powC a - base).toNat+k:=by omega
 rw[e,Nat.pow_add,←Nat.mul_assoc,Nat.mul_right_comm]
 refine Nat.mul_lt_mul_of_pos_right ?_ (Nat.pow_pos (by omega))
 by_cases h0:k=0
 ·subst h0
  rw[Nat.pow_zero,Nat.mul_one]
  have hE:powC a=powC b:=by omega
  unfold powC at hE
  unfold sigC
  split at hE<;>split at hE<;>(try split)<;>(try split)<;>omega
 ·have h2:2≤2^k:=by
   have:2^1≤2^k:=Nat.pow_le_pow_right (by omega) (by omega)
   omega
  have hb52:2^52≤sigC b:=by
   unfold sigC
   split
   ·omega
   ·exfalso
    unfold powC at hk hP
    split at hk<;>split at hP<;>omega
  have ha53:sigC a < 2^53:=by unfold sigC;split<;>omega
  have:2^52*2≤sigC b*2^k:=Nat.mul_le_mul hb52 h2
  omega
theorem sig_mono_iff (a b:Nat) (base:Int) (ha:base≤powC a) (hb:base≤powC b):(sigC a*2^(powC a - base).toNat < sigC b*2^(powC b - base).toNat↔a < b)∧(sigC a*2^(powC a - base).toNat=sigC b*2^(powC b - base).toNat↔a=b):=by
 rcases Nat.lt_trichotomy a b with h | h | h
 ·have:=sig_mono a b base ha hb h
  exact⟨⟨fun _=>h,fun _=>this⟩,⟨fun e=>by omega,fun e=>by omega⟩⟩
 ·subst h
  exact⟨⟨fun e=>by omega,fun e=>by omega⟩,⟨fun _=>rfl,fun _=>rfl⟩⟩
 ·have:=sig_mono b a base hb ha h
  exact⟨⟨fun e=>by omega,fun e=>by omega⟩,⟨fun e=>by omega,fun e=>by omega⟩⟩
theorem read_fin (b:Nat) (hb:b < 2^64) (h:magC b < 2047*2^52):Ieee.double.read b=.number (negC b) (sigC (magC b)) (powC (magC b)):=by
 have hs:Ieee.double.signWeight=2^63:=rfl
 have hbi:Ieee.double.binade=2^52:=rfl
 have hin:Ieee.double.infRung=2047*2^52:=rfl
 have hl:Ieee.double.leastPlace=-1074:=rfl
 have hn:(b/2^63%2==1)=negC b:=by
  unfold negC
  rw[show b/2^63%2=b/2^63 by omega]
  exact (Bool.eq_iff_iff).2 (by rw[beq_iff_eq,decide_eq_true_iff])
 unfold Ieee.Format.read
 simp only[hs,hbi,hin,hl,hn]
 show (if magC b < 2^52 then _ else if magC b < 2047*2^52 then _ else _)=_
 unfold sigC powC
 by_cases h52:magC b < 2^52
 ·rw[if_pos h52,if_neg (by omega),if_neg (by omega)]
  congr 1
  show magC b=_
  omega
 ·rw[if_neg h52,if_pos h,if_pos (by omega),if_pos (by omega)]
  show Ieee.Datum.number _ (2^52+magC b%2^52) (-1074+((magC b/2^52 - 1:Nat):Int))=_
  congr 1<;>omega
theorem read_inf (b:Nat) (hb:b < 2^64) (h:magC b=2047*2^52):Ieee.double.read b=.infinity (negC b):=by
 have hs:Ieee.double.signWeight=2^63:=rfl
 have hbi:Ieee.double.binade=2^52:=rfl
 have hin:Ieee.double.infRung=2047*2^52:=rfl
 have hn:(b/2^63%2==1)=negC b:=by
  unfold negC
  rw[show b/2^63%2=b/2^63 by omega]
  exact (Bool.eq_iff_iff).2 (by rw[beq_iff_eq,decide_eq_true_iff])
 unfold Ieee.Format.read
 simp only[hs,hbi,hin,hn]
 show (if magC b < 2^52 then _ else if magC b < 2047*2^52 then _ else if magC b=2047*2^52 then _ else _)=_
 rw[if_neg (by omega),if_neg (by omega),if_pos h]
theorem read_nan (b:Nat) (h:nanC b=true):∃s f,Ieee.double.read b=.nan s f:=by
 have h:=of_decide_eq_true (show decide (2047*2^52 < magC b)=true from h)
 have hs:Ieee.double.signWeight=2^63:=rfl
 have hbi:Ieee.double.binade=2^52:=rfl
 have hin:Ieee.double.infRung=2047*2^52:=rfl
 unfold Ieee.Format.read
 simp only[hs,hbi,hin]
 refine⟨b/2^63%2==1,magC b - 2047*2^52,?_⟩
 show (if magC b < 2^52 then _ else if magC b < 2047*2^52 then _ else if magC b=2047*2^52 then _ else _)=_
 rw[if_neg (by omega),if_neg (by omega),if_neg (by omega)];rfl
theorem shl (m k:Nat):m <<< k=m*2^k:=Nat.shiftLeft_eq m k
theorem sig_zero (a:Nat):sigC a=0↔a=0:=by
 unfold sigC;split<;>omega
theorem order_rank (a b:Nat) (ha:a < 2^64) (hb:b < 2^64):Ieee.double.order a b=if nanC a=true∨nanC b=true then none else some (compare (rankC a) (rankC b)):=by
 unfold Ieee.Format.order
 by_cases na:nanC a=true
 ·obtain⟨s,f,e⟩:=read_nan a na
  rw[e,if_pos (.inl na)]
  cases Ieee.double.read b<;>rfl
 ·by_cases nb:nanC b=true
  ·obtain⟨s,f,e⟩:=read_nan b nb
   rw[e,if_pos (.inr nb)]
   cases Ieee.double.read a<;>rfl
  ·rw[if_neg (by rintro (h | h);exact na h;exact nb h)]
   have la:magC a≤2047*2^52:=by
    have:¬2047*2^52 < magC a:=fun h=>na (decide_eq_true h)
    omega
   have lb:magC b≤2047*2^52:=by
    have:¬2047*2^52 < magC b:=fun h=>nb (decide_eq_true h)
    omega
   by_cases ia:magC a=2047*2^52
   ·rw[read_inf a ha ia]
    by_cases ib:magC b=2047*2^52
    ·rw[read_inf b hb ib]
     unfold rankC
     rw[ia,ib]
     cases negC a<;>cases negC b<;>rfl
    ·rw[read_fin b hb (by omega)]
     unfold rankC
     show some (if negC a=true then Ordering.lt else Ordering.gt)=_
     congr 1
     cases negC a<;>cases negC b<;>simp only[Bool.false_eq_true,if_true,if_false]
     all_goals first
      | exact (cmp_gt (by omega)).symm
      | exact (cmp_lt (by omega)).symm
   ·rw[read_fin a ha (by omega)]
    by_cases ib:magC b=2047*2^52
    ·rw[read_inf b hb ib]
     unfold rankC
     show some (if negC b=true then Ordering.gt else Ordering.lt)=_
     congr 1
     cases negC a<;>cases negC b<;>simp only[Bool.false_eq_true,if_true,if_false]
     all_goals first
      | exact (cmp_gt (by omega)).symm
      | exact (cmp_lt (by omega)).symm
    ·rw[read_fin b hb (by omega)]
     obtain⟨m1,m2⟩:=sig_mono_iff (magC a) (magC b) (min (powC (magC a)) (powC (magC b))) (by omega) (by omega)
     have z1:sigC (magC a)*2^(powC (magC a) - min (powC (magC a)) (powC (magC b))).toNat=0↔magC a=0:=by
      rw[Nat.mul_eq_zero,sig_zero]
      exact⟨fun h=>h.elim id fun h=>absurd h (Nat.ne_of_gt (Nat.pow_pos (by omega))),.inl⟩
     have z2:sigC (magC b)*2^(powC (magC b) - min (powC (magC a)) (powC (magC b))).toNat=0↔magC b=0:=by
      rw[Nat.mul_eq_zero,sig_zero]
      exact⟨fun h=>h.elim id fun h=>absurd h (Nat.ne_of_gt (Nat.pow_pos (by omega))),.inl⟩
     show some (compare (Ieee.signed (negC a) (sigC (magC a)) _) (Ieee.signed (negC b) (sigC (magC b)) _))=_
     congr 1
     unfold Ieee.signed rankC
     simp only[shl]
     generalize sigC (magC a)*2^(powC (magC a) - min (powC (magC a)) (powC (magC b))).toNat=A at *
     generalize sigC (magC b)*2^(powC (magC b) - min (powC (magC a)) (powC (magC b))).toNat=B at *
     generalize magC a=x at *
     generalize magC b=y at *
     cases negC a<;>cases negC b<;>simp only[Bool.false_eq_true,if_true,if_false]
     all_goals refine cmp_congr ?_ ?_
     all_goals constructor<;>intro h<;>omega
theorem log2_pow (M k:Nat) (h:0 < M):(M*2^k).log2=M.log2+k:=by
 have h1:=Nat.log2_self_le (n:=M) (by omega)
 have h2:M < 2^(M.log2+1):=(Nat.log2_lt (by omega)).1 (Nat.lt_succ_self _)
 have hp:0 < 2^k:=Nat.pow_pos (by omega)
 have h3:2^(M.log2+k)≤M*2^k:=by rw[Nat.pow_add];exact Nat.mul_le_mul_right _ h1
 have h4:M*2^k < 2^(M.log2+k+1):=by
  rw[show M.log2+k+1=(M.log2+1)+k by omega,Nat.pow_add]
  exact Nat.mul_lt_mul_of_pos_right h2 hp
 have h0:M*2^k≠0:=Nat.ne_of_gt (Nat.mul_pos h hp)
 have a:(M*2^k).log2 < M.log2+k+1:=(Nat.log2_lt h0).2 h4
 have b:¬(M*2^k).log2 < M.log2+k:=fun h5=>by have:=(Nat.log2_lt h0).1 h5;omega
 omega
theorem cut_exact (neg:Bool) (M d:Nat) (h:0 < M):Ieee.Toward.even.cut neg (M*2^d) d=M:=by
 unfold Ieee.Toward.cut
 have e:min d ((M*2^d).log2+2)=d:=by rw[log2_pow M d h];omega
 have hp:0 < 2^d:=Nat.pow_pos (by omega)
 simp only[e,Nat.one_shiftLeft,Nat.mul_div_cancel _ hp,Nat.mul_mod_left,Nat.mul_zero]
 rw[decide_eq_false (by omega),show ((2^d:Nat)==0)=false from by rw[beq_eq_false_iff_ne];omega]
 rfl
theorem rung_min (E M Q:Nat) (hE:E≤2045) (h1:Q≤M) (h2:M < 2*Q):min (E*Q+M) (2047*Q)=(E+1)*Q+M - Q:=by
 have h:E*Q≤2045*Q:=Nat.mul_le_mul_right _ hE
 rw[Nat.add_mul,Nat.one_mul]
 generalize E*Q=X at *
 omega
theorem nearest_fit (neg:Bool) (mag:Nat) (place:Int) (M:Nat) (P:Int) (h:FitC M P)
  (hv:(place≤P∧mag=M*2^(P - place).toNat)∨(P < place∧M=mag*2^(place - P).toNat)) :
  Ieee.double.nearest neg mag place=Ieee.double.word neg (bitsC M P):=by
 have hM:0 < M:=by rcases h with ⟨h,_,_⟩ | ⟨h,_,_,_⟩<;>omega
 have hm:0 < mag:=by
  rcases hv with ⟨_,rfl⟩ | ⟨_,e⟩
  ·exact Nat.mul_pos hM (Nat.pow_pos (by omega))
  ·rcases Nat.eq_zero_or_pos mag with h0 | h0
   ·rw[h0,Nat.zero_mul] at e;omega
   ·exact h0
 have hl:place+(mag.log2:Int)=P+(M.log2:Int):=by
  rcases hv with ⟨h1,rfl⟩ | ⟨h1,rfl⟩
  ·rw[log2_pow M _ hM];omega
  ·rw[log2_pow mag _ hm];omega
 have hlast:max (P+(M.log2:Int) - 52) (-1074)=P:=by
  rcases h with ⟨h1,h2,rfl⟩ | ⟨h1,h2,h3,h4⟩
  ·have:M.log2 < 52:=(Nat.log2_lt (by omega)).2 h2
   omega
  ·have a:M.log2 < 53:=(Nat.log2_lt (by omega)).2 h2
   have b:¬M.log2 < 52:=fun h5=>by have:=(Nat.log2_lt (by omega)).1 h5;omega
   omega
 unfold Ieee.Format.nearest
 rw[if_neg (by omega)]
 have hf:((Ieee.double.fractionBits:Nat):Int)=52:=rfl
 have hlp:Ieee.double.leastPlace=-1074:=rfl
 have hbi:Ieee.double.binade=2^52:=rfl
 have hin:Ieee.double.infRung=2047*2^52:=rfl
 simp only[hf,hlp,hbi,hin,hl,hlast,shl]
 have hk:Ieee.Toward.even.cut neg (mag*2^(place - P).toNat) (P - place).toNat=M:=by
  rcases hv with ⟨h1,rfl⟩ | ⟨h1,rfl⟩
  ·rw[show (place - P).toNat=0 by omega,Nat.pow_zero,Nat.mul_one]
   exact cut_exact neg M _ hM
  ·have:=cut_exact neg (mag*2^(place - P).toNat) 0 hM
   rw[Nat.pow_zero,Nat.mul_one] at this
   rw[show (P - place).toNat=0 by omega];exact this
 rw[hk]
 congr 1
 unfold bitsC
 rcases h with ⟨h1,h2,rfl⟩ | ⟨h1,h2,h3,h4⟩
 ·rw[if_pos h2,show ((-1074:Int) - -1074).toNat=0 by decide,Nat.zero_mul,Nat.zero_add]
  exact Nat.min_eq_left (by omega)
 ·rw[if_neg (by omega)]
  generalize hE:(P - -1074).toNat=E
  rw[show (P+1075).toNat=E+1 by omega]
  have hE2:E≤2045:=by omega
  exact rung_min E M (2^52) hE2 h1 (by omega)
theorem read_one:Ieee.double.read 4607182418800017408=.number false (2^52) (-52):=by decide +kernel
theorem mul_unit (s:Bool) (x b:Nat) (hx:Ieee.double.read x=.number s (2^52) (-52)) (hb:b < 2^64) (hf:FinC (magC b)):Ieee.double.mul x b=some (Ieee.double.word (s ^^ negC b) (magC b)):=by
 unfold Ieee.Format.mul
 rw[hx,read_fin b hb hf.2]
 obtain⟨g1,g2⟩:=fit_of (magC b) hf
 show some (Ieee.double.nearest (s ^^ negC b) (2^52*sigC (magC b)) (-52+powC (magC b)))=_
 congr 1
 rw[nearest_fit (s ^^ negC b) _ _ (sigC (magC b)) (powC (magC b)) g1 (.inl ⟨by omega,by rw[show (powC (magC b) - (-52+powC (magC b))).toNat=52 by omega,Nat.mul_comm]⟩),g2]
@[go_sem] theorem run_f64bits (b:Nat) (w:World):(callFunc 78 #[.float .f64 b]).run Tryz.prog w=.ok (.value (.int .u64 b)) w:=by
 rw[run_callFunc_extern (fn:=Tryz.f78) (e:=Extern.MathFloatBits.float64bits) Tryz.func78 (by kernel_rfl) (by kernel_rfl) (by kernel_rfl) (by kernel_rfl)];rfl
@[go_sem] theorem run_f64from (n:Int) (w:World):(callFunc 23 #[.int .u64 n]).run Tryz.prog w=.ok (.value (.float .f64 n.toNat)) w:=by
 rw[run_callFunc_extern (fn:=Tryz.f23) (e:=Extern.MathFloatBits.float64frombits) Tryz.func23 (by kernel_rfl) (by kernel_rfl) (by kernel_rfl) (by kernel_rfl)];rfl
theorem fnan_any (w:World):Calls Tryz.prog 22 #[] w fun e w'=>e=.returned (.float .f64 9221120237041090561)∧w=w':=by
 go_enter Tryz.func22,Tryz.ntmps22
 go_wp2
 go_ret
 exact⟨rfl,rfl⟩
theorem finf_any (w:World):Calls Tryz.prog 96 #[.int .i64 1] w fun e w'=>e=.returned (.float .f64 9218868437227405312)∧w=w':=by
 go_enter Tryz.func96,Tryz.ntmps96
 go_wp2
 go_ret
 exact⟨rfl,rfl⟩
def atMostC (a b:Nat):Bool:=!nanC a&&!nanC b&&decide (rankC a≤rankC b)
theorem order_of (a b:Nat) (ha:a < 2^64) (hb:b < 2^64):FloatKind.f64.format.order a b=if nanC a=true∨nanC b=true then none else some (compare (rankC a) (rankC b)):=order_rank a b ha hb
theorem compare_self (x:Int):compare x x=.eq:=by
 show compareOfLessAndEq x x=.eq
 unfold compareOfLessAndEq
 rw[if_neg (by omega),if_pos rfl]
theorem order_nan (a:Nat) (ha:a < 2^64) (h:nanC a=true):FloatKind.f64.format.order a a=none:=by rw[order_of a a ha ha,if_pos (.inl h)]
theorem order_eq (a:Nat) (ha:a < 2^64) (h:nanC a=false):FloatKind.f64.format.order a a=some .eq:=by
 rw[order_of a a ha ha,if_neg (by rw[h];simp),compare_self]
theorem parts_nan (b:Nat) (h:nanC b=true):partsC b=(false,0,0):=by unfold partsC;rw[if_pos h]
theorem parts_edge (b:Nat) (h:nanC b=false) (he:magC b=2047*2^52∨magC b=0):partsC b=(negC b,0,0):=by
 unfold partsC;rw[if_neg (by rw[h];simp),if_pos he]
theorem parts_fin (b:Nat) (h:nanC b=false) (he:¬(magC b=2047*2^52∨magC b=0)):partsC b=(negC b,oddC (sigC (magC b)),powC (magC b)+twosC (sigC (magC b))):=by
 unfold partsC;rw[if_neg (by rw[h];simp),if_neg he]
theorem twos_le (M k:Nat) (h:0 < M) (hk:M < 2^k):twosC M≤k:=by
 obtain⟨o1,o2⟩:=odd_twos M (by omega)
 by_cases hlt:twosC M≤k
 ·exact hlt
 ·exfalso
  have h1:2^k≤2^twosC M:=Nat.pow_le_pow_right (by omega) (by omega)
  have h2:2^twosC M≤oddC M*2^twosC M:=Nat.le_mul_of_pos_left _ (by omega)
  omega
end Go.Proofs.YtjieebmcbpdeiaaGreatDoor
