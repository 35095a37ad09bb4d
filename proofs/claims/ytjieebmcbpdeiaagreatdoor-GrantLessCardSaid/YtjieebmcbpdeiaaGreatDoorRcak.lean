import Derived.Test.YtjieebmcbpdeiaaGreatDoorRcaj
import Derived.Lib.IndexMore
import Derived.Test.YtjieebmcbpdeiaaGreatDoorRcac
import Derived.Test.YtjieebmcbpdeiaaGreatDoorRcae
import Derived.Test.YtjieebmcbpdeiaaGreatDoorRcaa
import Derived.Laws.Runes
import Derived.Laws.RangeAny
import Derived.Lib.ParseIntBCases
import Derived.Shelf.GgClosure.StringsIndexFunc
import Derived.Test.YtjieebmcbpdeiaaGreatDoorRcad
import Derived.Test.YtjieebmcbpdeiaaGreatDoorRcaf
import Derived.Lib.Join
import Derived.Lib.SlicesS
import Derived.Test.YtjieebmcbpdeiaaGreatDoorRcag
import Derived.Lib.ParseIntBMem
import Derived.Lib.AtoiErrMem
namespace Go.Proofs.YtjieebmcbpdeiaaGreatDoor
set_option maxRecDepth 100000
open Go Go.RowKit
theorem mldexp_zero (p:Int) (w:World):Calls Tryz.prog 204 #[.float .f64 0,.int .i64 p] w fun e w'=>e=.returned (.float .f64 0)∧w=w':=by
 have o:FloatKind.f64.format.order 0 0=some .eq:=by decide +kernel
 go_enter Tryz.func204,Tryz.ntmps204
 go_wp2
 go_ret
 exact⟨rfl,rfl⟩
def LdRight (n:Nat) (p:Int) (x:Nat):Prop:=x < 2^64∧(n=0→x=0)∧∀a,FinC a→oddC (sigC a)=n→powC a+twosC (sigC a)=p→x=a
theorem mldexp_any (n:Nat) (p:Int) (hn:n < 2^53) (h1:-4096≤p) (h2:p≤4096) (w:World):Calls Tryz.prog 191 #[.float .f64 (floatOfInt .f64 (n:Int)),.int .i64 p] w fun e w'=>∃x,e=.returned (.float .f64 x)∧LdRight n p x∧w=w':=by
 have hin:∃x,LdRight n p x∧Calls Tryz.prog 204 #[.float .f64 (floatOfInt .f64 (n:Int)),.int .i64 p] w fun e w'=>e=.returned (.float .f64 x)∧w=w':=by
  by_cases h0:n=0
  ·subst h0
   refine⟨0,⟨by omega,fun _=>rfl,fun a hf ho _=>?_⟩,?_⟩
   ·have:=(odd_twos (sigC a) (by have:=sig_pos a hf;omega)).1
    rw[ho] at this
    exact absurd this (by omega)
   ·rw[show floatOfInt .f64 ((0:Nat):Int)=0 from of_zero]
    exact mldexp_zero p w
  ·obtain⟨k,r,hk,hr,e⟩:=up_53 n (by omega) hn
   refine⟨ldC k r p,⟨ld_lt k r p hr,fun h=>absurd h h0,fun a hf ho hp=>ld_right n k r a p hk hr e hf ho hp⟩,?_⟩
   rw[of_int n k r (by omega) hk hr e]
   exact mldexp_in k r p hk hr h1 h2 w
 obtain⟨x,hx,hc⟩:=hin
 have hc:=Lib.hid hc
 have hx:=Lib.hid hx
 generalize floatOfInt .f64 (n:Int)=Y at *
 go_enter Tryz.func191,Tryz.ntmps191
 go_wp2_with (go_at_call 204;refine hc.out.mono ?_;rintro e w' ⟨rfl,rfl⟩)
 go_ret
 exact⟨x,rfl,hx.out,rfl⟩
theorem index_at (t u:List UInt8) (h:(112:UInt8)∉t):Lib.index (t++112 :: u) [112]=t.length:=by
 induction t with
 | nil=>rfl
 | cons c t ih =>
  have hc:c≠112:=fun e=>h (by rw[e];exact List.mem_cons_self ..)
  have ih:=ih (fun hm=>h (List.mem_cons_of_mem _ hm))
  rw[List.cons_append,Lib.index,if_neg (by simp[List.isPrefixOf,Ne.symm hc]),ih,if_neg (by rw[beq_iff_eq];omega),List.length_cons]
  omega
theorem cut_at (t u:List UInt8) (h:(112:UInt8)∉t):(Lib.cut (t++112 :: u) [112]).1=t∧(Lib.cut (t++112 :: u) [112]).2.1=u:=by
 unfold Lib.cut
 rw[index_at t u h,if_pos (by omega)]
 constructor
 ·show (t++112 :: u).take ((t.length:Int)).toNat=t
  rw[Int.toNat_natCast,List.take_left]
 ·show (t++112 :: u).drop (((t.length:Int)).toNat+1)=u
  rw[Int.toNat_natCast,List.drop_append]
  simp
theorem cut_short (s:List UInt8):(Lib.cut s [112]).1.length≤s.length∧(Lib.cut s [112]).2.1.length≤s.length:=by
 unfold Lib.cut
 split
 ·simp;omega
 ·simp
theorem read_right (s:List UInt8) (a:Nat) (h:bodyP s=some a) (hi:s≠[105,110,102]) :
  (a=0∧(pmA 9007199254740991 (Lib.cut s [112]).1).1=0)∨(FinC a∧oddC (sigC a)=(pmA 9007199254740991 (Lib.cut s [112]).1).1∧powC a+twosC (sigC a)=(piA (Lib.cut s [112]).2.1).1):=by
 unfold bodyP at h
 by_cases h0:s=[48]
 ·rw[if_pos h0] at h
  cases h
  exact .inl ⟨rfl,by rw[h0];decide⟩
 ·rw[if_neg h0,if_neg hi] at h
  obtain⟨hf,e⟩:=(magP_iff s a).1 h
  obtain⟨g1,-⟩:=fit_of a hf
  obtain⟨o1,o2⟩:=odd_twos (sigC a) (by have:=sig_pos a hf;omega)
  have hsl:sigC a < 2^53:=by rcases g1 with ⟨_,h,_⟩ | ⟨_,h,_,_⟩<;>omega
  have hpow:-1074≤powC a∧powC a≤971:=by rcases g1 with ⟨_,_,h⟩ | ⟨_,_,h,h'⟩<;>omega
  have ht:=twos_le (sigC a) 53 (sig_pos a hf) hsl
  have hle:oddC (sigC a)≤oddC (sigC a)*2^twosC (sigC a):=Nat.le_mul_of_pos_right _ (Nat.pow_pos (by omega))
  rw[←o2] at hle
  obtain⟨c1,c2⟩:=cut_at (numL 10 (oddC (sigC a))) (intL (powC a+twosC (sigC a))) (fun h=>(num10_signs _ _ h).2.1 rfl)
  rw[←e] at c1 c2
  refine .inr ⟨hf,?_,?_⟩
  ·rw[c1,pm_num _ _ (by omega)]
  ·rw[c2,pi_int _ (by omega) (by omega)]
set_option maxHeartbeats 4000000 in
theorem crsize_any (s:List UInt8) (hs:s.length≤1000) (w:World) (hE:EnvD w):Calls Tryz.prog 158 #[.string (bstr s)] w fun e w'=>∃x,e=.returned (.float .f64 x)∧x < 2^64∧(∀a,bodyP s=some a→x=a)∧(s=[]→x=0)∧Below w.heap.size w w':=by
 by_cases hi:s=[105,110,102]
 ·subst hi
  have he:((bstr [105,110,102]).toList==[105,110,102])=true:=by rw[bstr_toList];rfl
  have hI:=Lib.hid (finf_any w)
  generalize hS:bstr [105,110,102]=S at *
  clear hS
  go_enter Tryz.func158,Tryz.ntmps158
  go_wp2_with (go_at_call 96;refine hI.out.mono ?_;rintro e w' ⟨rfl,rfl⟩)
  go_ret
  exact⟨_,rfl,by omega,fun a h=>by rw[show bodyP [105,110,102]=some (2047*2^52) from rfl] at h;exact Option.some.inj h,(by simp),Below.refl _ _⟩
 ·have he:((bstr s).toList==[105,110,102])=false:=by rw[bstr_toList];exact beq_eq_false_iff_ne.2 hi
  obtain⟨m,hm⟩:=hE.most
  have hz:=size_bstr s
  have hcut:=fun w' (hm:w'.cell? ⟨1,0,none⟩=some (.int .i64 m))=>Tryz.strings_Cut (bstr s) (bstr [112]) m w' (by omega) hm
  obtain⟨s1,s2⟩:=cut_short s
  have hR:=Lib.hid (fun a h=>read_right s a h hi)
  have hN:=Lib.hid (show s=[]→(pmA 9007199254740991 (Lib.cut s [112]).1).1=0 by intro h;rw[h];decide)
  have hcut:Calls Tryz.prog 118 #[.string (bstr s),.string ⟨#[112]⟩] w fun e w'=>e=.returned (.tuple #[.string (bstr (Lib.cut s [112]).1),.string (bstr (Lib.cut s [112]).2.1),.bool (Lib.cut s [112]).2.2])∧Below w.heap.size w w':=by
   refine (hcut w hm).mono ?_
   rintro e w' ⟨rfl,n,rfl⟩
   refine⟨rfl,?_⟩
   clear hR hN
   induction n with
   | zero=>exact Below.refl _ _
   | succ n ih=>exact ih.drew
  have hcut:=Lib.hid hcut
  generalize (Lib.cut s [112]).1=t at *
  generalize (Lib.cut s [112]).2.1=u at *
  generalize (Lib.cut s [112]).2.2=f at *
  have hn1:=(pmA_code 9007199254740991 t).1
  obtain⟨p1,p2,-⟩:=piA_code u
  have hpu:=Lib.hid (fun w' (h:EnvD w')=>pu53_any t (by omega) w' h)
  have hpi:=Lib.hid (fun w' (h:EnvD w')=>pi12_any u (by omega) w' h)
  generalize (pmA 9007199254740991 t).1=n at *
  generalize (piA u).1=p at *
  have hld:=Lib.hid (fun w'=>mldexp_any n p (by omega) (by omega) (by omega) w')
  clear hs s1 s2 hn1 p1 p2 hm
  generalize bstr s=S at *
  go_enter Tryz.func158,Tryz.ntmps158
  go_wp2_with (first
   | (go_at_call 118;refine hcut.out.mono ?_;rintro e w1 ⟨rfl,hb1⟩;have hE1:=hE.next hb1)
   | (go_at_call 116;refine (hpu.out _ hE1).mono ?_;rintro e w2 ⟨v2,rfl,hb2⟩;have hb2:=hb1.trans (hb2.mono hb1.size);have hE2:=hE.next hb2)
   | (go_at_call 190;refine (hpi.out _ hE2).mono ?_;rintro e w3 ⟨v3,rfl,hb3⟩;have hb3:=hb2.trans (hb3.mono hb2.size))
   | (go_at_call 191;refine (hld.out _).mono ?_;rintro e w4 ⟨x,rfl,hx,rfl⟩))
  go_ret
  refine⟨x,rfl,hx.1,fun a h=>?_,fun h=>hx.2.1 (hN.out h),hb3⟩
  rcases hR.out a h with ⟨rfl,h1⟩ | ⟨h1,h2,h3⟩
  ·exact hx.2.1 h1
  ·exact hx.2.2 a h1 h2 h3
set_option maxHeartbeats 4000000 in
theorem cread_any (s:List UInt8) (hs:s.length≤1000) (w:World) (hE:EnvD w):Calls Tryz.prog 121 #[.string (bstr s)] w fun e w'=>∃x,e=.returned (.float .f64 x)∧x < 2^64∧(∀c,parseC s=some c→x=c)∧(s=[]→x=0)∧Below w.heap.size w w':=by
 have hcp:=Tryz.strings_CutPrefix (bstr s) (bstr [45]) w
 by_cases hm:∃r,s=45 :: r
 ·obtain⟨r,rfl⟩:=hm
  have hcp:Calls Tryz.prog 58 #[.string (bstr (45 :: r)),.string ⟨#[45]⟩] w fun e w'=>e=.returned (.tuple #[.string (bstr r),.bool true])∧w=w':=by
   refine hcp.mono ?_
   rintro e w' ⟨rfl,rfl⟩
   exact⟨rfl,rfl⟩
  have hcp:=Lib.hid hcp
  have hrs:=Lib.hid (crsize_any r (by rw[List.length_cons] at hs;omega) w hE)
  have hco:=Lib.hid (fun x hx w'=>mcopy_any x hx w')
  have hP:=Lib.hid (show parseC (45 :: r)=(bodyP r).map (2^63 + ·) from rfl)
  have hne:(45 :: r)≠[]:=by simp
  generalize 45 :: r=s at *
  clear hs
  generalize bstr s=S at *
  go_enter Tryz.func121,Tryz.ntmps121
  go_wp2_with (first
   | (go_at_call 58;refine hcp.out.mono ?_;rintro e w' ⟨rfl,rfl⟩)
   | (go_at_call 158;refine hrs.out.mono ?_;rintro e w1 ⟨x,rfl,hx,hr,-,hb1⟩;have hr:=Lib.hid hr)
   | (go_at_call 95;refine (hco.out x hx _).mono ?_;rintro e w' ⟨rfl,rfl⟩))
  go_ret
  refine⟨_,rfl,by have:=mag_lt x;omega,fun c h=>?_,fun h=>absurd h hne,hb1⟩
  rw[hP.out] at h
  obtain⟨a,ha,rfl⟩:=Option.map_eq_some_iff.1 h
  rw[hr.out a ha]
  have hle:=((bodyP_iff r a).1 ha).1
  show 2^63+magC a=2^63+a
  unfold magC
  omega
 ·have hh:Lib.hasPrefix s [45]=false∧parseC s=bodyP s:=by
   cases s with
   | nil=>exact⟨rfl,rfl⟩
   | cons c r =>
    have hc:c≠45:=fun e=>hm ⟨r,by rw[e]⟩
    exact⟨by unfold Lib.hasPrefix;simp[List.isPrefixOf,Ne.symm hc],parseC_other c r hc⟩
  have hcp:Calls Tryz.prog 58 #[.string (bstr s),.string ⟨#[45]⟩] w fun e w'=>e=.returned (.tuple #[.string (bstr s),.bool false])∧w=w':=by
   refine hcp.mono ?_
   rintro e w' ⟨rfl,rfl⟩
   have h1:Lib.trimPrefix s [45]=s:=by unfold Lib.trimPrefix;rw[hh.1];rfl
   refine⟨?_,rfl⟩
   show Ending.returned (.tuple #[.string (bstr (Lib.trimPrefix s [45])),.bool (Lib.hasPrefix s [45])])=_
   rw[h1,hh.1]
  have hcp:=Lib.hid hcp
  have hrs:=Lib.hid (crsize_any s hs w hE)
  have hP:=Lib.hid hh.2
  clear hh hm hs
  go_enter Tryz.func121,Tryz.ntmps121
  go_wp2_with (first
   | (go_at_call 58;refine hcp.out.mono ?_;rintro e w' ⟨rfl,rfl⟩)
   | (go_at_call 158;refine hrs.out.mono ?_;rintro e w1 ⟨x,rfl,hx,hr,h0,hb1⟩;have hr:=Lib.hid hr;have h0:=Lib.hid h0))
  go_ret
  exact⟨x,rfl,hx,fun c h=>hr.out c (by rw[←hP.out];exact h),h0.out,hb1⟩
set_option maxHeartbeats 4000000 in
theorem cparse_any (s:List UInt8) (hs:s.length≤1000) (w:World) (hE:EnvD w):Calls Tryz.prog 89 #[.string (bstr s)] w fun e w'=>e=.returned (.tuple #[.float .f64 ((parseC s).getD 0),.bool (parseC s).isSome])∧Below w.heap.size w w':=by
 have hrd:=Lib.hid (cread_any s (by omega) w hE)
 have htx:=Lib.hid (fun x hx w' (h:EnvC w')=>ctext_any x hx w' h)
 have heq:=Lib.hid (fun x=>bstr_beq (textC x) s)
 have hpi:=Lib.hid (parseC_iff s)
 clear hs
 go_enter Tryz.func89,Tryz.ntmps89
 go_wp2_with (go_at_call 121;refine hrd.out.mono ?_;rintro e w1 ⟨x,rfl,hx,hr,h0,hb1⟩;have hr:=Lib.hid hr;have h0:=Lib.hid h0;refine Hid.out ?_)
 have hE1:=(hE.next hb1).toEnvC
 have htx:=Lib.hid (htx.out x hx w1 hE1)
 have heq:=heq.out x
 by_cases ht:textC x=s
 ·have hn:nanC x=false:=by
   cases hn:nanC x with
   | false=>rfl
   | true =>
    rw[text_nan x hn] at ht
    rw[h0.out ht.symm] at hn
    exact absurd hn (by decide)
  have hp:=Lib.hid ((hpi.out x).2 ⟨hx,hn,ht⟩)
  rw[decide_eq_true ht] at heq
  clear ht hn
  generalize bstr (textC x)=X at *
  generalize bstr s=S at *
  refine Lib.hid ?_
  go_wp2_with (go_at_call 82;refine htx.out.mono ?_;rintro e w2 ⟨rfl,hb2⟩)
  go_ret2
  exact⟨by rw[hp.out];rfl,hb1.trans (hb2.mono hb1.size)⟩
 ·have hp:parseC s=none:=by
   cases hp:parseC s with
   | none=>rfl
   | some c =>
    have e:=hr.out c hp
    exact absurd (e ▸ ((hpi.out c).1 hp).2.2) ht
  have hp:=Lib.hid hp
  rw[decide_eq_false ht] at heq
  clear ht
  generalize bstr (textC x)=X at *
  generalize bstr s=S at *
  refine Lib.hid ?_
  go_wp2_with (go_at_call 82;refine htx.out.mono ?_;rintro e w2 ⟨rfl,hb2⟩)
  go_ret2
  exact⟨by rw[hp.out];rfl,hb1.trans (hb2.mono hb1.size)⟩
open Go Go.RowKit Go.Lib
theorem all_from16 (q:UInt8→Bool) (s:List UInt8) (k:Nat) (h:k < s.length):(s.drop k).all q=(q (s[k])&&(s.drop (k+1)).all q):=by
 rw[List.drop_eq_getElem_cons h,List.all_cons]
theorem idx_from16 (p:Nat→Bool) (q:UInt8→Bool) (hb:∀c:UInt8,p c.toNat=!q c) (hh:∀x,128≤x→p x=true) (s:List UInt8):∀(f pos:Nat),s.length≤pos+f→decide (0≤idxFuncFrom p true (bstr s) f pos)=!(s.drop pos).all q:=by
 intro f
 have hz:=size_bstr s
 have hq:∀c:UInt8,128≤c.toNat→q c=false:=by
  intro c h
  have:=hb c
  rw[hh _ h] at this
  cases hs:q c with
  | false=>rfl
  | true=>rw[hs] at this;cases this
 induction f with
 | zero =>
  intro pos h
  rw[List.drop_eq_nil_of_le (by omega)];rfl
 | succ f ih =>
  intro pos h
  rw[idxFuncFrom]
  by_cases hp:pos < s.length
  ·rw[if_pos (by omega),all_from16 q s pos hp]
   have hp':pos < (bstr s).size:=by omega
   have hbp:(bstr s)[pos]'hp'=s[pos]:=rfl
   by_cases ha:(s[pos]).toNat < 128
   ·have e:=decode_ascii (bstr s) pos hp' (by rw[hbp];exact ha)
    rw[hbp] at e
    rw[e]
    show decide (0≤if p (s[pos]).toNat=true then (pos:Int) else idxFuncFrom p true (bstr s) f (pos+1))=_
    rw[hb]
    cases hs:q s[pos] with
    | false=>rw[if_pos (by rfl)];simp
    | true =>
     rw[if_neg (by simp),ih (pos+1) (by omega),Bool.true_and]
   ·have e:=(decode_high (bstr s) pos hp' (by rw[hbp];omega)).1
    rw[if_pos (hh _ e),hq _ (by omega)]
    simp
  ·rw[if_neg (by omega),List.drop_eq_nil_of_le (by omega)];rfl
theorem idx_sign16 (p:Nat→Bool) (q:UInt8→Bool) (hb:∀c:UInt8,p c.toNat=!q c) (hh:∀x,128≤x→p x=true) (s:List UInt8):decide (0≤idxFunc p true (bstr s))=!s.all q:=by
 unfold idxFunc
 exact idx_from16 p q hb hh s _ 0 (by rw[size_bstr];omega)
def strangeX (a b:Nat) (x:Nat):Bool:=decide (x < a)||decide (b < x)
theorem idx_ink (s:List UInt8):decide (0≤idxFunc (strangeX 32 126) true (bstr s))=!s.all inkB:=by
 refine idx_sign16 _ _ (fun c=>?_) (fun x h=>?_) s
 ·unfold strangeX inkB
  rw[Bool.not_and,←decide_not,←decide_not]
  congr 1<;>exact decide_eq_decide.2 (by omega)
 ·unfold strangeX
  rw[decide_eq_true (by omega:126 < x),Bool.or_true]
theorem idx_low (s:List UInt8):decide (0≤idxFunc (strangeX 97 122) true (bstr s))=!s.all lowB:=by
 refine idx_sign16 _ _ (fun c=>?_) (fun x h=>?_) s
 ·unfold strangeX lowB
  rw[Bool.not_and,←decide_not,←decide_not]
  congr 1<;>exact decide_eq_decide.2 (by omega)
 ·unfold strangeX
  rw[decide_eq_true (by omega:122 < x),Bool.or_true]
theorem splitB_more (c:UInt8):∀(k:Nat) (s:List UInt8),k≤s.count c→(Lib.splitB (bstr [c]) 0 k (bstr s)).length=k+1:=by
 intro k
 induction k with
 | zero=>intro s _;rfl
 | succ k ih =>
  intro s h
  have e1:Lib.indexB (bstr s) (bstr [c])=Lib.indexByte s c:=Lib.index_one s c
  rcases index_cases s c with ⟨hi,hsp⟩ | ⟨i,hir,hi,hsp⟩
  ·have h2:=Lib.indexByte_none hi
   exfalso
   have hp:0 < s.count c:=by omega
   obtain⟨j,hj⟩:=List.getElem?_of_mem (List.count_pos_iff.1 hp)
   exact h2 j hj
  ·rw[Lib.splitB_hit _ _ _ _ i (by rw[e1,hi]),List.length_cons]
   have h2:=(Lib.indexByte_some hi).1
   have h3:=(Lib.indexByte_some hi).2
   have h1:(bstr [c]).size=1:=rfl
   have h0:(s.take i).count c=0:=by
    rw[List.count_eq_zero]
    intro hm
    obtain⟨j,hj⟩:=List.getElem?_of_mem hm
    have hji:j < i:=by have:=(List.getElem?_eq_some_iff.1 hj).1;rw[List.length_take] at this;omega
    refine h3 j hji ?_
    rw[List.getElem?_take,if_pos hji] at hj
    exact hj
   have hc:s.count c=(s.take i).count c+(1+(s.drop (i+1)).count c):=by
    have e:s=s.take i++c :: s.drop (i+1):=by
     have hg:s[i]=c:=(List.getElem?_eq_some_iff.1 h2).2
     conv=>lhs;rw[←List.take_append_drop i s,List.drop_eq_getElem_cons hir,hg]
    conv=>lhs;rw[e]
    rw[List.count_append,List.count_cons_self];omega
   have e2:(bstr s).extract (i+(bstr [c]).size) (bstr s).size=bstr (s.drop (i+1)):=by
    rw[h1,size_bstr,extract_bstr12,List.take_of_length_le (by rw[List.length_drop];omega)]
   rw[e2,ih _ (by omega)]
theorem splitB_le (c:UInt8):∀(k:Nat) (s:List UInt8),(Lib.splitB (bstr [c]) 0 k (bstr s)).length≤k+1:=by
 intro k
 induction k with
 | zero=>intro s;exact Nat.le_refl _
 | succ k ih =>
  intro s
  have e1:Lib.indexB (bstr s) (bstr [c])=Lib.indexByte s c:=Lib.index_one s c
  rcases index_cases s c with ⟨hi,hsp⟩ | ⟨i,hir,hi,hsp⟩
  ·rw[Lib.splitB_miss _ _ _ _ (by rw[e1,hi])]
   simp
  ·rw[Lib.splitB_hit _ _ _ _ i (by rw[e1,hi]),List.length_cons]
   have e2:(bstr s).extract (i+(bstr [c]).size) (bstr s).size=bstr (s.drop (i+1)):=by
    rw[show (bstr [c]).size=1 from rfl,size_bstr,extract_bstr12,List.take_of_length_le (by rw[List.length_drop];omega)]
   rw[e2]
   have:=ih (s.drop (i+1))
   omega
theorem splitL_count (c:UInt8) (s:List UInt8):(splitL c s).length=s.count c+1:=by
 rw[←split_count c s]
 congr 1
 exact Lib.count_one c s
theorem splitB_piece (c:UInt8):∀(k:Nat) (s:List UInt8),∀b∈Lib.splitB (bstr [c]) 0 k (bstr s),b.data.toList.length≤s.length:=by
 intro k
 have h0:∀s:List UInt8,(bstr s).data.toList=s:=fun s=>rfl
 induction k with
 | zero =>
  intro s b hb
  rw[Lib.splitB_zero,List.mem_singleton] at hb
  rw[hb,h0];exact Nat.le_refl _
 | succ k ih =>
  intro s b hb
  have e1:Lib.indexB (bstr s) (bstr [c])=Lib.indexByte s c:=Lib.index_one s c
  rcases index_cases s c with ⟨hi,hsp⟩ | ⟨i,hir,hi,hsp⟩
  ·rw[Lib.splitB_miss _ _ _ _ (by rw[e1,hi]),List.mem_singleton] at hb
   rw[hb,h0];exact Nat.le_refl _
  ·rw[Lib.splitB_hit _ _ _ _ i (by rw[e1,hi]),List.mem_cons] at hb
   rcases hb with hb | hb
   ·rw[hb,extract_bstr12,h0,List.length_take,List.length_drop];omega
   ·have e2:(bstr s).extract (i+(bstr [c]).size) (bstr s).size=bstr (s.drop (i+1)):=by
     rw[show (bstr [c]).size=1 from rfl,size_bstr,extract_bstr12,List.take_of_length_le (by rw[List.length_drop];omega)]
    rw[e2] at hb
    have:=ih _ b hb
    rw[List.length_drop] at this;omega
theorem splitN_names (s:List UInt8):∃ps:List (List UInt8),Lib.splitB (bstr [44]) 0 (min 33 (s.length+1) - 1) (bstr s)=ps.map bstr∧namesC s=(if riseL ps=true then some ps else none)∧(∀p∈ps,p.length≤s.length)∧ps.length≤min 33 (s.length+1):=by
 have hle:s.count 44≤s.length:=List.count_le_length
 have hlen:=splitB_le 44 (min 33 (s.length+1) - 1) s
 by_cases h:s.count 44≤32
 ·have e:=splitB_sign 44 (min 33 (s.length+1) - 1) s (by omega)
  rw[e,List.length_map] at hlen
  exact⟨splitL 44 s,e,rfl,splitL_piece 44 s,by omega⟩
 ·have h33:=splitB_more 44 32 s (by omega)
  rw[←show min 33 (s.length+1) - 1=32 by omega] at h33
  have hp:=splitB_piece 44 (min 33 (s.length+1) - 1) s
  generalize Lib.splitB (bstr [44]) 0 (min 33 (s.length+1) - 1) (bstr s)=bs at *
  refine⟨bs.map (fun b=>b.data.toList),?_,?_,?_,?_⟩
  ·rw[List.map_map]
   conv=>lhs;rw[←List.map_id bs]
   exact List.map_congr_left fun b _=>by obtain⟨⟨l⟩⟩:=b;rfl
  ·have e1:riseL (splitL 44 s)=false:=by
    unfold riseL
    rw[splitL_count,decide_eq_false (by omega:¬s.count 44+1≤32),Bool.and_false];rfl
   have e2:riseL (bs.map (fun b=>b.data.toList))=false:=by
    unfold riseL
    rw[List.length_map,decide_eq_false (by omega:¬bs.length≤32),Bool.and_false];rfl
   unfold namesC
   rw[e1,e2];rfl
  ·intro p hq
   obtain⟨b,hb,rfl⟩:=List.mem_map.1 hq
   exact hp b hb
  ·rw[List.length_map];omega
def puX (l:List UInt8):Nat:=match Lib.parseUintB 64 l with
 | .ok v=>v
 | .range=>18446744073709551615
 | _=>0
theorem parseM_le:∀(l:List UInt8) (acc v:Nat),acc≤18446744073709551615→Lib.parseUintM 18446744073709551615 acc l=.ok v→v≤18446744073709551615:=by
 intro l
 induction l with
 | nil =>
  intro acc v ha h
  rw[Lib.parseUintM] at h
  injection h with h
  omega
 | cons c r ih =>
  intro acc v ha h
  rw[Lib.parseUintM] at h
  split at h
  ·split at h
   ·cases h
   ·split at h
    ·cases h
    ·exact ih _ _ (by omega) h
  ·cases h
theorem puX_lt (l:List UInt8):puX l < 18446744073709551616:=by
 unfold puX
 cases h:Lib.parseUintB 64 l with
 | ok v =>
  show v < _
  unfold Lib.parseUintB at h
  split at h
  ·cases h
  ·have:=parseM_le l 0 v (by omega) h
   omega
 | range=>show 18446744073709551615 < _;omega
 | _=>show 0 < _;omega
theorem foldV_le16 (s:List UInt8):∀n v,foldV 10 n s=some v→n≤v:=by
 induction s with
 | nil=>intro n v h;cases h;omega
 | cons c s ih =>
  intro n v h
  rw[foldV] at h
  split at h
  ·cases h
  ·have:=ih _ _ h;omega
theorem digI10 (c:UInt8) (h:0≤digI 10 c):48≤c.toNat∧c.toNat≤57∧(digI 10 c).toNat=c.toNat - 48:=by
 have hb:=digI_bd 10 c
 have hx:=digI_hex 10 c h
 have hd:∀d:Nat,d < 10→(hexD d).toNat=d+48:=by
  have hh:∀d:Fin 10,(hexD d.1).toNat=d.1+48:=by decide
  intro d hd
  exact hh ⟨d,hd⟩
 have:=hd (digI 10 c).toNat (by omega)
 rw[hx] at this
 omega
theorem parseM_fold (s:List UInt8):∀n v,foldV 10 n s=some v→v < 18446744073709551616→Lib.parseUintM 18446744073709551615 n s=.ok v:=by
 induction s with
 | nil=>intro n v h _;cases h;rfl
 | cons c s ih =>
  intro n v h hv
  rw[foldV] at h
  split at h
  ·cases h
  ·rename_i hd
   obtain⟨h1,h2,h3⟩:=digI10 c (by omega)
   have hle:=foldV_le16 _ _ _ h
   rw[h3] at h hle
   rw[Lib.parseUintM,if_pos ⟨h1,h2⟩,if_neg (by omega),if_neg (by omega)]
   exact ih _ _ h hv
theorem puX_num (n:Nat) (h:n < 18446744073709551616):puX (numL 10 n)=n:=by
 have e:Lib.parseUintB 64 (numL 10 n)=.ok n:=by
  unfold Lib.parseUintB
  rw[if_neg (numL_ne 10 n)]
  exact parseM_fold _ 0 n (foldV_num 10 (by omega) (by omega) n) h
 unfold puX
 rw[e]
theorem number_pu (s:List UInt8):numberL s=if numL 10 (puX s)=s then some (puX s) else none:=by
 by_cases h:numL 10 (puX s)=s
 ·rw[if_pos h]
  conv=>lhs;rw[←h]
  exact number_num _ (puX_lt s)
 ·rw[if_neg h]
  unfold numberL
  cases hv:valueL 10 20 s with
  | none=>rfl
  | some n =>
   show (if n < 2^64 then some n else none)=none
   rw[if_neg]
   intro hn
   have e:=((valueL_iff 10 20 (by omega) (by omega) s n).1 hv).1
   rw[←e] at h
   exact h (by rw[puX_num n hn])
end Go.Proofs.YtjieebmcbpdeiaaGreatDoor
namespace Go.Proofs.YtjieebmcbpdeiaaGreatDoor
set_option maxRecDepth 100000
open Go Go.RowKit Go.Lib
def EnvX (w:World):Prop:=∃m,w.cell? ⟨1,0,none⟩=some (.int .i64 m)
theorem cell_later16 {w w':World} {B b o:Nat} {v:Value} (h:w.cell? ⟨b,o,none⟩=some v) (hB:w.heap.size≤B) (hb:Below B w w'):w'.cell? ⟨b,o,none⟩=some v:=by
 obtain⟨c,e,fr,hb',_⟩:=Go.Sort.cells_of_cell? h
 rw[hb.cell (Nat.lt_of_lt_of_le (Array.getElem?_eq_some_iff.1 hb').1 hB)]
 exact h
theorem EnvX.next {w w':World} (h:EnvX w) (hb:Below w.heap.size w w'):EnvX w':=by
 obtain⟨m,hm⟩:=h
 exact⟨m,cell_later16 hm (Nat.le_refl _) hb⟩
theorem strangeW_any (x:Nat) (w:World):Calls Tryz.prog 84 #[.int .i32 x] w fun e w'=>e=.returned (.bool (strangeX 32 126 x))∧Below w.heap.size w w':=by
 by_cases h1:x < 32
 ·have a1:(x:Int) < 32:=by omega
  have HV:strangeX 32 126 x=true:=by unfold strangeX;rw[decide_eq_true h1];rfl
  rw[HV]
  clear HV
  go_enter Tryz.func84,Tryz.ntmps84
  go_wp2
  go_ret
  exact⟨rfl,Below.refl _ _⟩
 ·have a1:decide ((x:Int) < 32)=false:=decide_eq_false (by omega)
  have HV:strangeX 32 126 x=decide ((126:Int) < (x:Int)):=by unfold strangeX;rw[decide_eq_false h1,Bool.false_or];exact decide_eq_decide.2 (by omega)
  rw[HV]
  clear HV h1
  go_enter Tryz.func84,Tryz.ntmps84
  go_wp2
  go_ret
  exact⟨rfl,Below.refl _ _⟩
theorem strangeM_any (x:Nat) (w:World):Calls Tryz.prog 73 #[.int .i32 x] w fun e w'=>e=.returned (.bool (strangeX 97 122 x))∧Below w.heap.size w w':=by
 by_cases h1:x < 97
 ·have a1:(x:Int) < 97:=by omega
  have HV:strangeX 97 122 x=true:=by unfold strangeX;rw[decide_eq_true h1];rfl
  rw[HV]
  clear HV
  go_enter Tryz.func73,Tryz.ntmps73
  go_wp2
  go_ret
  exact⟨rfl,Below.refl _ _⟩
 ·have a1:decide ((x:Int) < 97)=false:=decide_eq_false (by omega)
  have HV:strangeX 97 122 x=decide ((122:Int) < (x:Int)):=by unfold strangeX;rw[decide_eq_false h1,Bool.false_or];exact decide_eq_decide.2 (by omega)
  rw[HV]
  clear HV h1
  go_enter Tryz.func73,Tryz.ntmps73
  go_wp2
  go_ret
  exact⟨rfl,Below.refl _ _⟩
set_option maxHeartbeats 2000000 in
theorem xname_any (s:List UInt8) (hs:s.length≤100000) (w:World):Calls Tryz.prog 40 #[.string (bstr s)] w fun e w'=>e=.returned (.bool (name16 s))∧Below w.heap.size w w':=by
 have hz:=size_bstr s
 have HV:=Lib.hid (name16_iff s)
 have hcf:=fun W=>Tryz.strings_ContainsFunc_grows 73 #[] (enters_of Tryz.func73 (by kernel_rfl) rfl) (strangeX 97 122) (bstr s) W (fun W' x _ _=>strangeM_any x W')
 rw[idx_low] at hcf
 have HC:=Lib.hid hcf
 clear hcf
 generalize name16 s=V at *
 have e0:=bstr_empty s
 by_cases h0:s=[]
 ·have HW:=Lib.hid (show V=false by rw[HV.out,h0];rfl)
  rw[decide_eq_true h0] at e0
  clear HV h0 HC
  go_enter Tryz.func40,Tryz.ntmps40
  go_wp2
  go_ret
  exact⟨by rw[HW.out];rfl,Below.refl _ _⟩
 rw[decide_eq_false h0] at e0
 have hpos:1≤s.length:=List.length_pos_iff.2 h0
 by_cases h2:16 < s.length
 ·have HW:=Lib.hid (show V=false by rw[HV.out,decide_eq_false (by omega:¬s.length≤16),Bool.and_false];rfl)
  have a2:decide ((s.length:Int)≤16)=false:=decide_eq_false (by omega)
  clear HV h0 HC
  go_enter Tryz.func40,Tryz.ntmps40
  go_wp2
  go_ret
  exact⟨by rw[HW.out];rfl,Below.refl _ _⟩
 have a2:(s.length:Int)≤16:=by omega
 have HW:=Lib.hid (show V=s.all lowB by rw[HV.out,decide_eq_true hpos,decide_eq_true (show s.length≤16 by omega)];rfl)
 clear HV h0 h2 hpos
 go_enter Tryz.func40,Tryz.ntmps40
 go_wp2_with (go_at_call 74;refine (HC.out _).mono ?_;rintro e w' ⟨rfl,hb⟩)
 go_ret
 exact⟨by rw[HW.out];simp,hb⟩
end Go.Proofs.YtjieebmcbpdeiaaGreatDoor
namespace Go.Proofs.YtjieebmcbpdeiaaGreatDoor
set_option maxRecDepth 100000
open Go Go.RowKit Go.Lib
theorem xsplit_any (s:List UInt8) (hs:s.length≤100000) (w:World) (hE:EnvX w):Calls Tryz.prog 85 #[.string (bstr s),.string ⟨#[32]⟩] w fun e w'=>∃A c,e=.returned (.slice A (splitL 32 s).length c)∧Sl w' A c (strsV (splitL 32 s))∧Below w.heap.size w w':=by
 obtain⟨m,hm⟩:=hE
 refine (Tryz.strings_Split (bstr s) (bstr [32]) m w (by rw[size_bstr];omega) hm (Nat.le_refl 1)).mono ?_
 rintro e w' ⟨rfl,rfl⟩
 rw[split_sign 32 s,split_count 32 s]
 refine⟨_,_,rfl,sl_made (t:=9) (strsV (splitL 32 s)) ?_ _ (length_strsV _),(Below.refl _ w).alloc (Nat.le_refl _) _⟩
 unfold strsV
 rw[List.map_map];rfl
theorem getD_bstr16 (xs:List (List UInt8)) (j:Nat) (h:j < xs.length):(xs.map bstr).getD j ByteArray.empty=bstr (xs.getD j []):=by
 rw[List.getD_eq_getElem?_getD,List.getElem?_map,List.getD_eq_getElem?_getD,List.getElem?_eq_getElem h];rfl
theorem holds_empty (xs:List (List UInt8)):Lib.containsS (xs.map bstr) ⟨#[]⟩=!xs.all (fun p=>decide (p≠[])):=by
 rw[Bool.eq_iff_iff,Lib.containsS_iff,Bool.not_eq_true',List.all_eq_false,List.mem_map]
 constructor
 ·rintro ⟨p,hp,he⟩
  refine⟨p,hp,?_⟩
  have:p=[]:=bstr_inj he
  simp[this]
 ·rintro ⟨p,hp,he⟩
  refine⟨p,hp,?_⟩
  have:p=[]:=by simpa using he
  rw[this];rfl
theorem xcontains_any (xs:List (List UInt8)) (hx:xs.length≤1000000) (A:Option Addr) (c:Nat) (w:World) (hs:Sl w A c (strsV xs)) :
  Calls Tryz.prog 27 #[.slice A xs.length c,.string ⟨#[]⟩] w fun e w'=>e=.returned (.bool (!xs.all (fun p=>decide (p≠[]))))∧w'=w:=by
 by_cases h0:xs.length=0
 ·have e1:=List.length_eq_zero_iff.1 h0
  subst e1
  exact Tryz.slices_Contains_string_empty A c ⟨#[]⟩ w
 ·obtain⟨b1,o1,rfl,-,-⟩:=hs.rd.get (i:=0) (by rw[length_strsV];omega)
  refine (Tryz.slices_Contains_string b1 o1 xs.length c (xs.map bstr) ⟨#[]⟩ w (by rw[List.length_map];omega) (by omega) (fun j hj=>by rw[List.length_map] at hj;rw[getD_bstr16 xs j hj];exact strs_cell hs j hj)).mono ?_
  rintro e w' ⟨rfl,rfl⟩
  rw[List.take_of_length_le (by rw[List.length_map];omega),holds_empty]
  exact⟨rfl,rfl⟩
set_option maxHeartbeats 2000000 in
theorem xwords_any (s:List UInt8) (hs:s.length≤10000) (w:World) (hE:EnvX w):Calls Tryz.prog 51 #[.string (bstr s)] w (GaveRow (wordsL s) w):=by
 have hz:=size_bstr s
 have hcf:=fun W=>Tryz.strings_ContainsFunc_grows 84 #[] (enters_of Tryz.func84 (by kernel_rfl) rfl) (strangeX 32 126) (bstr s) W (fun W' x _ _=>strangeW_any x W')
 rw[idx_ink] at hcf
 have hsp:=Lib.hid (fun w' h=>xsplit_any s (by omega) w' h)
 have hlen:=splitL_len 32 s
 have hco:=Lib.hid (fun A c w' h=>xcontains_any (splitL 32 s) (by omega) A c w' h)
 have e0:=bstr_empty s
 by_cases h0:s=[]
 ·have HW:=Lib.hid (show wordsL s=some [] by rw[h0];rfl)
  rw[decide_eq_true h0] at e0
  clear h0 hcf hsp hco hlen hs
  generalize wordsL s=V at *
  go_enter Tryz.func51,Tryz.ntmps51
  go_wp2
  go_ret2
  exact⟨none,0,by rw[HW.out];rfl,by rw[HW.out];exact sl_none16 w,Below.refl _ _⟩
 rw[decide_eq_false h0] at e0
 by_cases h2:512 < s.length
 ·have HW:=Lib.hid (words_far s h0 h2)
  have a2:(512:Int) < (s.length:Int):=by omega
  clear h0 h2 hcf hsp hco hlen
  generalize wordsL s=V at *
  go_enter Tryz.func51,Tryz.ntmps51
  go_wp2
  go_ret2
  exact⟨none,0,by rw[HW.out];rfl,by rw[HW.out];exact sl_none16 w,Below.refl _ _⟩
 have a2:decide ((512:Int) < (s.length:Int))=false:=decide_eq_false (by omega)
 cases hi:s.all inkB with
 | false =>
  have HW:=Lib.hid (words_ink s h0 hi)
  rw[hi] at hcf
  have HC:=Lib.hid hcf
  clear h0 h2 hcf hi hsp hco hlen
  generalize wordsL s=V at *
  go_enter Tryz.func51,Tryz.ntmps51
  go_wp2_with (go_at_call 74;refine (HC.out _).mono ?_;rintro e w1 ⟨rfl,hb1⟩)
  go_ret2
  exact⟨none,0,by rw[HW.out];rfl,by rw[HW.out];exact sl_none16 w1,hb1⟩
 | true =>
  have HV:=Lib.hid (words_split s h0 (by omega) hi)
  rw[hi] at hcf
  have HC:=Lib.hid hcf
  clear h0 h2 hcf hi hlen
  generalize wordsL s=V at *
  generalize splitL 32 s=ps at *
  cases ha:ps.all (fun p=>decide (p≠[])) with
  | false =>
   have HW:=Lib.hid (HV.out.trans (if_neg (by rw[ha];decide)))
   rw[ha] at hco
   clear HV ha
   go_enter Tryz.func51,Tryz.ntmps51
   go_wp2_with (first
    | (go_at_call 74;refine (HC.out _).mono ?_;rintro e w1 ⟨rfl,hb1⟩)
    | (go_at_call 85;refine (hsp.out _ (hE.next hb1)).mono ?_;rintro e w2 ⟨A,c,rfl,hsl,hb2⟩;have hb2:=hb1.trans (hb2.mono hb1.size))
    | (go_at_call 27;refine (hco.out A c _ hsl).mono ?_;rintro e w3 ⟨rfl,rfl⟩))
   go_ret2
   exact⟨none,0,by rw[HW.out];rfl,by rw[HW.out];exact sl_none16 _,hb2⟩
  | true =>
   have HW:=Lib.hid (HV.out.trans (if_pos ha))
   rw[ha] at hco
   clear HV ha
   go_enter Tryz.func51,Tryz.ntmps51
   go_wp2_with (first
    | (go_at_call 74;refine (HC.out _).mono ?_;rintro e w1 ⟨rfl,hb1⟩)
    | (go_at_call 85;refine (hsp.out _ (hE.next hb1)).mono ?_;rintro e w2 ⟨A,c,rfl,hsl,hb2⟩;have hb2:=hb1.trans (hb2.mono hb1.size))
    | (go_at_call 27;refine (hco.out A c _ hsl).mono ?_;rintro e w3 ⟨rfl,rfl⟩))
   go_ret2
   exact⟨A,c,by rw[HW.out];rfl,by rw[HW.out];exact hsl,hb2⟩
end Go.Proofs.YtjieebmcbpdeiaaGreatDoor
namespace Go.Proofs.YtjieebmcbpdeiaaGreatDoor
set_option maxRecDepth 100000
open Go Go.RowKit Go.Lib
def aheadL (l:List (List UInt8)):Nat→List UInt8
 | 0=>[]
 | k+1=>l.getD k []
theorem okAt_ahead (l:List (List UInt8)) (k:Nat):okAt l k=(name16 (l.getD k [])&&Op.bytesLess (aheadL l k) (l.getD k [])):=by
 cases k with
 | zero =>
  rw[okAt_zero l 0 rfl]
  cases h:name16 (l.getD 0 []) with
  | false=>rfl
  | true =>
   have hne:=(name16_44 _ h).1
   generalize l.getD 0 []=s at *
   cases s with
   | nil=>exact absurd rfl hne
   | cons c s=>rfl
 | succ k=>rw[okAt_pos l (k+1) (by omega)];rfl
theorem less_or (a:List UInt8):∀b:List UInt8,(Op.bytesLess a b||a==b)=!Op.bytesLess b a:=by
 induction a with
 | nil =>
  intro b
  cases b with
  | nil=>rfl
  | cons c b=>rfl
 | cons c a ih =>
  intro b
  cases b with
  | nil=>rfl
  | cons d b =>
   show ((decide (c < d)||(c==d&&Op.bytesLess a b))||(c==d&&a==b))=!(decide (d < c)||(d==c&&Op.bytesLess b a))
   have hlt:∀x y:UInt8,decide (x < y)=decide (x.toNat < y.toNat):=fun x y=>rfl
   have heq:∀x y:UInt8,(x==y)=decide (x.toNat=y.toNat):=by
    intro x y
    rw[Bool.eq_iff_iff,beq_iff_eq,decide_eq_true_iff]
    exact UInt8.toNat_inj.symm
   rw[hlt,hlt,heq,heq]
   rcases Nat.lt_trichotomy c.toNat d.toNat with h | h | h
   ·rw[decide_eq_true h,decide_eq_false (by omega:¬d.toNat < c.toNat),decide_eq_false (by omega:¬d.toNat=c.toNat)];rfl
   ·rw[decide_eq_false (by omega:¬c.toNat < d.toNat),decide_eq_false (by omega:¬d.toNat < c.toNat),decide_eq_true h,decide_eq_true h.symm]
    simpa using ih b
   ·rw[decide_eq_false (by omega:¬c.toNat < d.toNat),decide_eq_true h,decide_eq_false (by omega:¬c.toNat=d.toNat)];rfl
set_option maxHeartbeats 2000000 in
theorem xfit_any (l:List (List UInt8)) (hp:∀p∈l,p.length≤100000) (hl:l.length≤100000) (A:Option Addr) (c:Nat) (w:World) (hsl:Sl w A c (strsV l)) :
  Calls Tryz.prog 108 #[.slice A l.length c] w fun e w'=>e=.returned (.bool (riseL l))∧Below w.heap.size w w':=by
 obtain⟨V,hV⟩:∃V,V=riseL l:=⟨_,rfl⟩
 have HV:=Lib.hid hV
 rw[←hV]
 clear hV
 by_cases h1:l.length=0
 ·have HW:=Lib.hid (show V=false by rw[HV.out];unfold riseL;rw[decide_eq_false (by omega:¬1≤l.length)];rfl)
  have a1:((l.length:Int)==0)=true:=by rw[beq_iff_eq];omega
  clear HV h1
  go_enter Tryz.func108,Tryz.ntmps108
  go_wp2
  go_ret
  exact⟨by rw[HW.out];rfl,Below.refl _ _⟩
 have a1:((l.length:Int)==0)=false:=by rw[beq_eq_false_iff_ne];omega
 by_cases h2:32 < l.length
 ·have HW:=Lib.hid (show V=false by rw[HV.out];unfold riseL;rw[decide_eq_false (by omega:¬l.length≤32),Bool.and_false];rfl)
  have a2:(32:Int) < (l.length:Int):=by omega
  clear HV h1 h2
  go_enter Tryz.func108,Tryz.ntmps108
  go_wp2
  go_ret
  exact⟨by rw[HW.out];rfl,Below.refl _ _⟩
 have a2:decide ((32:Int) < (l.length:Int))=false:=decide_eq_false (by omega)
 have HT:=Lib.hid (show (∀i < l.length,okAt l i=true)→V=true from fun h=>by rw[HV.out];exact (riseL_at l).2 ⟨by omega,by omega,h⟩)
 have HFa:=Lib.hid (show ∀i,i < l.length→okAt l i=false→V=false from fun i hi h=>by rw[HV.out];exact riseL_bad l i hi h)
 have hnm:=Lib.hid (fun s (h:s∈l) w'=>xname_any s (hp s h) w')
 clear HV h1 h2 hp
 go_enter Tryz.func108,Tryz.ntmps108
 go_wp2
 clear a1 a2
 go_loopw [3,16] (fun v i wr=>∃k:Nat,k≤l.length∧v=.string (bstr (aheadL l k))∧i=.int .i64 k∧(∀j < k,okAt l j=true)∧Below w.heap.size w wr) (fun _ i _=>l.length - (intOf i).toNat)
 case atStart=>exact⟨0,by omega,rfl,rfl,fun j hj=>by omega,Below.refl _ _⟩
 case round =>
  obtain⟨k,hk,rfl,rfl,hf,hbr⟩:=hrel
  by_cases hlt:k < l.length
  ·have hlt':(k:Int) < (l.length:Int):=by omega
   obtain⟨b,o,rfl,-,-⟩:=hsl.rd.get (i:=k) (by rw[length_strsV];exact hlt)
   have hix:=index_strs (some ⟨b,o,none⟩) b o l.length c k rfl hlt
   have hce:=strs_cell (hsl.later (Nat.le_refl _) hbr) k hlt
   have HF:=Lib.hid hf
   have HC:=Lib.hid (hnm.out (l.getD k []) (by rw[List.getD_eq_getElem?_getD,List.getElem?_eq_getElem hlt];exact List.getElem_mem hlt))
   have HA:=Lib.hid (okAt_ahead l k)
   have HB:=Lib.hid (HFa.out k hlt)
   have hnx:aheadL l (k+1)=l.getD k []:=rfl
   have HX:=Lib.hid hnx
   have HL:=Lib.hid (show (Op.bytesLess (bstr (l.getD k [])).toList (bstr (aheadL l k)).toList||(bstr (l.getD k [])).toList==(bstr (aheadL l k)).toList)=!Op.bytesLess (aheadL l k) (l.getD k []) by rw[bstr_toList,bstr_toList];exact less_or _ _)
   clear hf hnx
   generalize l.getD k []=s at *
   generalize aheadL l k=s1 at *
   cases hsg:name16 s with
   | true =>
    cases hle:Op.bytesLess s1 s with
    | true =>
     have HN:=Lib.hid (okAt_next l k HF.out (by rw[HA.out,hsg,hle];rfl))
     have hle2:=HL.out.trans (congrArg (!·) hle)
     obtain⟨p1,p2⟩:=Bool.or_eq_false_iff.1 hle2
     rw[hsg] at HC
     clear HA hsg HB HL hle hle2
     go_wp2_with (go_at_call 40;refine (HC.out _).mono ?_;rintro e w' ⟨rfl,hq⟩;have hq:=hbr.trans (hq.mono hbr.size))
     go_roundw
     case rel=>exact⟨k+1,by omega,by rw[HX.out],by go_num,HN.out,hq⟩
     case measure=>simp[intOf];omega
    | false =>
     have HN:=Lib.hid (HB.out (by rw[HA.out,hsg,hle];rfl))
     have hle2:=HL.out.trans (congrArg (!·) hle)
     rw[hsg] at HC
     clear HA hsg HB HL hle
     rcases hp1:Op.bytesLess (bstr s).toList (bstr s1).toList with _ | _
     ·rw[hp1,Bool.false_or] at hle2
      go_wp2_with (go_at_call 40;refine (HC.out _).mono ?_;rintro e w' ⟨rfl,hq⟩;have hq:=hbr.trans (hq.mono hbr.size))
      go_ret
      exact⟨by rw[HN.out];rfl,hq⟩
     ·clear hle2
      go_wp2_with (go_at_call 40;refine (HC.out _).mono ?_;rintro e w' ⟨rfl,hq⟩;have hq:=hbr.trans (hq.mono hbr.size))
      go_ret
      exact⟨by rw[HN.out];rfl,hq⟩
   | false =>
    have HN:=Lib.hid (HB.out (by rw[HA.out,hsg];rfl))
    rw[hsg] at HC
    clear HA hsg HB HL
    go_wp2_with (go_at_call 40;refine (HC.out _).mono ?_;rintro e w' ⟨rfl,hq⟩;have hq:=hbr.trans (hq.mono hbr.size))
    go_ret
    exact⟨by rw[HN.out];rfl,hq⟩
  ·obtain rfl:k=l.length:=by omega
   have HN:=Lib.hid (HT.out hf)
   clear hf
   go_wp2
   go_ret
   exact⟨by rw[HN.out];rfl,hbr⟩
theorem join_glue16 (ss:List (List UInt8)) (x:UInt8):Lib.join ss [x]=glueL x ss:=by
 induction ss with
 | nil=>rfl
 | cons s ss ih =>
  cases ss with
  | nil=>rw[Lib.join_one];rfl
  | cons t ss =>
   rw[glueL_cons x s (t :: ss) (by simp),←ih]
   rw[Lib.join_cons,Lib.join_cons]
   simp[Lib.joinTail]
theorem xjoined_any (ss:List (List UInt8)) (x:UInt8) (A:Option Addr) (c:Nat) (w:World) (hs:Sl w A c (strsV ss)) (hn:ss.length≤100000) (hl:sumS ss≤100000) :
  Calls Tryz.prog 109 #[.slice A ss.length c,.string (bstr [x])] w fun e w'=>e=.returned (.string (bstr (glueL x ss)))∧Below w.heap.size w w':=by
 by_cases h0:ss=[]
 ·subst h0
  refine (Tryz.strings_Join_none A c (bstr [x]) w).mono ?_
  rintro e w' ⟨rfl,rfl⟩
  exact⟨rfl,Below.refl _ _⟩
 ·have hp:0 < ss.length:=List.length_pos_iff.2 h0
  obtain⟨bk,o,rfl,hbk,-⟩:=hs.rd.get (i:=0) (by rw[length_strsV];exact hp)
  have hj:=Tryz.strings_Join bk o c (ss.map bstr) (bstr [x]) w (fun j y hy=>by
   obtain⟨b',o',hA,_,hc⟩:=hs.rd.get (i:=j) (by rw[length_strsV];have:=(List.getElem?_eq_some_iff.1 hy).1;simpa using this)
   cases hA
   rw[hc]
   unfold strsV
   rw[List.getElem?_map] at hy ⊢
   cases hq:ss[j]? with
   | none=>rw[hq] at hy;cases hy
   | some q=>rw[hq] at hy;cases hy;rfl) hbk (by rw[List.length_map];omega) (by rw[List.length_map];have:=hs.room;rw[length_strsV] at this;omega) (by
    rw[show (ss.map bstr).map (·.data.toList)=ss by rw[List.map_map];exact List.map_id _,show (bstr [x]).data.toList=[x] from rfl,join_glue16]
    have:=glue_len x ss
    omega)
  rw[show (ss.map bstr).map (·.data.toList)=ss by rw[List.map_map];exact List.map_id _,show (bstr [x]).data.toList=[x] from rfl,join_glue16,List.length_map] at hj
  exact hj
set_option maxHeartbeats 2000000 in
theorem xjoin_any (l:List (List UInt8)) (hl:sumS l≤10000) (A:Option Addr) (c:Nat) (w:World) (hsl:Sl w A c (strsV l)) (_:EnvX w) :
  Calls Tryz.prog 80 #[.slice A l.length c] w fun e w'=>e=.returned (.string (bstr (joinL16 l)))∧Below w.heap.size w w':=by
 have hlen:=sumS_len l
 have hri:=Lib.hid (xfit_any l (fun p hp=>by have:=sumS_mem l p hp;omega) (by omega) A c w hsl)
 have hjo:=Lib.hid (fun w' h=>xjoined_any l 44 A c w' h (by omega) (by omega))
 have HV:=Lib.hid (show joinL16 l=if riseL l=true then glueL 44 l else [] from rfl)
 generalize joinL16 l=V at *
 cases hr:riseL l with
 | true =>
  have HW:=Lib.hid (HV.out.trans (if_pos hr))
  rw[hr] at hri
  clear HV hr hl hlen
  generalize l.length=n at *
  go_enter Tryz.func80,Tryz.ntmps80
  go_wp2_with (first
   | (go_at_call 108;refine hri.out.mono ?_;rintro e w' ⟨rfl,hq⟩;have hsl:=hsl.later (Nat.le_refl _) hq)
   | (go_at_call 109;refine (hjo.out _ hsl).mono ?_;rintro e w2 ⟨rfl,hq2⟩;have hq:=hq.trans (hq2.mono hq.size)))
  go_ret
  exact⟨by rw[HW.out];rfl,hq⟩
 | false =>
  have HW:=Lib.hid (HV.out.trans (if_neg (by rw[hr];decide)))
  rw[hr] at hri
  clear HV hr hl hlen
  generalize l.length=n at *
  go_enter Tryz.func80,Tryz.ntmps80
  go_wp2_with (go_at_call 108;refine hri.out.mono ?_;rintro e w' ⟨rfl,hq⟩)
  go_ret
  exact⟨by rw[HW.out];rfl,hq⟩
end Go.Proofs.YtjieebmcbpdeiaaGreatDoor
namespace Go.Proofs.YtjieebmcbpdeiaaGreatDoor
set_option maxRecDepth 100000
open Go Go.RowKit
structure EnvN (w:World):Prop where
 most:EnvX w
 pow:Lib.TabIs Tryz.prog w "internal/strconv.uint64pow10" .u64 Lib.pow10Tab
 synt:∃v,w.cell? ⟨6,0,none⟩=some v∧(v=.nilIface∨∃t p,v=.iface t p)
 rang:∃v,w.cell? ⟨7,0,none⟩=some v∧(v=.nilIface∨∃t p,v=.iface t p)
theorem EnvN.next {w w':World} (h:EnvN w) (hb:Below w.heap.size w w'):EnvN w':=by
 obtain⟨hm,hp,⟨v,hv,h1⟩,⟨u,hu,h2⟩⟩:=h
 exact⟨hm.next hb,Joins.tab_stays gPow hp hb (Nat.le_refl _),⟨v,cell_later16 hv (Nat.le_refl _) hb,h1⟩,⟨u,cell_later16 hu (Nat.le_refl _) hb,h2⟩⟩
theorem toErr16 (fn s:ByteArray) (b n:Int) (hs:s.size≤281474976710656) (w:World) (hE:EnvN w) (k:Int) (hk:k=1∨k=2) :
  Calls Tryz.prog 154 #[.string fn,.string s,.int .i64 b,.int .i64 n,.iface 183 (.int .i64 k)] w (GaveAny w):=by
 rcases hk with rfl | rfl
 ·obtain⟨v,h1,h2⟩:=hE.rang
  refine (Tryz.strconv_toError_range fn s b n v w hs h1 h2).mono ?_
  rintro e w' ⟨N,rfl,-,-,hb⟩
  exact⟨_,rfl,hb⟩
 ·obtain⟨v,h1,h2⟩:=hE.synt
  refine (Tryz.strconv_toError_syntax fn s b n v w hs h1 h2).mono ?_
  rintro e w' ⟨N,rfl,-,-,hb⟩
  exact⟨_,rfl,hb⟩
theorem ipu64_any (l:List UInt8) (hl:l.length≤100000) (w:World) :
  ∃c:Nat,(c=0∨c=1∨c=2)∧Calls Tryz.prog 153 #[.string (bstr l),.int .i64 10,.int .i64 64] w fun e w'=>e=.returned (.tuple #[.int .u64 (puX l:Nat),errV c])∧Below w.heap.size w w':=by
 have h:=Tryz.internal_strconv_ParseUint_10_at64 (bstr l) (by rw[size_bstr];omega) w
 have hb:∀w':World,(w'=w∨w'=Lib.bytesWorld w 5 (bstr l))→Below w.heap.size w w':=by
  rintro w' (rfl | rfl)
  ·exact Below.refl _ _
  ·exact Lib.bytesWorld_below _ _ _
 have e0:(bstr l).data.toList=l:=rfl
 rw[e0] at h
 unfold puX
 cases hp:Lib.parseUintB 64 l with
 | ok v =>
  rw[hp] at h
  exact⟨0,.inl rfl,h.mono fun e w' ⟨he,hw⟩=>⟨he,hb w' hw⟩⟩
 | range =>
  rw[hp] at h
  exact⟨1,.inr (.inl rfl),h.mono fun e w' ⟨he,hw⟩=>⟨he,hb w' hw⟩⟩
 | _ =>
  rw[hp] at h
  exact⟨2,.inr (.inr rfl),h.mono fun e w' ⟨he,hw⟩=>⟨he,hb w' hw⟩⟩
theorem errV_1x:errV 1=.iface 183 (.int .i64 1):=rfl
theorem errV_2x:errV 2=.iface 183 (.int .i64 2):=rfl
set_option maxHeartbeats 2000000 in
theorem pu64_any (l:List UInt8) (hl:l.length≤100000) (w:World) (hE:EnvN w) :
  Calls Tryz.prog 116 #[.string (bstr l),.int .i64 10,.int .i64 64] w (GavePu (puX l) w):=by
 obtain⟨c,hc,hi⟩:=ipu64_any l hl w
 have hsz:(bstr l).size≤281474976710656:=by rw[size_bstr];omega
 have hts:=Lib.hid (fun fn w' (h:Below w.heap.size w w') k hk=>toErr16 fn (bstr l) 10 64 hsz w' (hE.next h) k hk)
 generalize puX l=n at *
 clear hE hl hsz
 rcases hc with rfl | rfl | rfl
 ·rw[show errV 0=.nilIface from rfl] at hi
  have hi:=Lib.hid hi
  go_enter Tryz.func116,Tryz.ntmps116
  go_wp2_with (go_at_call 153;refine hi.out.mono ?_;rintro e w' ⟨rfl,hb1⟩)
  go_ret2
  exact⟨_,rfl,hb1⟩
 ·rw[errV_1x] at hi
  have hi:=Lib.hid hi
  go_enter Tryz.func116,Tryz.ntmps116
  go_wp2_with (first
   | (go_at_call 153;refine hi.out.mono ?_;rintro e w' ⟨rfl,hb1⟩)
   | (go_at_call 154;refine (hts.out _ _ hb1 1 (.inl rfl)).mono ?_;rintro e w2 ⟨v,rfl,hb2⟩;have hb2:=hb1.trans (hb2.mono hb1.size)))
  go_ret2
  exact⟨_,rfl,hb2⟩
 ·rw[errV_2x] at hi
  have hi:=Lib.hid hi
  go_enter Tryz.func116,Tryz.ntmps116
  go_wp2_with (first
   | (go_at_call 153;refine hi.out.mono ?_;rintro e w' ⟨rfl,hb1⟩)
   | (go_at_call 154;refine (hts.out _ _ hb1 2 (.inr rfl)).mono ?_;rintro e w2 ⟨v,rfl,hb2⟩;have hb2:=hb1.trans (hb2.mono hb1.size)))
  go_ret2
  exact⟨_,rfl,hb2⟩
set_option maxHeartbeats 2000000 in
theorem xnumber_any (s:List UInt8) (hs:s.length≤2100) (w:World) (hE:EnvN w):Calls Tryz.prog 86 #[.string (bstr s)] w fun e w'=>e=.returned (numAns (numberL s))∧Below w.heap.size w w':=by
 have hpu:=Lib.hid (pu64_any s (by omega) w hE)
 have hlt:=puX_lt s
 have HV:=Lib.hid (number_pu s)
 have hfm:=Lib.hid (fun w' (h:Below w.heap.size w w')=>fmt10_q (puX s) hlt w' (hE.next h).pow)
 have he:=bstr_beq (numL 10 (puX s)) s
 generalize numberL s=V at *
 generalize puX s=n at *
 generalize numL 10 n=ds at *
 by_cases h:ds=s
 ·have HW:=Lib.hid (HV.out.trans (if_pos h))
  rw[decide_eq_true h] at he
  clear HV h hE hs
  go_enter Tryz.func86,Tryz.ntmps86
  go_wp2_with (first
   | (go_at_call 116;refine hpu.out.mono ?_;rintro e w1 ⟨v,rfl,hb1⟩)
   | (go_at_call 79;refine (hfm.out _ hb1).mono ?_;rintro e w2 ⟨rfl,hb2⟩;have hb2:=hb1.trans (hb2.mono hb1.size)))
  go_ret2
  exact⟨by rw[HW.out];rfl,hb2⟩
 ·have HW:=Lib.hid (HV.out.trans (if_neg h))
  rw[decide_eq_false h] at he
  clear HV h hE hs
  go_enter Tryz.func86,Tryz.ntmps86
  go_wp2_with (first
   | (go_at_call 116;refine hpu.out.mono ?_;rintro e w1 ⟨v,rfl,hb1⟩)
   | (go_at_call 79;refine (hfm.out _ hb1).mono ?_;rintro e w2 ⟨rfl,hb2⟩;have hb2:=hb1.trans (hb2.mono hb1.size)))
  go_ret2
  exact⟨by rw[HW.out];rfl,hb2⟩
end Go.Proofs.YtjieebmcbpdeiaaGreatDoor
