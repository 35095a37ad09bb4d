import Derived.Test.YtcbilopdeiapjaaGreatDoorRgaz
set_option maxHeartbeats 16000000
set_option maxRecDepth 100000
open Go.Proofs.Tryz
namespace Go.Proofs.YtcbilopdeiapjaaGreatDoor
open Go Go.RowKit Go.Lib
theorem u0S (s:List UInt8) (hs:s.length≤100000) (w:World) (hE:EnvX w):Calls prog 65 #[.string (bstr s),.string ⟨#[32]⟩] w fun e w'=>∃A c,e=.returned (.slice A (a0g 32 s).length c)∧Sl w' A c (a0F (a0g 32 s))∧Below w.heap.size w w':=by
 obtain⟨m,hm⟩:=hE
 refine (Tryz.strings_Split (bstr s) (bstr [32]) m w (by rw[a0c];omega) hm (f1F 1)).mono ?_
 rintro e w' ⟨rfl,rfl⟩
 rw[m0f 32 s,k0Z 32 s]
 refine⟨_,_,rfl,d0c (t:=9) (a0F (a0g 32 s)) ?_ _ (a0w _),(Below.refl _ w).alloc (f1F _) _⟩
 unfold a0F
 rw[List.map_map];rfl
theorem q0h (xs:List (List UInt8)) (j:Nat) (h:j < xs.length):(xs.map bstr).getD j ByteArray.empty=bstr (xs.getD j []):=by
 rw[List.getD_eq_getElem?_getD,List.getElem?_map,List.getD_eq_getElem?_getD,List.getElem?_eq_getElem h];rfl
theorem q0j (xs:List (List UInt8)):Lib.containsS (xs.map bstr) ⟨#[]⟩=!xs.all (fun p=>decide (p≠[])):=by
 rw[Bool.eq_iff_iff,Lib.containsS_iff,Bool.not_eq_true',List.all_eq_false,List.mem_map]
 constructor
 ·rintro ⟨p,hp,he⟩
  refine⟨p,hp,?_⟩
  have:p=[]:=z0i he
  simp[this]
 ·rintro ⟨p,hp,he⟩
  refine⟨p,hp,?_⟩
  have:p=[]:=by simpa using he
  rw[this];rfl
theorem n0w (xs:List (List UInt8)) (hx:xs.length≤1000000) (A:Option Addr) (c:Nat) (w:World) (hs:Sl w A c (a0F xs)) :
  Calls prog 66 #[.slice A xs.length c,.string ⟨#[]⟩] w fun e w'=>e=.returned (.bool (!xs.all (fun p=>decide (p≠[]))))∧w'=w:=by
 by_cases h0:xs.length=0
 ·have e1:=List.length_eq_zero_iff.1 h0
  subst e1
  exact Tryz.slices_Contains_string_empty A c ⟨#[]⟩ w
 ·obtain⟨b1,o1,rfl,-,-⟩:=hs.rd.get (i:=0) (by rw[a0w];omega)
  refine (Tryz.slices_Contains_string b1 o1 xs.length c (xs.map bstr) ⟨#[]⟩ w (by rw[List.length_map];omega) (by omega) (fun j hj=>by rw[List.length_map] at hj;rw[q0h xs j hj];exact c0g hs j hj)).mono ?_
  rintro e w' ⟨rfl,rfl⟩
  rw[List.take_of_length_le (by rw[List.length_map];omega),q0j]
  exact⟨rfl,rfl⟩
theorem m0o (s:List UInt8) (hs:s.length≤10000) (w:World) (hE:EnvX w):Calls prog 43 #[.string (bstr s)] w (p0P (c0h s) w):=by
 have hz:=a0c s
 have hcf:=fun W=>Tryz.strings_ContainsFunc_grows 63 #[] (enters_of func63 (by kernel_rfl) rfl) (b0Y 32 126) (bstr s) W (fun W' x _ _=>p0A x W')
 rw[c1b] at hcf
 have hsp:=f1D (fun w' h=>u0S s (by omega) w' h)
 have hlen:=d0h 32 s
 have hco:=f1D (fun A c w' h=>n0w (a0g 32 s) (by omega) A c w' h)
 have e0:=l0w s
 by_cases h0:s=[]
 ·have HW:=f1D (show c0h s=some [] by rw[h0];rfl)
  rw[decide_eq_true h0] at e0
  clear h0 hcf hsp hco hlen hs
  generalize c0h s=V at *
  go_enter func43,ntmps43
  go_wp2
  go_ret2
  exact⟨none,0,by rw[HW.out];rfl,by rw[HW.out];exact c0q w,Below.refl _ _⟩
 rw[decide_eq_false h0] at e0
 by_cases h2:512 < s.length
 ·have HW:=f1D (y0J s h0 h2)
  have a2:(512:Int) < (s.length:Int):=by omega
  clear h0 h2 hcf hsp hco hlen
  generalize c0h s=V at *
  go_enter func43,ntmps43
  go_wp2
  go_ret2
  exact⟨none,0,by rw[HW.out];rfl,by rw[HW.out];exact c0q w,Below.refl _ _⟩
 have a2:decide ((512:Int) < (s.length:Int))=false:=decide_eq_false (by omega)
 cases hi:s.all inkB with
 | false =>
  have HW:=f1D (y0K s h0 hi)
  rw[hi] at hcf
  have HC:=f1D hcf
  clear h0 h2 hcf hi hsp hco hlen
  generalize c0h s=V at *
  go_enter func43,ntmps43
  go_wp2_with (go_at_call 64;refine (HC.out _).mono ?_;rintro e w1 ⟨rfl,hb1⟩)
  go_ret2
  exact⟨none,0,by rw[HW.out];rfl,by rw[HW.out];exact c0q w1,hb1⟩
 | true =>
  have HV:=f1D (r0i s h0 (by omega) hi)
  rw[hi] at hcf
  have HC:=f1D hcf
  clear h0 h2 hcf hi hlen
  generalize c0h s=V at *
  generalize a0g 32 s=ps at *
  cases ha:ps.all (fun p=>decide (p≠[])) with
  | false =>
   have HW:=f1D (HV.out.trans (if_neg (by rw[ha];decide)))
   rw[ha] at hco
   clear HV ha
   go_enter func43,ntmps43
   go_wp2_with (first
    | (go_at_call 64;refine (HC.out _).mono ?_;rintro e w1 ⟨rfl,hb1⟩)
    | (go_at_call 65;refine (hsp.out _ (hE.next hb1)).mono ?_;rintro e w2 ⟨A,c,rfl,hsl,hb2⟩;have hb2:=hb1.trans (hb2.mono hb1.size))
    | (go_at_call 66;refine (hco.out A c _ hsl).mono ?_;rintro e w3 ⟨rfl,rfl⟩))
   go_ret2
   exact⟨none,0,by rw[HW.out];rfl,by rw[HW.out];exact c0q _,hb2⟩
  | true =>
   have HW:=f1D (HV.out.trans (if_pos ha))
   rw[ha] at hco
   clear HV ha
   go_enter func43,ntmps43
   go_wp2_with (first
    | (go_at_call 64;refine (HC.out _).mono ?_;rintro e w1 ⟨rfl,hb1⟩)
    | (go_at_call 65;refine (hsp.out _ (hE.next hb1)).mono ?_;rintro e w2 ⟨A,c,rfl,hsl,hb2⟩;have hb2:=hb1.trans (hb2.mono hb1.size))
    | (go_at_call 66;refine (hco.out A c _ hsl).mono ?_;rintro e w3 ⟨rfl,rfl⟩))
   go_ret2
   exact⟨A,c,by rw[HW.out];rfl,by rw[HW.out];exact hsl,hb2⟩
end Go.Proofs.YtcbilopdeiapjaaGreatDoor
namespace Go.Proofs.YtcbilopdeiapjaaGreatDoor
open Go Go.RowKit Go.Lib
def j0T (l:List (List UInt8)):Nat→List UInt8
 | 0=>[]
 | k+1=>l.getD k []
theorem t0K (l:List (List UInt8)) (k:Nat):okAt l k=(d0F (l.getD k [])&&Op.bytesLess (j0T l k) (l.getD k [])):=by
 cases k with
 | zero =>
  rw[o0N l 0 rfl]
  cases h:d0F (l.getD 0 []) with
  | false=>rfl
  | true =>
   have hne:=(o0I _ h).1
   generalize l.getD 0 []=s at *
   cases s with
   | nil=>exact absurd rfl hne
   | cons c s=>rfl
 | succ k=>rw[r0M l (k+1) (by omega)];rfl
theorem c1o (a:List UInt8):∀b:List UInt8,(Op.bytesLess a b||a==b)=!Op.bytesLess b a:=by
 induction a with
 | nil =>
  intro b
  cases b with
  | nil=>rfl
  | cons c b=>rfl
 | cons c a ih =>
  intro b
  cases b with
  | nil=>rfl
  | cons d b =>
   show ((decide (c < d)||(c==d&&Op.bytesLess a b))||(c==d&&a==b))=!(decide (d < c)||(d==c&&Op.bytesLess b a))
   have hlt:∀x y:UInt8,decide (x < y)=decide (x.toNat < y.toNat):=fun x y=>rfl
   have heq:∀x y:UInt8,(x==y)=decide (x.toNat=y.toNat):=by
    intro x y
    rw[Bool.eq_iff_iff,beq_iff_eq,decide_eq_true_iff]
    exact UInt8.toNat_inj.symm
   rw[hlt,hlt,heq,heq]
   rcases Nat.lt_trichotomy c.toNat d.toNat with h | h | h
   ·rw[decide_eq_true h,decide_eq_false (by omega:¬d.toNat < c.toNat),decide_eq_false (by omega:¬d.toNat=c.toNat)];rfl
   ·rw[decide_eq_false (by omega:¬c.toNat < d.toNat),decide_eq_false (by omega:¬d.toNat < c.toNat),decide_eq_true h,decide_eq_true h.symm]
    simpa using ih b
   ·rw[decide_eq_false (by omega:¬c.toNat < d.toNat),decide_eq_true h,decide_eq_false (by omega:¬c.toNat=d.toNat)];rfl
theorem a1W (l:List (List UInt8)) (hp:∀p∈l,p.length≤100000) (hl:l.length≤100000) (A:Option Addr) (c:Nat) (w:World) (hsl:Sl w A c (a0F l)) :
  Calls prog 103 #[.slice A l.length c] w fun e w'=>e=.returned (.bool (c0Y l))∧Below w.heap.size w w':=by
 obtain⟨V,hV⟩:∃V,V=c0Y l:=⟨_,rfl⟩
 have HV:=f1D hV
 rw[←hV]
 clear hV
 by_cases h1:l.length=0
 ·have HW:=f1D (show V=false by rw[HV.out];unfold c0Y;rw[decide_eq_false (by omega:¬1≤l.length)];rfl)
  have a1:((l.length:Int)==0)=true:=by rw[beq_iff_eq];omega
  clear HV h1
  go_enter func103,ntmps103
  go_wp2
  go_ret
  exact⟨by rw[HW.out];rfl,Below.refl _ _⟩
 have a1:((l.length:Int)==0)=false:=by rw[beq_eq_false_iff_ne];omega
 by_cases h2:32 < l.length
 ·have HW:=f1D (show V=false by rw[HV.out];unfold c0Y;rw[decide_eq_false (by omega:¬l.length≤32),Bool.and_false];rfl)
  have a2:(32:Int) < (l.length:Int):=by omega
  clear HV h1 h2
  go_enter func103,ntmps103
  go_wp2
  go_ret
  exact⟨by rw[HW.out];rfl,Below.refl _ _⟩
 have a2:decide ((32:Int) < (l.length:Int))=false:=decide_eq_false (by omega)
 have HT:=f1D (show (∀i < l.length,okAt l i=true)→V=true from fun h=>by rw[HV.out];exact (i0g l).2 ⟨by omega,by omega,h⟩)
 have HFa:=f1D (show ∀i,i < l.length→okAt l i=false→V=false from fun i hi h=>by rw[HV.out];exact p0f l i hi h)
 have hnm:=f1D (fun s (h:s∈l) w'=>y0M s (hp s h) w')
 clear HV h1 h2 hp
 go_enter func103,ntmps103
 go_wp2
 clear a1 a2
 go_loopw [3,16] (fun v i wr=>∃k:Nat,k≤l.length∧v=.string (bstr (j0T l k))∧i=.int .i64 k∧(∀j < k,okAt l j=true)∧Below w.heap.size w wr) (fun _ i _=>l.length - (intOf i).toNat)
 case atStart=>exact⟨0,by omega,rfl,rfl,fun j hj=>by omega,Below.refl _ _⟩
 case round =>
  obtain⟨k,hk,rfl,rfl,hf,hbr⟩:=hrel
  by_cases hlt:k < l.length
  ·have hlt':(k:Int) < (l.length:Int):=by omega
   obtain⟨b,o,rfl,-,-⟩:=hsl.rd.get (i:=k) (by rw[a0w];exact hlt)
   have hix:=b0w (some ⟨b,o,none⟩) b o l.length c k rfl hlt
   have hce:=c0g (hsl.later (f1F _) hbr) k hlt
   have HF:=f1D hf
   have HC:=f1D (hnm.out (l.getD k []) (by rw[List.getD_eq_getElem?_getD,List.getElem?_eq_getElem hlt];exact List.getElem_mem hlt))
   have HA:=f1D (t0K l k)
   have HB:=f1D (HFa.out k hlt)
   have hnx:j0T l (k+1)=l.getD k []:=rfl
   have HX:=f1D hnx
   have HL:=f1D (show (Op.bytesLess (bstr (l.getD k [])).toList (bstr (j0T l k)).toList||(bstr (l.getD k [])).toList==(bstr (j0T l k)).toList)=!Op.bytesLess (j0T l k) (l.getD k []) by rw[a0p,a0p];exact c1o _ _)
   clear hf hnx
   generalize l.getD k []=s at *
   generalize j0T l k=s1 at *
   cases hsg:d0F s with
   | true =>
    cases hle:Op.bytesLess s1 s with
    | true =>
     have HN:=f1D (k0y l k HF.out (by rw[HA.out,hsg,hle];rfl))
     have hle2:=HL.out.trans (congrArg (!·) hle)
     obtain⟨p1,p2⟩:=Bool.or_eq_false_iff.1 hle2
     rw[hsg] at HC
     clear HA hsg HB HL hle hle2
     go_wp2_with (go_at_call 141;refine (HC.out _).mono ?_;rintro e w' ⟨rfl,hq⟩;have hq:=hbr.trans (hq.mono hbr.size))
     go_roundw
     case rel=>exact⟨k+1,by omega,by rw[HX.out],by go_num,HN.out,hq⟩
     case measure=>simp[intOf];omega
    | false =>
     have HN:=f1D (HB.out (by rw[HA.out,hsg,hle];rfl))
     have hle2:=HL.out.trans (congrArg (!·) hle)
     rw[hsg] at HC
     clear HA hsg HB HL hle
     rcases hp1:Op.bytesLess (bstr s).toList (bstr s1).toList with _ | _
     ·rw[hp1,Bool.false_or] at hle2
      go_wp2_with (go_at_call 141;refine (HC.out _).mono ?_;rintro e w' ⟨rfl,hq⟩;have hq:=hbr.trans (hq.mono hbr.size))
      go_ret
      exact⟨by rw[HN.out];rfl,hq⟩
     ·clear hle2
      go_wp2_with (go_at_call 141;refine (HC.out _).mono ?_;rintro e w' ⟨rfl,hq⟩;have hq:=hbr.trans (hq.mono hbr.size))
      go_ret
      exact⟨by rw[HN.out];rfl,hq⟩
   | false =>
    have HN:=f1D (HB.out (by rw[HA.out,hsg];rfl))
    rw[hsg] at HC
    clear HA hsg HB HL
    go_wp2_with (go_at_call 141;refine (HC.out _).mono ?_;rintro e w' ⟨rfl,hq⟩;have hq:=hbr.trans (hq.mono hbr.size))
    go_ret
    exact⟨by rw[HN.out];rfl,hq⟩
  ·obtain rfl:k=l.length:=by omega
   have HN:=f1D (HT.out hf)
   clear hf
   go_wp2
   go_ret
   exact⟨by rw[HN.out];rfl,hbr⟩
end Go.Proofs.YtcbilopdeiapjaaGreatDoor
namespace Go.Proofs.YtcbilopdeiapjaaGreatDoor
open Go Go.RowKit
theorem l0F (c:UInt8):digI 10 c=if 48≤c.toNat∧c.toNat≤57 then (c.toNat:Int) - 48 else -1:=by
 have h:∀n:Fin 256,digI 10 (UInt8.ofNat n.1)=if 48≤n.1∧n.1≤57 then (n.1:Int) - 48 else -1:=by decide +kernel
 have:=h ⟨c.toNat,c.toNat_lt⟩
 simpa using this
theorem t0a (s:List UInt8) (k m:Nat) (h:k < s.length) (hc:¬(48≤(s.getD k 0).toNat∧(s.getD k 0).toNat≤57)):c0c 10 m (s.drop k)=none:=by
 rw[g0V 10 m k s h,l0F,if_neg hc];rfl
theorem q0f (s:List UInt8) (k m:Nat) (h:k < s.length) (hc:48≤(s.getD k 0).toNat∧(s.getD k 0).toNat≤57):c0c 10 m (s.drop k)=c0c 10 (m*10+((s.getD k 0).toNat - 48)) (s.drop (k+1)):=by
 rw[g0V 10 m k s h,l0F,if_pos hc,if_neg (by omega)]
 congr 1
 omega
def o0L (o:Option Nat):Value:=.tuple #[.int .u64 ((o.getD 0:Nat):Int),.bool o.isSome]
theorem q0u (s:List UInt8) (h:20 < s.length):a0J s=none:=by
 unfold a0J a0P
 rw[if_pos (.inr h)]
theorem t0G (s:List UInt8) (h:c0c 10 0 s=none):a0J s=none:=by
 unfold a0J a0P
 rw[h]
 split
 ·rfl
 ·rename_i e;split at e<;>cases e
theorem t0H (s:List UInt8) (_hl:s.length≤20) (V:Nat) (h:c0c 10 0 s=some V):a0J s=if numL 10 (V%2^64)=s then some (V%2^64) else none:=by
 by_cases he:numL 10 (V%2^64)=s
 ·rw[if_pos he]
  have hlt:V%2^64 < 2^64:=Nat.mod_lt _ (by decide)
  have:=d0Z (V%2^64) hlt
  rw[he] at this
  exact this
 ·rw[if_neg he]
  unfold a0J
  cases hv:a0P 10 20 s with
  | none=>rfl
  | some n =>
   obtain⟨h1,-⟩:=(c0W 10 20 (by omega) (by omega) s n).1 hv
   have h2:=f0B 10 (by omega) (by omega) n
   rw[h1,h] at h2
   cases h2
   show (if V < 2^64 then some V else none)=none
   rw[if_neg]
   intro hn
   rw[Nat.mod_eq_of_lt hn] at he
   exact he h1
theorem n0i (s:List UInt8) (hs:s.length≤100000) (w:World):Calls prog 47 #[.string (bstr s)] w fun e w'=>e=.returned (o0L (a0J s))∧Below w.heap.size w w':=by
 have hz:=a0c s
 by_cases hlong:20 < s.length
 ·have HV:=f1D (q0u s hlong)
  have a1:(20:Int) < (s.length:Int):=by omega
  clear hlong
  go_enter func47,ntmps47
  go_wp2
  go_ret2
  exact⟨by rw[HV.out];rfl,Below.refl _ _⟩
 ·have a1:decide ((20:Int) < (s.length:Int))=false:=decide_eq_false (by omega)
  have HL:=f1D (show s.length≤20 by omega)
  go_enter func47,ntmps47
  go_wp2
  clear a1 hlong
  go_loop [4,5] (fun x i=>∃k m V:Nat,k≤s.length∧i=.int .i64 k∧x=.int .u64 m∧m=V%2^64∧c0c 10 V (s.drop k)=c0c 10 0 s) (fun _ i=>s.length - (intOf i).toNat)
  case atStart=>exact⟨0,0,0,by omega,rfl,rfl,rfl,rfl⟩
  case round =>
   obtain⟨k,m,V,hk,rfl,rfl,hmV,hf⟩:=hrel
   by_cases hlt:k < s.length
   ·have hlt':(k:Int) < (s.length:Int):=by omega
    have hix:=a0V s k hlt
    have HB:=f1D (fun h=>hf.symm.trans (t0a s k V hlt h))
    have HG:=f1D (fun h=>(q0f s k V hlt h).symm.trans hf)
    have hbd:=d0k (s.getD k 0)
    generalize s.getD k 0=c at *
    clear hf
    by_cases hc:48≤c.toNat∧c.toNat≤57
    ·have HN:=f1D (HG.out hc)
     have c1:decide ((c.toNat:Int) < 48)=false:=decide_eq_false (by omega)
     have c2:decide ((57:Int) < (c.toNat:Int))=false:=decide_eq_false (by omega)
     obtain⟨m1,hm1⟩:∃m1:Nat,m1=m*10%2^64:=⟨_,rfl⟩
     obtain⟨m2,hm2⟩:∃m2:Nat,m2=(m1+c.toNat)%2^64:=⟨_,rfl⟩
     obtain⟨m3,hm3⟩:∃m3:Nat,m3=(V*10+(c.toNat - 48))%2^64:=⟨_,rfl⟩
     have hw1:IntKind.u64.wrap ((m:Int)*10)=(m1:Int):=by rw[IntKind.wrap_u64];omega
     have hw0:IntKind.u64.wrap (c.toNat:Int)=(c.toNat:Int):=by rw[IntKind.wrap_u64];omega
     have hw2:IntKind.u64.wrap ((m1:Int)+(c.toNat:Int))=(m2:Int):=by rw[IntKind.wrap_u64];omega
     have hw3:IntKind.u64.wrap ((m2:Int) - 48)=(m3:Int):=by rw[IntKind.wrap_u64];omega
     have HM3:=f1D hm3
     clear HB HG hc hmV hm1 hm2 hm3
     go_wp2
     go_round
     case rel=>exact⟨k+1,m3,V*10+(c.toNat - 48),by omega,by go_num,rfl,HM3.out,HN.out⟩
     case measure=>simp[intOf];omega
    ·have HW:=f1D (t0G s (HB.out hc))
     clear HB HG hmV
     by_cases c1:c.toNat < 48
     ·have c1':(c.toNat:Int) < 48:=by omega
      clear hc c1
      go_wp2
      go_ret2
      exact⟨by rw[HW.out];rfl,Below.refl _ _⟩
     ·have c1':decide ((c.toNat:Int) < 48)=false:=decide_eq_false (by omega)
      have c2':(57:Int) < (c.toNat:Int):=by omega
      clear hc c1
      go_wp2
      go_ret2
      exact⟨by rw[HW.out];rfl,Below.refl _ _⟩
   ·obtain rfl:k=s.length:=by omega
    have hf0:c0c 10 0 s=some V:=by rw[←hf,List.drop_length];rfl
    have hval:=t0H s HL.out V hf0
    rw[←hmV] at hval
    have hm64:m < 2^64:=by rw[hmV];exact Nat.mod_lt _ (by decide)
    have hn:=f1D (fun w'=>l0Y m m w' (f1F _) hm64)
    have he:=c0b (numL 10 m) s
    have HW:=f1D hval
    clear hf hf0 hval hmV
    by_cases hs2:numL 10 m=s
    ·have HX:=f1D (HW.out.trans (if_pos hs2))
     rw[decide_eq_true hs2] at he
     clear HW hs2
     generalize numL 10 m=X at *
     go_wp2_with (go_at_call 75;refine (hn.out _).mono ?_;rintro e w1 ⟨rfl,hb1⟩)
     go_ret2
     exact⟨by rw[HX.out];rfl,hb1⟩
    ·have HX:=f1D (HW.out.trans (if_neg hs2))
     rw[decide_eq_false hs2] at he
     clear HW hs2
     generalize numL 10 m=X at *
     go_wp2_with (go_at_call 75;refine (hn.out _).mono ?_;rintro e w1 ⟨rfl,hb1⟩)
     go_ret2
     exact⟨by rw[HX.out];rfl,hb1⟩
structure EnvN (w:World):Prop where
 most:EnvX w
 pow:Lib.TabIs prog w "internal/strconv.uint64pow10" .u64 Lib.pow10Tab
 synt:∃v,w.cell? ⟨4,0,none⟩=some v∧(v=.nilIface∨∃t p,v=.iface t p)
 rang:∃v,w.cell? ⟨5,0,none⟩=some v∧(v=.nilIface∨∃t p,v=.iface t p)
theorem EnvN.next {w w':World} (h:EnvN w) (hb:Below w.heap.size w w'):EnvN w':=by
 obtain⟨hm,hp,⟨v,hv,h1⟩,⟨u,hu,h2⟩⟩:=h
 exact⟨hm.next hb,Joins.tab_stays gPow hp hb (f1F _),⟨v,g0u hv (f1F _) hb,h1⟩,⟨u,g0u hu (f1F _) hb,h2⟩⟩
theorem d1b (fn s:ByteArray) (b n:Int) (hs:s.size≤281474976710656) (w:World) (hE:EnvN w) (k:Int) (hk:k=1∨k=2) :
  Calls prog 139 #[.string fn,.string s,.int .i64 b,.int .i64 n,.iface 225 (.int .i64 k)] w (p0O w):=by
 rcases hk with rfl | rfl
 ·obtain⟨v,h1,h2⟩:=hE.rang
  refine (Tryz.strconv_toError_range fn s b n v w hs h1 h2).mono ?_
  rintro e w' ⟨N,rfl,-,-,hb⟩
  exact⟨_,rfl,hb⟩
 ·obtain⟨v,h1,h2⟩:=hE.synt
  refine (Tryz.strconv_toError_syntax fn s b n v w hs h1 h2).mono ?_
  rintro e w' ⟨N,rfl,-,-,hb⟩
  exact⟨_,rfl,hb⟩
theorem w0w (l:List UInt8) (hl:l.length≤100000) (w:World) :
  ∃c:Nat,(c=0∨c=1∨c=2)∧Calls prog 138 #[.string (bstr l),.int .i64 10,.int .i64 64] w fun e w'=>e=.returned (.tuple #[.int .u64 (puX l:Nat),errV c])∧Below w.heap.size w w':=by
 have h:=Tryz.internal_strconv_ParseUint_10_at64 (bstr l) (by rw[a0c];omega) w
 have hb:∀w':World,(w'=w∨w'=Lib.bytesWorld w 5 (bstr l))→Below w.heap.size w w':=by
  rintro w' (rfl | rfl)
  ·exact Below.refl _ _
  ·exact Lib.bytesWorld_below _ _ _
 have e0:(bstr l).data.toList=l:=rfl
 rw[e0] at h
 unfold puX
 cases hp:Lib.parseUintB 64 l with
 | ok v =>
  rw[hp] at h
  exact⟨0,.inl rfl,h.mono fun e w' ⟨he,hw⟩=>⟨he,hb w' hw⟩⟩
 | range =>
  rw[hp] at h
  exact⟨1,.inr (.inl rfl),h.mono fun e w' ⟨he,hw⟩=>⟨he,hb w' hw⟩⟩
 | _ =>
  rw[hp] at h
  exact⟨2,.inr (.inr rfl),h.mono fun e w' ⟨he,hw⟩=>⟨he,hb w' hw⟩⟩
theorem b1O:errV 1=.iface 225 (.int .i64 1):=rfl
theorem b1P:errV 2=.iface 225 (.int .i64 2):=rfl
theorem a1v (l:List UInt8) (hl:l.length≤100000) (w:World) (hE:EnvN w) :
  Calls prog 100 #[.string (bstr l),.int .i64 10,.int .i64 64] w (u0U (puX l) w):=by
 obtain⟨c,hc,hi⟩:=w0w l hl w
 have hsz:(bstr l).size≤281474976710656:=by rw[a0c];omega
 have hts:=f1D (fun fn w' (h:Below w.heap.size w w') k hk=>d1b fn (bstr l) 10 64 hsz w' (hE.next h) k hk)
 generalize puX l=n at *
 clear hE hl hsz
 rcases hc with rfl | rfl | rfl
 ·rw[show errV 0=.nilIface from rfl] at hi
  have hi:=f1D hi
  go_enter func100,ntmps100
  go_wp2_with (go_at_call 138;refine hi.out.mono ?_;rintro e w' ⟨rfl,hb1⟩)
  go_ret2
  exact⟨_,rfl,hb1⟩
 ·rw[b1O] at hi
  have hi:=f1D hi
  go_enter func100,ntmps100
  go_wp2_with (first
   | (go_at_call 138;refine hi.out.mono ?_;rintro e w' ⟨rfl,hb1⟩)
   | (go_at_call 139;refine (hts.out _ _ hb1 1 (.inl rfl)).mono ?_;rintro e w2 ⟨v,rfl,hb2⟩;have hb2:=hb1.trans (hb2.mono hb1.size)))
  go_ret2
  exact⟨_,rfl,hb2⟩
 ·rw[b1P] at hi
  have hi:=f1D hi
  go_enter func100,ntmps100
  go_wp2_with (first
   | (go_at_call 138;refine hi.out.mono ?_;rintro e w' ⟨rfl,hb1⟩)
   | (go_at_call 139;refine (hts.out _ _ hb1 2 (.inr rfl)).mono ?_;rintro e w2 ⟨v,rfl,hb2⟩;have hb2:=hb1.trans (hb2.mono hb1.size)))
  go_ret2
  exact⟨_,rfl,hb2⟩
theorem l0m (s:List UInt8) (hs:s.length≤2100) (w:World) (hE:EnvN w):Calls prog 67 #[.string (bstr s)] w fun e w'=>e=.returned (o0L (a0J s))∧Below w.heap.size w w':=by
 have hpu:=f1D (a1v s (by omega) w hE)
 have hlt:=b1p s
 have HV:=f1D (w0W s)
 have hfm:=f1D (fun w' (h:Below w.heap.size w w')=>i0z (puX s) hlt w' (hE.next h).pow)
 have he:=c0b (numL 10 (puX s)) s
 generalize a0J s=V at *
 generalize puX s=n at *
 generalize numL 10 n=ds at *
 by_cases h:ds=s
 ·have HW:=f1D (HV.out.trans (if_pos h))
  rw[decide_eq_true h] at he
  clear HV h hE hs
  go_enter func67,ntmps67
  go_wp2_with (first
   | (go_at_call 100;refine hpu.out.mono ?_;rintro e w1 ⟨v,rfl,hb1⟩)
   | (go_at_call 101;refine (hfm.out _ hb1).mono ?_;rintro e w2 ⟨rfl,hb2⟩;have hb2:=hb1.trans (hb2.mono hb1.size)))
  go_ret2
  exact⟨by rw[HW.out];rfl,hb2⟩
 ·have HW:=f1D (HV.out.trans (if_neg h))
  rw[decide_eq_false h] at he
  clear HV h hE hs
  go_enter func67,ntmps67
  go_wp2_with (first
   | (go_at_call 100;refine hpu.out.mono ?_;rintro e w1 ⟨v,rfl,hb1⟩)
   | (go_at_call 101;refine (hfm.out _ hb1).mono ?_;rintro e w2 ⟨rfl,hb2⟩;have hb2:=hb1.trans (hb2.mono hb1.size)))
  go_ret2
  exact⟨by rw[HW.out];rfl,hb2⟩
open Go Go.RowKit Go.Lib
theorem j0r (l k:List UInt8):((bstr l).toList==k)=decide (l=k):=by
 rw[a0p,Bool.eq_iff_iff,beq_iff_eq,decide_eq_true_iff]
def d0b (x:Nat):Bool:=!(decide (97≤x)&&decide (x≤122))&&!(decide (65≤x)&&decide (x≤90))&&!(decide (48≤x)&&decide (x≤57))&&decide (x≠46)&&decide (x≠95)&&decide (x≠45)
theorem j0g (c:UInt8):d0b c.toNat=!d0s c:=by
 unfold d0b d0s
 have e:∀d:UInt8,(c==d)=decide (c.toNat=d.toNat):=by
  intro d
  rw[Bool.eq_iff_iff,beq_iff_eq,decide_eq_true_iff]
  exact UInt8.toNat_inj.symm
 rw[e 46,e 95,e 45,show (decide ((97:UInt8)≤c∧c≤122))=(decide (97≤c.toNat)&&decide (c.toNat≤122)) from by rw[Bool.decide_and];rfl,
  show (decide ((65:UInt8)≤c∧c≤90))=(decide (65≤c.toNat)&&decide (c.toNat≤90)) from by rw[Bool.decide_and];rfl,
  show (decide ((48:UInt8)≤c∧c≤57))=(decide (48≤c.toNat)&&decide (c.toNat≤57)) from by rw[Bool.decide_and];rfl]
 show _=!(_||decide (c.toNat=46)||decide (c.toNat=95)||decide (c.toNat=45))
 simp only[Bool.not_or,decide_not,Bool.not_and]
theorem j0h (x:Nat) (h:128≤x):d0b x=true:=by
 unfold d0b
 rw[decide_eq_false (by omega:¬x≤122),decide_eq_false (by omega:¬x≤90),decide_eq_false (by omega:¬x≤57),decide_eq_true (by omega:x≠46),decide_eq_true (by omega:x≠95),decide_eq_true (by omega:x≠45)]
 simp
theorem x0W (c:UInt8) (h:128≤c.toNat):d0s c=false:=by
 have:=j0g c
 rw[j0h _ h] at this
 cases hs:d0s c with
 | false=>rfl
 | true=>rw[hs] at this;cases this
theorem y0V (s:List UInt8) (k:Nat) (h:k < s.length):(s.drop k).all d0s=(d0s (s[k])&&(s.drop (k+1)).all d0s):=by
 rw[List.drop_eq_getElem_cons h,List.all_cons]
theorem z0D (s:List UInt8):∀(f pos:Nat),s.length≤pos+f→decide (0≤idxFuncFrom d0b true (bstr s) f pos)=!(s.drop pos).all d0s:=by
 intro f
 have hz:=a0c s
 induction f with
 | zero =>
  intro pos h
  rw[List.drop_eq_nil_of_le (by omega)];rfl
 | succ f ih =>
  intro pos h
  rw[idxFuncFrom]
  by_cases hp:pos < s.length
  ·rw[if_pos (by omega),y0V s pos hp]
   have hp':pos < (bstr s).size:=by omega
   have hb:(bstr s)[pos]'hp'=s[pos]:=rfl
   by_cases ha:(s[pos]).toNat < 128
   ·have e:=decode_ascii (bstr s) pos hp' (by rw[hb];exact ha)
    rw[hb] at e
    rw[e]
    show decide (0≤if d0b (s[pos]).toNat=true then (pos:Int) else idxFuncFrom d0b true (bstr s) f (pos+1))=_
    rw[j0g]
    cases hs:d0s s[pos] with
    | false=>rw[if_pos (by rfl)];simp
    | true =>
     rw[if_neg (by simp),ih (pos+1) (by omega),Bool.true_and]
   ·have e:=(decode_high (bstr s) pos hp' (by rw[hb];omega)).1
    rw[if_pos (j0h _ e),x0W _ (by omega)]
    simp
  ·rw[if_neg (by omega),List.drop_eq_nil_of_le (by omega)];rfl
theorem z0F (s:List UInt8):decide (0≤idxFunc d0b true (bstr s))=!s.all d0s:=by
 unfold idxFunc
 exact z0D s _ 0 (by rw[a0c];omega)
theorem m0H (x:Nat) (a b:Int) (B:Nat) (w:World) (hc:w.cell? ⟨B,0,none⟩=some (.int .i32 x)) :
  Calls prog 237 #[.int .i32 a,.int .i32 b,.pointer (some ⟨B,0,none⟩)] w fun e w'=>e=.returned (.bool (decide (a≤(x:Int))&&decide ((x:Int)≤b)))∧w=w':=by
 by_cases h1:a≤(x:Int)
 ·rw[decide_eq_true h1,Bool.true_and]
  go_enter func237,ntmps237
  go_wp2
  go_ret
  exact⟨rfl,rfl⟩
 ·have h1':decide (a≤(x:Int))=false:=decide_eq_false h1
  rw[h1',Bool.false_and]
  go_enter func237,ntmps237
  go_wp2
  go_ret
  exact⟨rfl,rfl⟩
theorem i0v (x a b:Nat):(decide ((a:Int)≤(x:Int))&&decide ((x:Int)≤(b:Int)))=(decide (a≤x)&&decide (x≤b)):=by
 rw[show decide ((a:Int)≤(x:Int))=decide (a≤x) from decide_eq_decide.2 (by omega),show decide ((x:Int)≤(b:Int))=decide (x≤b) from decide_eq_decide.2 (by omega)]
theorem r0c (x:Nat) (w:World) :
  Calls prog 236 #[.int .i32 x] w fun e w'=>e=.returned (.bool (d0b x))∧Below w.heap.size w w':=by
 have HV:=f1D (show d0b x=(!(decide (97≤x)&&decide (x≤122))&&!(decide (65≤x)&&decide (x≤90))&&!(decide (48≤x)&&decide (x≤57))&&decide (x≠46)&&decide (x≠95)&&decide (x≠45)) from rfl)
 generalize d0b x=V at *
 have c1:=fun W hc=>i0v x 97 122 ▸ m0H x 97 122 w.heap.size W hc
 have c2:=fun W hc=>i0v x 65 90 ▸ m0H x 65 90 w.heap.size W hc
 have c3:=fun W hc=>i0v x 48 57 ▸ m0H x 48 57 w.heap.size W hc
 have hcell:(w.alloc (.cells #[.int .i32 (x:Int)] 21)).cell? ⟨w.heap.size,0,none⟩=some (.int .i32 (x:Int)):=(Row.new w 21 [.int .i32 (x:Int)]).cell 0
 replace c1:=c1 _ hcell
 replace c2:=c2 _ hcell
 replace c3:=c3 _ hcell
 generalize (decide (97≤x)&&decide (x≤122))=b1 at *
 generalize (decide (65≤x)&&decide (x≤90))=b2 at *
 generalize (decide (48≤x)&&decide (x≤57))=b3 at *
 have C1:=f1D c1
 have C2:=f1D c2
 have C3:=f1D c3
 clear c1 c2 c3
 have hb:Below w.heap.size w (w.alloc (.cells #[.int .i32 (x:Int)] 21)):=(Below.refl _ w).alloc (f1F _) _
 have tok1:True:=trivial
 have tok2:True:=trivial
 cases b1 with
 | true =>
  have HW:=f1D (show V=false by rw[HV.out];rfl)
  clear HV
  go_enter func236,ntmps236
  go_wp2_with (go_at_call 237;have _t:=tok1;refine C1.out.mono ?_;rintro e w' ⟨rfl,rfl⟩;clear tok1)
  go_ret
  exact⟨by rw[HW.out];rfl,hb⟩
 | false =>
  cases b2 with
  | true =>
   have HW:=f1D (show V=false by rw[HV.out];rfl)
   clear HV
   go_enter func236,ntmps236
   go_wp2_with (first
    | (go_at_call 237;have _t:=tok1;refine C1.out.mono ?_;rintro e w' ⟨rfl,rfl⟩;clear tok1)
    | (go_at_call 237;have _t:=tok2;refine C2.out.mono ?_;rintro e w' ⟨rfl,rfl⟩;clear tok2))
   go_ret
   exact⟨by rw[HW.out];rfl,hb⟩
  | false =>
   cases b3 with
   | true =>
    have HW:=f1D (show V=false by rw[HV.out];rfl)
    clear HV
    go_enter func236,ntmps236
    go_wp2_with (first
     | (go_at_call 237;have _t:=tok1;refine C1.out.mono ?_;rintro e w' ⟨rfl,rfl⟩;clear tok1)
     | (go_at_call 237;have _t:=tok2;refine C2.out.mono ?_;rintro e w' ⟨rfl,rfl⟩;clear tok2)
     | (go_at_call 237;refine C3.out.mono ?_;rintro e w' ⟨rfl,rfl⟩))
    go_ret
    exact⟨by rw[HW.out];rfl,hb⟩
   | false =>
    have HW:=f1D (show V=(decide (x≠46)&&decide (x≠95)&&decide (x≠45)) by rw[HV.out];rfl)
    have n1:((x:Int) != 46)=decide (x≠46):=by rw[Bool.eq_iff_iff,bne_iff_ne,decide_eq_true_iff];omega
    have n2:((x:Int) != 95)=decide (x≠95):=by rw[Bool.eq_iff_iff,bne_iff_ne,decide_eq_true_iff];omega
    have n3:((x:Int) != 45)=decide (x≠45):=by rw[Bool.eq_iff_iff,bne_iff_ne,decide_eq_true_iff];omega
    generalize decide (x≠46)=D1 at *
    generalize decide (x≠95)=D2 at *
    generalize decide (x≠45)=D3 at *
    clear HV
    cases D1 with
    | false =>
     have HX:=f1D (show V=false by rw[HW.out];rfl)
     clear HW
     go_enter func236,ntmps236
     go_wp2_with (first
      | (go_at_call 237;have _t:=tok1;refine C1.out.mono ?_;rintro e w' ⟨rfl,rfl⟩;clear tok1)
      | (go_at_call 237;have _t:=tok2;refine C2.out.mono ?_;rintro e w' ⟨rfl,rfl⟩;clear tok2)
      | (go_at_call 237;refine C3.out.mono ?_;rintro e w' ⟨rfl,rfl⟩))
     go_ret
     exact⟨by rw[HX.out];rfl,hb⟩
    | true =>
     cases D2 with
     | false =>
      have HX:=f1D (show V=false by rw[HW.out];rfl)
      clear HW
      go_enter func236,ntmps236
      go_wp2_with (first
       | (go_at_call 237;have _t:=tok1;refine C1.out.mono ?_;rintro e w' ⟨rfl,rfl⟩;clear tok1)
       | (go_at_call 237;have _t:=tok2;refine C2.out.mono ?_;rintro e w' ⟨rfl,rfl⟩;clear tok2)
       | (go_at_call 237;refine C3.out.mono ?_;rintro e w' ⟨rfl,rfl⟩))
      go_ret
      exact⟨by rw[HX.out];rfl,hb⟩
     | true =>
      have HX:=f1D (show V=D3 by rw[HW.out];rfl)
      clear HW
      go_enter func236,ntmps236
      go_wp2_with (first
       | (go_at_call 237;have _t:=tok1;refine C1.out.mono ?_;rintro e w' ⟨rfl,rfl⟩;clear tok1)
       | (go_at_call 237;have _t:=tok2;refine C2.out.mono ?_;rintro e w' ⟨rfl,rfl⟩;clear tok2)
       | (go_at_call 237;refine C3.out.mono ?_;rintro e w' ⟨rfl,rfl⟩))
      go_ret
      exact⟨by rw[HX.out];rfl,hb⟩
theorem t0p (s:List UInt8) (w:World):Calls prog 195 #[.string (bstr s)] w fun e w'=>e=.returned (.bool (c0l s))∧Below w.heap.size w w':=by
 have hz:=a0c s
 have HV:=f1D (show c0l s=(decide (1≤s.length)&&decide (s.length≤64)&&decide (s≠[46])&&decide (s≠[46,46])&&s.all d0s) from rfl)
 have hcf:=fun W=>Tryz.strings_ContainsFunc_grows 236 #[] (enters_of func236 (by kernel_rfl) rfl) d0b (bstr s) W (fun W' x _ _=>r0c x W')
 rw[z0F] at hcf
 have HC:=f1D hcf
 clear hcf
 generalize c0l s=V at *
 have e0:(bstr s).toList.isEmpty=decide (s=[]):=by rw[a0p];cases s<;>rfl
 have e1:=j0r s [46]
 have e2:=j0r s [46,46]
 by_cases h0:s=[]
 ·have HW:=f1D (show V=false by rw[HV.out,h0];rfl)
  rw[decide_eq_true h0] at e0
  clear HV h0 e1 e2
  go_enter func195,ntmps195
  go_wp2
  go_ret
  exact⟨by rw[HW.out];rfl,Below.refl _ _⟩
 rw[decide_eq_false h0] at e0
 have hpos:1≤s.length:=List.length_pos_iff.2 h0
 by_cases h2:64 < s.length
 ·have HW:=f1D (show V=false by rw[HV.out,decide_eq_false (by omega:¬s.length≤64),Bool.and_false];rfl)
  have a2:decide ((s.length:Int)≤64)=false:=decide_eq_false (by omega)
  clear HV h0 e1 e2
  go_enter func195,ntmps195
  go_wp2
  go_ret
  exact⟨by rw[HW.out];rfl,Below.refl _ _⟩
 have a2:(s.length:Int)≤64:=by omega
 by_cases h3:s=[46]
 ·have HW:=f1D (show V=false by rw[HV.out,decide_eq_false (fun h=>h h3:¬s≠[46]),Bool.and_false];rfl)
  rw[decide_eq_true h3] at e1
  clear HV h0 h3 e2
  go_enter func195,ntmps195
  go_wp2
  go_ret
  exact⟨by rw[HW.out];rfl,Below.refl _ _⟩
 rw[decide_eq_false h3] at e1
 by_cases h4:s=[46,46]
 ·have HW:=f1D (show V=false by rw[HV.out,decide_eq_false (fun h=>h h4:¬s≠[46,46]),Bool.and_false];rfl)
  rw[decide_eq_true h4] at e2
  clear HV h0 h3 h4
  go_enter func195,ntmps195
  go_wp2
  go_ret
  exact⟨by rw[HW.out];rfl,Below.refl _ _⟩
 rw[decide_eq_false h4] at e2
 have HW:=f1D (show V=s.all d0s by rw[HV.out,decide_eq_true hpos,decide_eq_true (show s.length≤64 by omega),decide_eq_true h3,decide_eq_true h4];rfl)
 clear HV h0 h2 h3 h4 hpos
 go_enter func195,ntmps195
 go_wp2_with (go_at_call 64;refine (HC.out _).mono ?_;rintro e w' ⟨rfl,hb⟩)
 go_ret
 exact⟨by rw[HW.out];rfl,hb⟩
end Go.Proofs.YtcbilopdeiapjaaGreatDoor
namespace Go.Proofs.YtcbilopdeiapjaaGreatDoor
open Go Go.RowKit Go.Lib
theorem a1c {w:World} {base t n c:Nat} {A:Option Addr} {xs:List Value} (h:w.ownsRow base t 1 (.slice A n c) n xs) (k:Nat) (hk:k≤n) (hA:A≠none):w.ownsRow base t 1 (.slice A k c) k (xs.take k):=by
 obtain⟨hl,h | ⟨g,cap,cur,e,hg,hb,hc,hm,hs,ht⟩⟩:=h
 ·exact absurd (by injection h.1) hA
 ·cases e
  refine⟨by rw[List.length_take,hl];omega,.inr ⟨g,c,cur,rfl,hg,hb,Nat.le_trans hk hc,hm,hs,?_⟩⟩
  rw[←ht,List.take_take]
  congr 1
  omega
theorem k0B {w w':World} {base t n:Nat} {v:Value} {xs:List Value} (h:w.ownsRow base t 1 v n xs) (hg:w.grownBy w' v.ownBlock):KeepsOthers w w':=by
 refine KeepsOthers.of_grownBy hg fun j o e ho=>?_
 obtain⟨-,h | ⟨g,cap,cur,rfl,-,hb,-⟩⟩:=h
 ·rw[h.1] at e;cases e
 ·have e:g=j:=by simpa [Value.ownBlock] using e
  subst e
  rw[hb] at ho;cases ho;rfl
theorem b1K (A:Option Addr) (c n k:Nat) (hA:A≠none) (hk:k≤c) (w:World):(Instr.sliceAt 61 (.slice A n c) none (some (.int .i64 (k:Int))) none).run prog w=.ok (.slice A k c) w:=by
 cases A with
 | none=>exact absurd rfl hA
 | some a =>
  have h2:(k:Int)≤(c:Int):=by omega
  clear hA hk
  go_simp
theorem c1m (a b:List UInt8) (hb:∀x∈b,x≠47) (k:Nat) (h1:a.length < k) (h2:k < (a++47 :: b).length):(a++47 :: b).getD k 0≠47:=by
 rw[List.length_append,List.length_cons] at h2
 rw[List.getD_eq_getElem?_getD,List.getElem?_append_right (by omega)]
 obtain⟨m,hm⟩:∃m,k - a.length=m+1:=⟨k - a.length - 1,by omega⟩
 rw[hm,List.getElem?_cons_succ,List.getElem?_eq_getElem (by omega)]
 exact hb _ (List.getElem_mem _)
theorem v0c (X a b:List UInt8) (hX:X=a++47 :: b) (hb:∀x∈b,x≠47) (hl:X.length≤1000000) (A:Option Addr) (c:Nat) (w:World) (hs:Sl w A c (byts X)) :
  Calls prog 194 #[.slice A X.length c,.int .u8 47] w fun e w'=>e=.returned (.int .i64 a.length)∧w=w':=by
 have h:Calls prog 235 #[.slice A X.length c,.int .u8 47] w fun e w'=>e=.returned (.int .i64 a.length)∧w=w':=by
  have hL:=f1D (show ∀k,a.length < k→k < X.length→X.getD k 0≠47 from fun k h1 h2=>by subst hX;exact c1m a b hb k h1 h2)
  have hE:=f1D (show X.getD a.length 0=47 by rw[hX,List.getD_eq_getElem?_getD,List.getElem?_append_right (f1F _),Nat.sub_self];rfl)
  have hlt:a.length < X.length:=by rw[hX,List.length_append,List.length_cons];omega
  clear hb hX
  obtain⟨n,hn⟩:∃n,n=X.length - 1:=⟨_,rfl⟩
  have hw0:IntKind.i64.wrap ((X.length:Int) - 1)=(n:Int):=by rw[IntKind.wrap_i64];omega
  have HN:=f1D hn
  clear hn
  go_enter func235,ntmps235
  go_wp2
  go_loop [5] (fun i=>∃k:Nat,a.length≤k∧k < X.length∧i=.int .i64 k) (fun i=>(intOf i).toNat)
  case atStart=>exact⟨n,by have:=HN.out;omega,by have:=HN.out;omega,rfl⟩
  case round =>
   obtain⟨k,hk1,hk2,rfl⟩:=hrel
   have h0:(0:Int)≤(k:Int):=by omega
   obtain⟨b',o,hA,-,hce⟩:=hs.rd.get (i:=k) (by rw[a0b];exact hk2)
   have hix:=c0I A b' o X.length c k hA hk2
   rw[c0d X k hk2] at hce
   by_cases he:k=a.length
   ·subst he
    rw[hE.out] at hce
    have hce':w.cell? ⟨b',o+a.length,none⟩=some (.int .u8 47):=hce
    clear hce
    go_wp2
    go_ret
    exact⟨rfl,rfl⟩
   ·have hne:=hL.out k (by omega) hk2
    have hne':(((X.getD k 0).toNat:Int)==47)=false:=by
     rw[beq_eq_false_iff_ne]
     intro h
     exact hne (UInt8.toNat_inj.1 (by rw[show (47:UInt8).toNat=47 from rfl];omega))
    generalize X.getD k 0=y at *
    have hw1:IntKind.i64.wrap ((k:Int) - 1)=(k:Int) - 1:=by rw[IntKind.wrap_i64];omega
    clear hne
    go_wp2
    go_round
    case rel=>exact⟨k - 1,by omega,by omega,by congr 1;omega⟩
    case measure=>simp[intOf];omega
 clear hX hb
 go_enter func194,ntmps194
 go_wp2_with (go_at_call 235;refine h.mono ?_;rintro e w' ⟨rfl,rfl⟩)
 go_ret
 exact⟨rfl,rfl⟩
theorem d1D:(prog.info? 5).map (fun i=>(i.zero,i.size,i.bytes))=some (some (.int .u8 0),1,1):=by kernel_rfl
def u0T (base:Nat) (r:Option (List (List UInt8))) (W:World) (e:Ending) (w':World):Prop :=
 (match r with
  | none=>e=.returned (.tuple #[.slice none 0 0,.bool false])
  | some k=>∃v',e=.returned (.tuple #[v',.bool true])∧w'.ownsRow base 5 1 v' (b0z k).length (byts (b0z k)))∧KeepsOthers W w'∧Below base W w'
theorem v0f (l:List (List UInt8)) (hl:∀w∈l,c0l w=true) (x:List UInt8) (hx:x.length≤1000) (W:World) (base:Nat) (v:Value) (hown:W.ownsRow base 5 1 v (b0z l).length (byts (b0z l))) (hbase:base≤W.heap.size) (hlen:(b0z l).length≤1000000) :
  Calls prog 144 #[v,.string (bstr x)] W (u0T base (h0m l x) W):=by
 have hz:=a0c x
 obtain⟨A,c,rfl,hpl,hsl⟩:=Sl.of_own hown
 clear hpl
 have hroom:=hsl.room
 rw[a0b] at hroom
 have hkp:=k0B hown (World.grownBy.refl W _)
 have e0:(bstr x).toList.isEmpty=decide (x=[]):=by rw[a0p];cases x<;>rfl
 have e1:=j0r x [46]
 have e2:=j0r x [46,46]
 have HA:=f1D (show h0m l x=if x=[]∨x=[46] then some l else if x=[46,46] then (if l=[] then none else some l.dropLast) else if c0l x then some (l++[x]) else none from rfl)
 generalize hr:h0m l x=r at *
 clear hr
 by_cases c0:x=[]
 ·have HR:=f1D (show r=some l by rw[HA.out,if_pos (.inl c0)])
  rw[decide_eq_true c0] at e0
  clear HA c0 e1 e2
  go_enter func144,ntmps144
  go_wp2
  go_ret2
  rw[HR.out]
  exact⟨⟨_,rfl,hown⟩,KeepsOthers.refl _,Below.refl _ _⟩
 rw[decide_eq_false c0] at e0
 by_cases c1:x=[46]
 ·have HR:=f1D (show r=some l by rw[HA.out,if_pos (.inr c1)])
  rw[decide_eq_true c1] at e1
  clear HA c0 c1 e2
  go_enter func144,ntmps144
  go_wp2
  go_ret2
  rw[HR.out]
  exact⟨⟨_,rfl,hown⟩,KeepsOthers.refl _,Below.refl _ _⟩
 rw[decide_eq_false c1] at e1
 have HA2:=f1D (HA.out.trans (if_neg (by rintro (h | h);exact c0 h;exact c1 h)))
 clear HA c0 c1
 have hn:=fun w'=>t0p x w'
 by_cases c2:x=[46,46]
 ·rw[decide_eq_true c2] at e2
  by_cases c3:l=[]
  ·have HR:=f1D (show r=none by rw[HA2.out,if_pos c2,if_pos c3])
   have a3:((b0z l).length:Int)≤0:=by rw[c3];exact Int.le_refl _
   rw[show c0l x=false by rw[c2];rfl] at hn
   have HC:=f1D hn
   clear HA2 c2 c3 hn
   go_enter func144,ntmps144
   go_wp2_with (go_at_call 195;refine (HC.out _).mono ?_;rintro e w' ⟨rfl,hb⟩)
   go_ret2
   rw[HR.out]
   exact⟨rfl,KeepsOthers.of_grownBy (a0r hb none) (fun j o e=>by cases e),hb.mono hbase⟩
  ·have HR:=f1D (show r=some l.dropLast by rw[HA2.out,if_pos c2,if_neg c3])
   have hF:=s0W l c3
   have hb:∀y∈l.getLast c3,y≠47:=w0Q _ (hl _ (List.getLast_mem c3))
   have hla:=fun w' h=>v0c (b0z l) _ _ hF hb hlen A c w' h
   have HLA:=f1D (hla W hsl)
   have a3:(0:Int) < ((b0z l).length:Int):=by rw[hF,List.length_append,List.length_cons];omega
   have hAn:A≠none:=by
    rintro rfl
    have:=hsl.bare rfl
    omega
   have hk1:(b0z l.dropLast).length≤(b0z l).length:=by rw[hF,List.length_append];omega
   have hct:=b1K A c (b0z l).length (b0z l.dropLast).length hAn (by omega)
   have hot:=a1c hown (b0z l.dropLast).length hk1 hAn
   rw[show (byts (b0z l)).take (b0z l.dropLast).length=byts (b0z l.dropLast) by unfold byts;rw[←List.map_take,hF,List.take_left'];rfl] at hot
   clear HA2 c2 hn hF hb hla hk1 hAn hroom hlen hl
   obtain⟨m,hm⟩:∃m,m=(b0z l.dropLast).length:=⟨_,rfl⟩
   rw[←hm] at HLA hct hot
   have HM:=f1D hm
   clear hm
   generalize (b0z l).length=n at *
   go_enter func144,ntmps144
   go_wp2_with (go_at_call 194;refine HLA.out.mono ?_;rintro e w' ⟨rfl,rfl⟩)
   go_ret2
   rw[HR.out]
   exact⟨⟨_,rfl,HM.out ▸ hot⟩,KeepsOthers.refl _,Below.refl _ _⟩
 ·rw[decide_eq_false c2] at e2
  cases c3:c0l x with
  | false =>
   have HR:=f1D (show r=none by rw[HA2.out,if_neg c2,c3];rfl)
   rw[c3] at hn
   have HC:=f1D hn
   clear HA2 c2 c3 hn
   go_enter func144,ntmps144
   go_wp2_with (go_at_call 195;refine (HC.out _).mono ?_;rintro e w' ⟨rfl,hb⟩)
   go_ret2
   rw[HR.out]
   exact⟨rfl,KeepsOthers.of_grownBy (a0r hb none) (fun j o e=>by cases e),hb.mono hbase⟩
  | true =>
   have HR:=f1D (show r=some (l++[x]) by rw[HA2.out,if_neg c2,if_pos c3])
   have HF:=f1D (show b0z (l++[x])=b0z l++47 :: x by rw[n0X,n0Z])
   rw[c3] at hn
   have HC:=f1D hn
   clear HA2 c2 c3 hn hl
   obtain⟨i0,hi,hz0,hz1,hz2⟩:=info_parts d1D
   have n1:(b0z l).length+1≤maxLen:=by unfold maxLen;omega
   have n2:((b0z l).length+1)*1≤140737488355328:=by omega
   have n3:(b0z l).length+1+(bstr x).size≤maxLen:=by unfold maxLen;omega
   have n4:(b0z l).length+1+(bstr x).size≤140737488355328:=by omega
   generalize b0z l=M at *
   go_enter func144,ntmps144
   have tok:=trivial
   go_wp2_with (first
    | (go_at_call 195;refine (HC.out _).mono ?_;rintro e w1 ⟨rfl,hb⟩;have howna:=(a0D hown hb (f1F _)).alloc (.cells #[.int .u8 47] 5);have hslp:Sl (w1.alloc (.cells #[.int .u8 47] 5)) (some ⟨w1.heap.size,0,none⟩) 1 (byts [47]):=d0c (byts [47]) rfl 1 rfl;have hbe:Below base W (w1.alloc (.cells #[.int .u8 47] 5)):=(hb.mono hbase).alloc (Nat.le_trans hbase hb.size) _)
    | (at_builtin;have _t:=tok;refine a0j rfl (.tmp 29) (.tmp 30) 61 rfl base 5 i0 _ 1 underlying61 hi hz0 hz1 hz2 rfl _ M.length (byts M) rfl howna (some ⟨w1.heap.size,0,none⟩) 1 1 (byts [47]) rfl rfl hslp (a0o _) n1 n2 (Nat.le_trans hbase hbe.size) ?_;intro v3 w3 hown3 hg3;have hb3:=hbe.grown hg3 (Nat.le_trans hbase hbe.size) (fun j hj=>(howna.lt j hj).1);clear tok)
    | (at_builtin;refine wpList_append_own_string _ rfl (.tmp 31) (.tmp 32) 61 9 rfl base 5 i0 underlying61 underlying9 hi hz0 hz1 hz2 v3 (M.length+1) (byts M++byts [47]) rfl hown3 (bstr x) rfl n3 n4 (Nat.le_trans hbase hb3.size) ?_;intro v4 w4 hown4 hg4 _;have hb4:=hb3.grown hg4 (Nat.le_trans hbase hb3.size) (fun j hj=>(hown3.lt j hj).1)))
   go_ret2
   have e:byts M++byts [47]++strCells (bstr x)=byts (M++47 :: x):=by
    rw[List.append_assoc,a0h];rfl
   have e2:M.length+1+(bstr x).size=(M++47 :: x).length:=by rw[List.length_append,List.length_cons,a0c];omega
   rw[e,e2] at hown4
   rw[HR.out]
   refine⟨⟨_,rfl,by rw[HF.out];exact hown4⟩,?_,hb4⟩
   exact (((KeepsOthers.of_grownBy (a0r hb none) (fun j o e=>by cases e)).trans (KeepsOthers.alloc _ _)).trans (k0B howna hg3)).trans (k0B hown3 hg4)
end Go.Proofs.YtcbilopdeiapjaaGreatDoor
namespace Go.Proofs.YtcbilopdeiapjaaGreatDoor
open Go Go.RowKit
theorem t0B (s:List UInt8) (h:s.getD 0 0≠47):j0j s=none:=by
 unfold j0j
 split
 ·exact absurd rfl h
 ·rfl
theorem t0C (r:List UInt8) (h:goN [] (a0g 47 r)=none):j0j (47 :: r)=none:=by
 show (match goN [] (a0g 47 r) with
  | none=>none
  | some l=>if (f0t l).length≤256 then some (f0t l) else none)=none
 rw[h]
theorem t0D (r:List UInt8) (l:List (List UInt8)) (h:goN [] (a0g 47 r)=some l):j0j (47 :: r)=if (f0t l).length≤256 then some (f0t l) else none:=by
 show (match goN [] (a0g 47 r) with
  | none=>none
  | some l=>if (f0t l).length≤256 then some (f0t l) else none)=_
 rw[h]
theorem d1A (l ps:List (List UInt8)) (k:Nat) (h:k < ps.length):goN l (ps.drop k)=match h0m l (ps.getD k []) with
  | none=>none
  | some m=>goN m (ps.drop (k+1)):=by
 rw[List.drop_eq_getElem_cons h,o0k,List.getD_eq_getElem?_getD,List.getElem?_eq_getElem h];rfl
theorem r0x (l:List (List UInt8)) (h:∀w∈l,w.length≤64):(b0z l).length≤65*l.length:=by
 unfold b0z
 induction l with
 | nil=>exact f1F _
 | cons w l ih =>
  have:=ih (fun v hv=>h v (List.mem_cons_of_mem _ hv))
  have:=h w (List.mem_cons_self ..)
  rw[List.flatMap_cons,List.length_append,List.length_cons,List.length_cons];omega
end Go.Proofs.YtcbilopdeiapjaaGreatDoor
