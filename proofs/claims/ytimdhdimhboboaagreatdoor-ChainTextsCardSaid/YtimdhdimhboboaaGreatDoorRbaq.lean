import Derived.Test.YtimdhdimhboboaaGreatDoorRbap
import Derived.Test.YtimdhdimhboboaaGreatDoorRbao
import Derived.Test.YtimdhdimhboboaaGreatDoorRbaf
import Derived.Laws.Cover1
import Derived.Test.YtimdhdimhboboaaGreatDoorRbab
import Derived.Laws.Cover2
import Derived.Laws.FloatArith
import Derived.Laws.Externs
namespace Go.Proofs.YtimdhdimhboboaaGreatDoor
set_option maxRecDepth 100000
open Go Go.RowKit
theorem o0f (l:List (List UInt8)) (i:Nat) (h:i=0):okAt l i=d0u (l.getD i []):=by
 subst h
 unfold okAt
 simp
theorem q0X (l:List (List UInt8)) (i:Nat) (h:0 < i):okAt l i=(d0u (l.getD i [])&&Op.bytesLess (l.getD (i - 1) []) (l.getD i [])):=by
 unfold okAt
 rw[decide_eq_false (by omega:¬i=0),Bool.false_or]
theorem k0a (l:List (List UInt8)) (k:Nat) (h:∀j < k,okAt l j=true) (hk:okAt l k=true):∀j < k+1,okAt l j=true:=by
 intro j hj
 rcases Nat.lt_succ_iff_lt_or_eq.1 hj with h1 | h1
 ·exact h j h1
 ·rw[h1];exact hk
set_option maxHeartbeats 2000000 in
theorem o0B (l:List (List UInt8)) (hl:l.length≤100000) (hp:∀p∈l,p.length≤100000) (A:Option Addr) (c:Nat) (w:World) (hsl:Sl w A c (a0I l)) :
  Calls Tryz.prog 76 #[.slice A l.length c] w fun e w'=>e=.returned (.bool (c0J l))∧w=w':=by
 obtain⟨V,hV⟩:∃V,V=c0J l:=⟨_,rfl⟩
 have HV:=Lib.hid hV
 rw[←hV]
 clear hV
 by_cases h1:l.length < 1
 ·have HW:=Lib.hid (show V=false by rw[HV.out];unfold c0J;rw[decide_eq_false (by omega:¬1≤l.length)];rfl)
  have a1:(l.length:Int) < 1:=by omega
  clear HV h1
  go_enter Tryz.func76,Tryz.ntmps76
  go_wp2
  go_ret
  exact⟨by rw[HW.out];rfl,rfl⟩
 have a1:decide ((l.length:Int) < 1)=false:=decide_eq_false (by omega)
 by_cases h2:32 < l.length
 ·have HW:=Lib.hid (show V=false by rw[HV.out];unfold c0J;rw[decide_eq_false (by omega:¬l.length≤32),Bool.and_false];rfl)
  have a2:(32:Int) < (l.length:Int):=by omega
  clear HV h1 h2
  go_enter Tryz.func76,Tryz.ntmps76
  go_wp2
  go_ret
  exact⟨by rw[HW.out];rfl,rfl⟩
 have a2:decide ((32:Int) < (l.length:Int))=false:=decide_eq_false (by omega)
 have HT:=Lib.hid (show (∀i < l.length,okAt l i=true)→V=true from fun h=>by rw[HV.out];exact (h0P l).2 ⟨by omega,by omega,h⟩)
 have HFa:=Lib.hid (show ∀i,i < l.length→okAt l i=false→V=false from fun i hi h=>by rw[HV.out];exact o0v l i hi h)
 have hnm:=Lib.hid (fun s (h:s∈l) w'=>p0V s (hp s h) w')
 clear HV h1 h2 hp
 go_enter Tryz.func76,Tryz.ntmps76
 go_wp2
 clear a1 a2
 go_loop [15] (fun i=>∃k:Nat,k≤l.length∧i=.int .i64 k∧∀j < k,okAt l j=true) (fun i=>l.length - (intOf i).toNat)
 case atStart=>exact⟨0,by omega,rfl,fun j hj=>by omega⟩
 case round =>
  obtain⟨k,hk,rfl,hf⟩:=hrel
  by_cases hlt:k < l.length
  ·have hlt':(k:Int) < (l.length:Int):=by omega
   obtain⟨b,o,rfl,-,-⟩:=hsl.rd.get (i:=k) (by rw[a0B];exact hlt)
   have hix:=b0R (some ⟨b,o,none⟩) b o l.length c k rfl hlt
   have hce:=c0z hsl k hlt
   have HF:=Lib.hid hf
   have HC:=Lib.hid (hnm.out (l.getD k []) (by rw[List.getD_eq_getElem?_getD,List.getElem?_eq_getElem hlt];exact List.getElem_mem hlt) w)
   clear hf
   by_cases h0:k=0
   ·have HA:=Lib.hid (o0f l k h0)
    have a3:decide ((0:Int) < (k:Int))=false:=decide_eq_false (by omega)
    have a5:decide (0 < k)=false:=decide_eq_false (by omega)
    have HB:=Lib.hid (HFa.out k hlt)
    generalize l.getD k []=s at *
    clear h0
    cases hsg:d0u s with
    | true =>
     have HN:=Lib.hid (k0a l k HF.out (HA.out.trans hsg))
     rw[hsg] at HC
     clear HA hsg HB
     go_wp2_with (go_at_call 110;refine HC.out.mono ?_;rintro e w' ⟨rfl,rfl⟩)
     go_round
     case rel=>exact⟨k+1,by omega,by go_num,HN.out⟩
     case measure=>simp[intOf];omega
    | false =>
     have HN:=Lib.hid (HB.out (HA.out.trans hsg))
     rw[hsg] at HC
     clear HA hsg HB
     go_wp2_with (go_at_call 110;refine HC.out.mono ?_;rintro e w' ⟨rfl,rfl⟩)
     go_ret
     exact⟨by rw[HN.out];rfl,rfl⟩
   ·have HA:=Lib.hid (q0X l k (by omega))
    have a3:(0:Int) < (k:Int):=by omega
    have a5:0 < k:=by omega
    have a4:IntKind.i64.wrap ((k:Int) - 1)=((k - 1:Nat):Int):=by rw[IntKind.wrap_i64];omega
    have hix2:=b0R (some ⟨b,o,none⟩) b o l.length c (k - 1) rfl (by omega)
    have hce2:=c0z hsl (k - 1) (by omega)
    have HB:=Lib.hid (HFa.out k hlt)
    have HL:=Lib.hid (show Op.bytesLess (bstr (l.getD (k - 1) [])).toList (bstr (l.getD k [])).toList=Op.bytesLess (l.getD (k - 1) []) (l.getD k []) by rw[a0n,a0n])
    generalize hk1:k - 1=k1 at *
    generalize l.getD k []=s at *
    generalize l.getD k1 []=s1 at *
    clear h0 hk1
    cases hsg:d0u s with
    | true =>
     cases hle:Op.bytesLess s1 s with
     | true =>
      have HN:=Lib.hid (k0a l k HF.out (by rw[HA.out,hsg,hle];rfl))
      have hle2:=HL.out.trans hle
      rw[hsg] at HC
      clear HA hsg HB HL hle
      go_wp2_with (go_at_call 110;refine HC.out.mono ?_;rintro e w' ⟨rfl,rfl⟩)
      go_round
      case rel=>exact⟨k+1,by omega,by go_num,HN.out⟩
      case measure=>simp[intOf];omega
     | false =>
      have HN:=Lib.hid (HB.out (by rw[HA.out,hsg,hle];rfl))
      have hle2:=HL.out.trans hle
      rw[hsg] at HC
      clear HA hsg HB HL hle
      go_wp2_with (go_at_call 110;refine HC.out.mono ?_;rintro e w' ⟨rfl,rfl⟩)
      go_ret
      exact⟨by rw[HN.out];rfl,rfl⟩
    | false =>
     have HN:=Lib.hid (HB.out (by rw[HA.out,hsg];rfl))
     rw[hsg] at HC
     clear HA hsg HB HL
     go_wp2_with (go_at_call 110;refine HC.out.mono ?_;rintro e w' ⟨rfl,rfl⟩)
     go_ret
     exact⟨by rw[HN.out];rfl,rfl⟩
  ·obtain rfl:k=l.length:=by omega
   have HN:=Lib.hid (HT.out hf)
   clear hf
   go_wp2
   go_ret
   exact⟨by rw[HN.out];rfl,rfl⟩
def o0Y (o:Option (List (List UInt8))) (w:World) (e:Ending) (w':World):Prop :=
 ∃(A:Option Addr) (c:Nat),e=.returned (.tuple #[.slice A (o.getD []).length c,.bool o.isSome])∧Sl w' A c (a0I (o.getD []))∧Below w.heap.size w w'
theorem c0i (w:World):Sl w none 0 (a0I []):=⟨.inl (by simp[a0I]),by simp[a0I],fun _=>rfl⟩
theorem v0m (x:UInt8) (l:List (List UInt8)) (k:Nat) (hk:0 < k) (h:k < l.length):b0c x (l.take (k+1))=b0c x (l.take k)++(x :: l.getD k []):=by
 have e:l.take (k+1)=l.take k++[l.getD k []]:=by
  rw[List.take_add_one,List.getD_eq_getElem?_getD,List.getElem?_eq_getElem h];rfl
 rw[e,v0l x _ _ (by intro h0;have:=congrArg List.length h0;rw[List.length_take,List.length_nil] at this;omega) (by simp)]
 rfl
theorem q0N (x:UInt8) (l:List (List UInt8)):(b0c x l).length≤sumS l:=by
 induction l with
 | nil=>exact Nat.zero_le _
 | cons p ps ih =>
  by_cases he:ps=[]
  ·subst he
   show p.length≤_
   unfold sumS;simp
  ·rw[b0q x p ps he,List.length_append,List.length_cons]
   have e:sumS (p :: ps)=(p.length+1)+sumS ps:=by unfold sumS;simp
   omega
theorem x0r (A:Option Addr) (c:Nat) (l:List (List UInt8)) (w0:World) (h:Sl w0 A c (a0I l)) (n:Nat) (hn:l.length=n+1) :
  ∃b o A',A=some ⟨b,o,none⟩∧(∀w,(Instr.sliceAt 59 (.slice (some ⟨b,o,none⟩) (n+1) c) (some (.int .i64 1)) none none).run Tryz.prog w=.ok (.slice A' n (c - 1)) w)∧Sl w0 A' (c - 1) (a0I (l.drop 1)):=by
 have hr:=h.room
 rw[a0B] at hr
 obtain⟨b,o,rfl,hlt,_⟩:=h.rd.get (i:=0) (by rw[a0B];omega)
 refine⟨b,o,some (if c=1 then ⟨b,o,none⟩ else ⟨b,o+1,none⟩),rfl,fun w=>?_,?_⟩
 ·have h3:(n:Int)+1≤(c:Int):=by omega
  clear h hr hlt hn
  have h1:((n:Int)+1 - 1).toNat=n:=by omega
  go_simp
  rw[if_pos (by omega)]
  split<;>rfl
 ·rw[t0G]
  exact h.from (k:=1) (by rw[a0B];omega) rfl
set_option maxHeartbeats 2000000 in
theorem p0T (l:List (List UInt8)) (hl:sumS l≤100000) (A:Option Addr) (c:Nat) (w:World) (hsl:Sl w A c (a0I l)) :
  Calls Tryz.prog 120 #[.slice A l.length c] w fun e w'=>e=.returned (.string (bstr (b0L l)))∧w=w':=by
 have hll:=j0m l
 have hri:=Lib.hid (o0B l (by omega) (fun p hp=>by have:=j0n l p hp;omega) A c w hsl)
 have HV:=Lib.hid (show b0L l=if c0J l=true then b0c 44 l else [] from rfl)
 generalize b0L l=V at *
 cases hr:c0J l with
 | false =>
  have HW:=Lib.hid (HV.out.trans (if_neg (by rw[hr];decide)))
  rw[hr] at hri
  clear HV hr
  go_enter Tryz.func120,Tryz.ntmps120
  go_wp2_with (go_at_call 76;refine hri.out.mono ?_;rintro e w' ⟨rfl,rfl⟩)
  go_ret
  exact⟨by rw[HW.out];rfl,rfl⟩
 | true =>
  have HW:=Lib.hid (HV.out.trans (if_pos hr))
  have hpos:1≤l.length:=((h0P l).1 hr).1
  obtain⟨n,hn⟩:∃n,l.length=n+1:=⟨l.length - 1,by omega⟩
  obtain⟨b,o,A1,rfl,hcut,hsl1⟩:=x0r A c l w hsl n hn
  have hix0:=b0R (some ⟨b,o,none⟩) b o (n+1) c 0 rfl (by omega)
  have hce0:=c0z hsl 0 (by omega)
  have HG:=Lib.hid (fun k (h0:0 < k) (h:k < l.length)=>v0m 44 l k h0 h)
  have HB:=Lib.hid (fun k=>show (b0c 44 (l.take k)).length≤100000 from Nat.le_trans (q0N 44 _) (Nat.le_trans (x0l l k) hl))
  have HM:=Lib.hid (fun k (h:k < l.length)=>show (l.getD k []).length≤100000 from by
   have:=j0n l (l.getD k []) (by rw[List.getD_eq_getElem?_getD,List.getElem?_eq_getElem h];exact List.getElem_mem h);omega)
  have HL1:=Lib.hid (show (l.drop 1).length=n by rw[List.length_drop];omega)
  have HLn:=Lib.hid hn
  have HS:=Lib.hid (show b0c 44 (l.take 1)=l.getD 0 [] by
   cases l with
   | nil=>simp at hpos
   | cons p ps=>rfl)
  have HE:=Lib.hid (show b0c 44 (l.take (n+1))=b0c 44 l by rw[←hn,List.take_length])
  have HD:=Lib.hid (show ∀k,(l.drop 1).getD k []=l.getD (k+1) [] by
   intro k;rw[List.getD_eq_getElem?_getD,List.getD_eq_getElem?_getD,List.getElem?_drop,Nat.add_comm])
  rw[hr,hn] at hri
  rw[hn]
  have hnb:n≤100000:=by omega
  clear HV hr hpos hn hll hl hsl
  rw[Nat.add_zero] at hix0 hce0
  go_enter Tryz.func120,Tryz.ntmps120
  go_wp2_with (go_at_call 76;refine hri.out.mono ?_;rintro e w' ⟨rfl,rfl⟩)
  clear hix0 hce0 hri hcut
  go_loop [3,15] (fun x i=>∃k:Nat,k≤n∧i=.int .i64 k∧x=.string (bstr (b0c 44 (l.take (k+1))))) (fun _ i=>n - (intOf i).toNat)
  case atStart=>exact⟨0,by omega,rfl,by rw[HS.out,List.getD_eq_getElem?_getD]⟩
  case round =>
   obtain⟨k,hk,rfl,rfl⟩:=hrel
   by_cases hlt:k < n
   ·have hlt':(k:Int) < (n:Int):=by omega
    have hk1:k < (l.drop 1).length:=by rw[HL1.out];exact hlt
    obtain⟨b1,o1,rfl,-,-⟩:=hsl1.rd.get (i:=k) (by rw[a0B];exact hk1)
    have hix:=b0R (some ⟨b1,o1,none⟩) b1 o1 n (c - 1) k rfl hlt
    have hce:=c0z hsl1 k hk1
    rw[HD.out] at hce
    have hkl:k+1 < l.length:=by have:=HLn.out;omega
    have HN:=Lib.hid (HG.out (k+1) (by omega) hkl)
    have hb1:=HB.out (k+1)
    have hb2:=HM.out (k+1) hkl
    generalize l.getD (k+1) []=p at *
    generalize b0c 44 (l.take (k+1))=g at *
    have hzg:=a0f g
    have hzp:=a0f p
    have hcm:({ data:=#[44] } : ByteArray)=bstr [44]:=rfl
    have hzc:({ data:=#[44] } : ByteArray).size=1:=rfl
    have hz2:(({ data:=#[44] } : ByteArray)++bstr p).size=p.length+1:=by rw[hcm,a0r,a0f];simp
    have HC:=Lib.hid (show bstr g++(({ data:=#[44] } : ByteArray)++bstr p)=bstr (b0c 44 (l.take (k+1+1))) by rw[HN.out,hcm,a0r,a0r];rfl)
    clear hkl hk1 hcm
    go_wp2
    go_round
    case rel=>exact⟨k+1,by omega,by go_num,by rw[←HC.out]⟩
    case measure=>simp[intOf];omega
   ·obtain rfl:k=n:=by omega
    have HX:=Lib.hid (HE.out.trans HW.out.symm)
    go_wp2
    go_ret
    exact⟨by rw[HX.out];rfl,rfl⟩
theorem n0K (n:Nat) (h:n < 10):((hexD n).toNat:Int)=48+n:=by
 unfold hexD
 rw[if_pos h,UInt8.toNat_ofNat']
 omega
set_option maxHeartbeats 2000000 in
theorem l0y (k:Nat):∀(n:Nat) (w:World),n≤k→n < 2^64 →
  Calls Tryz.prog 74 #[.int .u64 n] w fun e w'=>e=.returned (.string (bstr (numL 10 n)))∧Below w.heap.size w w':=by
 induction k using Nat.strongRecOn with
 | _ k ih =>
  intro n w hk hm
  by_cases hlt:n < 10
  ·have hN:=Lib.hid (a0O 10 n hlt)
   have hlt':(n:Int) < 10:=by omega
   have hd:=n0K n hlt
   generalize hexD n=x at *
   have hw1:IntKind.u64.wrap (48+(n:Int))=48+(n:Int):=by rw[IntKind.wrap_u64];omega
   have hw2:IntKind.u8.wrap (48+(n:Int))=(x.toNat:Int):=by rw[IntKind.wrap_u8];omega
   have hsl:=k0x w [x] #[.int .u8 (x.toNat:Int)] (0,0) rfl 1 rfl
   have hcv:=b0Q hsl 1 rfl
   have hb:Below w.heap.size w (w.alloc (.cells #[.int .u8 (x.toNat:Int)] 5 (0,0))):=(Below.refl _ w).alloc (Nat.le_refl _) _
   clear hsl ih hd
   go_enter Tryz.func74,Tryz.ntmps74
   go_wp2_with fail
   go_ret
   exact⟨by rw[hN.out];rfl,hb⟩
  ·have hge:(10:Int)≤(n:Int):=by omega
   have hN:=Lib.hid (b0k 10 n (by omega) (by omega))
   have hq:=Lib.hid (show ∀w',Calls Tryz.prog 74 #[.int .u64 ((n:Int)/10)] w' fun e w''=>e=.returned (.string (bstr (numL 10 (n/10))))∧Below w'.heap.size w' w'' from fun w'=>ih (n/10) (by omega) (n/10) w' (Nat.le_refl _) (by omega))
   have hr:=Lib.hid (show ∀w',Calls Tryz.prog 74 #[.int .u64 ((n:Int)%10)] w' fun e w''=>e=.returned (.string (bstr [hexD (n%10)]))∧Below w'.heap.size w' w'' from by
    rw[←a0O 10 (n%10) (by omega)];exact fun w'=>ih (n%10) (by omega) (n%10) w' (Nat.le_refl _) (by omega))
   have hY:=b0f 10 (by omega) 62 (n/10) (by omega)
   generalize hXn:numL 10 n=X at *
   generalize numL 10 (n/10)=Y at *
   have hZ:[hexD (n%10)].length=1:=rfl
   generalize [hexD (n%10)]=Z at *
   have hzY:=a0f Y
   have hzZ:=a0f Z
   have hw1:IntKind.u64.wrap ((n:Int)/10)=(n:Int)/10:=by rw[IntKind.wrap_u64];omega
   have hw2:((n:Int)).tmod 10=(n:Int)%10:=Int.tmod_eq_emod_of_nonneg (by omega)
   have tok:True:=trivial
   clear ih hXn
   go_enter Tryz.func74,Tryz.ntmps74
   go_wp2_with (first
    | (go_at_call 74;have _t:=tok;refine (hq.out _).mono ?_;rintro e w1 ⟨rfl,hb1⟩;clear tok)
    | (go_at_call 74;refine (hr.out _).mono ?_;rintro e w2 ⟨rfl,hb2⟩))
   go_ret
   exact⟨by rw[hN.out,←a0r];rfl,hb1.trans (hb2.mono hb1.size)⟩
def g0c (b:Nat):Int:=if negC b then -(magC b:Int) else (magC b:Int)
theorem u0B {x y u v:Int} (h1:x < y↔u < v) (h2:x=y↔u=v):compare x y=compare u v:=by
 show compareOfLessAndEq x y=compareOfLessAndEq u v
 unfold compareOfLessAndEq
 by_cases a:x < y
 ·rw[if_pos a,if_pos (h1.1 a)]
 ·rw[if_neg a,if_neg (fun h=>a (h1.2 h))]
  by_cases b:x=y
  ·rw[if_pos b,if_pos (h2.1 b)]
  ·rw[if_neg b,if_neg (fun h=>b (h2.2 h))]
theorem q0D {x y:Int} (h:x < y):compare x y=.lt:=by
 show compareOfLessAndEq x y=.lt
 unfold compareOfLessAndEq
 rw[if_pos h]
theorem q0C {x y:Int} (h:y < x):compare x y=.gt:=by
 show compareOfLessAndEq x y=.gt
 unfold compareOfLessAndEq
 rw[if_neg (by omega),if_neg (by omega)]
theorem r0v (a b:Nat) (base:Int) (ha:base≤powC a) (hb:base≤powC b) (h:a < b):sigC a*2^(powC a - base).toNat < sigC b*2^(powC b - base).toNat:=by
 have hP:powC a≤powC b:=by unfold powC;split<;>split<;>omega
 obtain⟨k,hk⟩:∃k,k=(powC b - powC a).toNat:=⟨_,rfl⟩
 have e:(powC b - base).toNat=(powC a - base).toNat+k:=by omega
 rw[e,Nat.pow_add,←Nat.mul_assoc,Nat.mul_right_comm]
 refine Nat.mul_lt_mul_of_pos_right ?_ (Nat.pow_pos (by omega))
 by_cases h0:k=0
 ·subst h0
  rw[Nat.pow_zero,Nat.mul_one]
  have hE:powC a=powC b:=by omega
  unfold powC at hE
  unfold sigC
  split at hE<;>split at hE<;>(try split)<;>(try split)<;>omega
 ·have h2:2≤2^k:=by
   have:2^1≤2^k:=Nat.pow_le_pow_right (by omega) (by omega)
   omega
  have hb52:2^52≤sigC b:=by
   unfold sigC
   split
   ·omega
   ·exfalso
    unfold powC at hk hP
    split at hk<;>split at hP<;>omega
  have ha53:sigC a < 2^53:=by unfold sigC;split<;>omega
  have:2^52*2≤sigC b*2^k:=Nat.mul_le_mul hb52 h2
  omega
theorem o0I (a b:Nat) (base:Int) (ha:base≤powC a) (hb:base≤powC b):(sigC a*2^(powC a - base).toNat < sigC b*2^(powC b - base).toNat↔a < b)∧(sigC a*2^(powC a - base).toNat=sigC b*2^(powC b - base).toNat↔a=b):=by
 rcases Nat.lt_trichotomy a b with h | h | h
 ·have:=r0v a b base ha hb h
  exact⟨⟨fun _=>h,fun _=>this⟩,⟨fun e=>by omega,fun e=>by omega⟩⟩
 ·subst h
  exact⟨⟨fun e=>by omega,fun e=>by omega⟩,⟨fun _=>rfl,fun _=>rfl⟩⟩
 ·have:=r0v b a base hb ha h
  exact⟨⟨fun e=>by omega,fun e=>by omega⟩,⟨fun e=>by omega,fun e=>by omega⟩⟩
theorem g0N (b:Nat) (hb:b < 2^64) (h:magC b < 2047*2^52):Ieee.double.read b=.number (negC b) (sigC (magC b)) (powC (magC b)):=by
 have hs:Ieee.double.signWeight=2^63:=rfl
 have hbi:Ieee.double.binade=2^52:=rfl
 have hin:Ieee.double.infRung=2047*2^52:=rfl
 have hl:Ieee.double.leastPlace=-1074:=rfl
 have hn:(b/2^63%2==1)=negC b:=by
  unfold negC
  rw[show b/2^63%2=b/2^63 by omega]
  exact (Bool.eq_iff_iff).2 (by rw[beq_iff_eq,decide_eq_true_iff])
 unfold Ieee.Format.read
 simp only[hs,hbi,hin,hl,hn]
 show (if magC b < 2^52 then _ else if magC b < 2047*2^52 then _ else _)=_
 unfold sigC powC
 by_cases h52:magC b < 2^52
 ·rw[if_pos h52,if_neg (by omega),if_neg (by omega)]
  congr 1
  show magC b=_
  omega
 ·rw[if_neg h52,if_pos h,if_pos (by omega),if_pos (by omega)]
  show Ieee.Datum.number _ (2^52+magC b%2^52) (-1074+((magC b/2^52 - 1:Nat):Int))=_
  congr 1<;>omega
theorem m0A (b:Nat) (hb:b < 2^64) (h:magC b=2047*2^52):Ieee.double.read b=.infinity (negC b):=by
 have hs:Ieee.double.signWeight=2^63:=rfl
 have hbi:Ieee.double.binade=2^52:=rfl
 have hin:Ieee.double.infRung=2047*2^52:=rfl
 have hn:(b/2^63%2==1)=negC b:=by
  unfold negC
  rw[show b/2^63%2=b/2^63 by omega]
  exact (Bool.eq_iff_iff).2 (by rw[beq_iff_eq,decide_eq_true_iff])
 unfold Ieee.Format.read
 simp only[hs,hbi,hin,hn]
 show (if magC b < 2^52 then _ else if magC b < 2047*2^52 then _ else if magC b=2047*2^52 then _ else _)=_
 rw[if_neg (by omega),if_neg (by omega),if_pos h]
theorem r0n (b:Nat) (h:nanC b=true):∃s f,Ieee.double.read b=.nan s f:=by
 have h:=of_decide_eq_true (show decide (2047*2^52 < magC b)=true from h)
 have hs:Ieee.double.signWeight=2^63:=rfl
 have hbi:Ieee.double.binade=2^52:=rfl
 have hin:Ieee.double.infRung=2047*2^52:=rfl
 unfold Ieee.Format.read
 simp only[hs,hbi,hin]
 refine⟨b/2^63%2==1,magC b - 2047*2^52,?_⟩
 show (if magC b < 2^52 then _ else if magC b < 2047*2^52 then _ else if magC b=2047*2^52 then _ else _)=_
 rw[if_neg (by omega),if_neg (by omega),if_neg (by omega)];rfl
theorem shl (m k:Nat):m <<< k=m*2^k:=Nat.shiftLeft_eq m k
theorem r0w (a:Nat):sigC a=0↔a=0:=by
 unfold sigC;split<;>omega
theorem i0n (a b:Nat) (ha:a < 2^64) (hb:b < 2^64):Ieee.double.order a b=if nanC a=true∨nanC b=true then none else some (compare (g0c a) (g0c b)):=by
 unfold Ieee.Format.order
 by_cases na:nanC a=true
 ·obtain⟨s,f,e⟩:=r0n a na
  rw[e,if_pos (.inl na)]
  cases Ieee.double.read b<;>rfl
 ·by_cases nb:nanC b=true
  ·obtain⟨s,f,e⟩:=r0n b nb
   rw[e,if_pos (.inr nb)]
   cases Ieee.double.read a<;>rfl
  ·rw[if_neg (by rintro (h | h);exact na h;exact nb h)]
   have la:magC a≤2047*2^52:=by
    have:¬2047*2^52 < magC a:=fun h=>na (decide_eq_true h)
    omega
   have lb:magC b≤2047*2^52:=by
    have:¬2047*2^52 < magC b:=fun h=>nb (decide_eq_true h)
    omega
   by_cases ia:magC a=2047*2^52
   ·rw[m0A a ha ia]
    by_cases ib:magC b=2047*2^52
    ·rw[m0A b hb ib]
     unfold g0c
     rw[ia,ib]
     cases negC a<;>cases negC b<;>rfl
    ·rw[g0N b hb (by omega)]
     unfold g0c
     show some (if negC a=true then Ordering.lt else Ordering.gt)=_
     congr 1
     cases negC a<;>cases negC b<;>simp only[Bool.false_eq_true,if_true,if_false]
     all_goals first
      | exact (q0C (by omega)).symm
      | exact (q0D (by omega)).symm
   ·rw[g0N a ha (by omega)]
    by_cases ib:magC b=2047*2^52
    ·rw[m0A b hb ib]
     unfold g0c
     show some (if negC b=true then Ordering.gt else Ordering.lt)=_
     congr 1
     cases negC a<;>cases negC b<;>simp only[Bool.false_eq_true,if_true,if_false]
     all_goals first
      | exact (q0C (by omega)).symm
      | exact (q0D (by omega)).symm
    ·rw[g0N b hb (by omega)]
     obtain⟨m1,m2⟩:=o0I (magC a) (magC b) (min (powC (magC a)) (powC (magC b))) (by omega) (by omega)
     have z1:sigC (magC a)*2^(powC (magC a) - min (powC (magC a)) (powC (magC b))).toNat=0↔magC a=0:=by
      rw[Nat.mul_eq_zero,r0w]
      exact⟨fun h=>h.elim id fun h=>absurd h (Nat.ne_of_gt (Nat.pow_pos (by omega))),.inl⟩
     have z2:sigC (magC b)*2^(powC (magC b) - min (powC (magC a)) (powC (magC b))).toNat=0↔magC b=0:=by
      rw[Nat.mul_eq_zero,r0w]
      exact⟨fun h=>h.elim id fun h=>absurd h (Nat.ne_of_gt (Nat.pow_pos (by omega))),.inl⟩
     show some (compare (Ieee.signed (negC a) (sigC (magC a)) _) (Ieee.signed (negC b) (sigC (magC b)) _))=_
     congr 1
     unfold Ieee.signed g0c
     simp only[shl]
     generalize sigC (magC a)*2^(powC (magC a) - min (powC (magC a)) (powC (magC b))).toNat=A at *
     generalize sigC (magC b)*2^(powC (magC b) - min (powC (magC a)) (powC (magC b))).toNat=B at *
     generalize magC a=x at *
     generalize magC b=y at *
     cases negC a<;>cases negC b<;>simp only[Bool.false_eq_true,if_true,if_false]
     all_goals refine u0B ?_ ?_
     all_goals constructor<;>intro h<;>omega
theorem m0l (M k:Nat) (h:0 < M):(M*2^k).log2=M.log2+k:=by
 have h1:=Nat.log2_self_le (n:=M) (by omega)
 have h2:M < 2^(M.log2+1):=(Nat.log2_lt (by omega)).1 (Nat.lt_succ_self _)
 have hp:0 < 2^k:=Nat.pow_pos (by omega)
 have h3:2^(M.log2+k)≤M*2^k:=by rw[Nat.pow_add];exact Nat.mul_le_mul_right _ h1
 have h4:M*2^k < 2^(M.log2+k+1):=by
  rw[show M.log2+k+1=(M.log2+1)+k by omega,Nat.pow_add]
  exact Nat.mul_lt_mul_of_pos_right h2 hp
 have h0:M*2^k≠0:=Nat.ne_of_gt (Nat.mul_pos h hp)
 have a:(M*2^k).log2 < M.log2+k+1:=(Nat.log2_lt h0).2 h4
 have b:¬(M*2^k).log2 < M.log2+k:=fun h5=>by have:=(Nat.log2_lt h0).1 h5;omega
 omega
theorem n0m (neg:Bool) (M d:Nat) (h:0 < M):Ieee.Toward.even.cut neg (M*2^d) d=M:=by
 unfold Ieee.Toward.cut
 have e:min d ((M*2^d).log2+2)=d:=by rw[m0l M d h];omega
 have hp:0 < 2^d:=Nat.pow_pos (by omega)
 simp only[e,Nat.one_shiftLeft,Nat.mul_div_cancel _ hp,Nat.mul_mod_left,Nat.mul_zero]
 rw[decide_eq_false (by omega),show ((2^d:Nat)==0)=false from by rw[beq_eq_false_iff_ne];omega]
 rfl
theorem z0K (E M Q:Nat) (hE:E≤2045) (h1:Q≤M) (h2:M < 2*Q):min (E*Q+M) (2047*Q)=(E+1)*Q+M - Q:=by
 have h:E*Q≤2045*Q:=Nat.mul_le_mul_right _ hE
 rw[Nat.add_mul,Nat.one_mul]
 generalize E*Q=X at *
 omega
theorem d0Y (neg:Bool) (mag:Nat) (place:Int) (M:Nat) (P:Int) (h:FitC M P)
  (hv:(place≤P∧mag=M*2^(P - place).toNat)∨(P < place∧M=mag*2^(place - P).toNat)) :
  Ieee.double.nearest neg mag place=Ieee.double.word neg (f0n M P):=by
 have hM:0 < M:=by rcases h with ⟨h,_,_⟩ | ⟨h,_,_,_⟩<;>omega
 have hm:0 < mag:=by
  rcases hv with ⟨_,rfl⟩ | ⟨_,e⟩
  ·exact Nat.mul_pos hM (Nat.pow_pos (by omega))
  ·rcases Nat.eq_zero_or_pos mag with h0 | h0
   ·rw[h0,Nat.zero_mul] at e;omega
   ·exact h0
 have hl:place+(mag.log2:Int)=P+(M.log2:Int):=by
  rcases hv with ⟨h1,rfl⟩ | ⟨h1,rfl⟩
  ·rw[m0l M _ hM];omega
  ·rw[m0l mag _ hm];omega
 have hlast:max (P+(M.log2:Int) - 52) (-1074)=P:=by
  rcases h with ⟨h1,h2,rfl⟩ | ⟨h1,h2,h3,h4⟩
  ·have:M.log2 < 52:=(Nat.log2_lt (by omega)).2 h2
   omega
  ·have a:M.log2 < 53:=(Nat.log2_lt (by omega)).2 h2
   have b:¬M.log2 < 52:=fun h5=>by have:=(Nat.log2_lt (by omega)).1 h5;omega
   omega
 unfold Ieee.Format.nearest
 rw[if_neg (by omega)]
 have hf:((Ieee.double.fractionBits:Nat):Int)=52:=rfl
 have hlp:Ieee.double.leastPlace=-1074:=rfl
 have hbi:Ieee.double.binade=2^52:=rfl
 have hin:Ieee.double.infRung=2047*2^52:=rfl
 simp only[hf,hlp,hbi,hin,hl,hlast,shl]
 have hk:Ieee.Toward.even.cut neg (mag*2^(place - P).toNat) (P - place).toNat=M:=by
  rcases hv with ⟨h1,rfl⟩ | ⟨h1,rfl⟩
  ·rw[show (place - P).toNat=0 by omega,Nat.pow_zero,Nat.mul_one]
   exact n0m neg M _ hM
  ·have:=n0m neg (mag*2^(place - P).toNat) 0 hM
   rw[Nat.pow_zero,Nat.mul_one] at this
   rw[show (P - place).toNat=0 by omega];exact this
 rw[hk]
 congr 1
 unfold f0n
 rcases h with ⟨h1,h2,rfl⟩ | ⟨h1,h2,h3,h4⟩
 ·rw[if_pos h2,show ((-1074:Int) - -1074).toNat=0 by decide,Nat.zero_mul,Nat.zero_add]
  exact Nat.min_eq_left (by omega)
 ·rw[if_neg (by omega)]
  generalize hE:(P - -1074).toNat=E
  rw[show (P+1075).toNat=E+1 by omega]
  have hE2:E≤2045:=by omega
  exact z0K E M (2^52) hE2 h1 (by omega)
theorem r0o:Ieee.double.read 4607182418800017408=.number false (2^52) (-52):=by decide +kernel
theorem t0h:Ieee.double.read 13830554455654793216=.number true (2^52) (-52):=by decide +kernel
theorem m0o (s:Bool) (x b:Nat) (hx:Ieee.double.read x=.number s (2^52) (-52)) (hb:b < 2^64) (hf:FinC (magC b)):Ieee.double.mul x b=some (Ieee.double.word (s ^^ negC b) (magC b)):=by
 unfold Ieee.Format.mul
 rw[hx,g0N b hb hf.2]
 obtain⟨g1,g2⟩:=l0h (magC b) hf
 show some (Ieee.double.nearest (s ^^ negC b) (2^52*sigC (magC b)) (-52+powC (magC b)))=_
 congr 1
 rw[d0Y (s ^^ negC b) _ _ (sigC (magC b)) (powC (magC b)) g1 (.inl ⟨by omega,by rw[show (powC (magC b) - (-52+powC (magC b))).toNat=52 by omega,Nat.mul_comm]⟩),g2]
@[go_sem] theorem b1S (b:Nat) (w:World):(callFunc 117 #[.float .f64 b]).run Tryz.prog w=.ok (.value (.int .u64 b)) w:=by
 rw[run_callFunc_extern (fn:=Tryz.f117) (e:=Extern.MathFloatBits.float64bits) Tryz.func117 (by kernel_rfl) (by kernel_rfl) (by kernel_rfl) (by kernel_rfl)];rfl
@[go_sem] theorem b1T (n:Int) (w:World):(callFunc 116 #[.int .u64 n]).run Tryz.prog w=.ok (.value (.float .f64 n.toNat)) w:=by
 rw[run_callFunc_extern (fn:=Tryz.f116) (e:=Extern.MathFloatBits.float64frombits) Tryz.func116 (by kernel_rfl) (by kernel_rfl) (by kernel_rfl) (by kernel_rfl)];rfl
theorem v0d (a b:Nat) (w:World):Calls Tryz.prog 122 #[.float .f64 a,.float .f64 b] w fun e w'=>e=.returned (.bool (decide (a=b)))∧w=w':=by
 go_enter Tryz.func122,Tryz.ntmps122
 go_wp2
 go_ret
 refine⟨?_,rfl⟩
 show Ending.returned (.bool ((a:Int)==(b:Int)))=_
 congr 2
 rw[Bool.eq_iff_iff,beq_iff_eq,decide_eq_true_iff]
 omega
theorem m0a (w:World):Calls Tryz.prog 80 #[.int .i64 1] w fun e w'=>e=.returned (.float .f64 9218868437227405312)∧w=w':=by
 go_enter Tryz.func80,Tryz.ntmps80
 go_wp2
 go_ret
 exact⟨rfl,rfl⟩
theorem u0W (w:World):Calls Tryz.prog 80 #[.int .i64 (-1)] w fun e w'=>e=.returned (.float .f64 18442240474082181120)∧w=w':=by
 go_enter Tryz.func80,Tryz.ntmps80
 go_wp2
 go_ret
 exact⟨rfl,rfl⟩
theorem s0h (w:World):Calls Tryz.prog 79 #[.float .f64 0,.float .f64 13830554455654793216] w fun e w'=>e=.returned (.float .f64 9223372036854775808)∧w=w':=by
 go_enter Tryz.func79,Tryz.ntmps79
 go_wp2
 go_ret
 exact⟨rfl,rfl⟩
theorem j0i (a b:Nat) (ha:a < 2^64) (hb:b < 2^64):FloatKind.f64.format.order a b=if nanC a=true∨nanC b=true then none else some (compare (g0c a) (g0c b)):=i0n a b ha hb
theorem i0w (x:Int):compare x x=.eq:=by
 show compareOfLessAndEq x x=.eq
 unfold compareOfLessAndEq
 rw[if_neg (by omega),if_pos rfl]
theorem o0g (a:Nat) (ha:a < 2^64) (h:nanC a=true):FloatKind.f64.format.order a a=none:=by rw[j0i a a ha ha,if_pos (.inl h)]
theorem q0Z (a:Nat) (ha:a < 2^64) (h:nanC a=false):FloatKind.f64.format.order a a=some .eq:=by
 rw[j0i a a ha ha,if_neg (by rw[h];simp),i0w]
theorem k0j (b:Nat) (h:nanC b=true):f0k b=(false,0,0):=by unfold f0k;rw[if_pos h]
theorem c0Q (b:Nat) (h:nanC b=false) (he:magC b=2047*2^52∨magC b=0):f0k b=(negC b,0,0):=by
 unfold f0k;rw[if_neg (by rw[h];simp),if_pos he]
theorem g0r (b:Nat) (h:nanC b=false) (he:¬(magC b=2047*2^52∨magC b=0)):f0k b=(negC b,oddC (sigC (magC b)),powC (magC b)+a0V (sigC (magC b))):=by
 unfold f0k;rw[if_neg (by rw[h];simp),if_neg he]
theorem y0r (b:Nat):∃E m:Nat,E < 2048∧m < 2^52∧magC b=E*2^52+m∧b/2^52%2048=E∧b%2^52=m∧magC b/2^52=E∧magC b%2^52=m:=by
 refine⟨b/2^52%2048,b%2^52,by omega,by omega,?_,rfl,rfl,?_,?_⟩
 ·unfold magC;omega
 ·unfold magC;omega
 ·unfold magC;omega
theorem k0I (M k:Nat) (h:0 < M) (hk:M < 2^k):a0V M≤k:=by
 obtain⟨o1,o2⟩:=d0M M (by omega)
 by_cases hlt:a0V M≤k
 ·exact hlt
 ·exfalso
  have h1:2^k≤2^a0V M:=Nat.pow_le_pow_right (by omega) (by omega)
  have h2:2^a0V M≤oddC M*2^a0V M:=Nat.le_mul_of_pos_left _ (by omega)
  omega
set_option maxHeartbeats 4000000 in
theorem s0n (b:Nat) (hb:b < 2^64) (w:World):Calls Tryz.prog 118 #[.float .f64 b] w fun e w'=>e=.returned (.tuple #[.bool (f0k b).1,.int .u64 ((f0k b).2.1:Int),.int .i64 (f0k b).2.2])∧w=w':=by
 obtain⟨E,m,hE,hm,hmag,e1,e2,e3,e4⟩:=y0r b
 have t1:((b:Int)/4503599627370496).tmod 2048=(E:Int):=by rw[Int.tmod_eq_emod_of_nonneg (by omega)];omega
 have t2:((b:Int)).tmod 4503599627370496=(m:Int):=by rw[Int.tmod_eq_emod_of_nonneg (by omega)];omega
 have t3:IntKind.i64.wrap (E:Int)=(E:Int):=by rw[IntKind.wrap_i64];omega
 have hneg:((b:Int)/9223372036854775808==1)=negC b:=by
  unfold negC
  rw[Bool.eq_iff_iff,beq_iff_eq,decide_eq_true_iff];omega
 obtain⟨V,hV⟩:∃V,V=f0k b:=⟨_,rfl⟩
 rw[←hV]
 have HV:=Lib.hid hV
 clear hV
 by_cases hE2:E=2047
 ·subst hE2
  by_cases hm0:m=0
  ·subst hm0
   have hn:nanC b=false:=by unfold nanC;rw[decide_eq_false_iff_not,hmag];omega
   have HW:=Lib.hid (HV.out.trans (c0Q b hn (.inl (by rw[hmag]))))
   clear HV hn hmag e1 e2 e3 e4
   generalize negC b=g at *
   go_enter Tryz.func118,Tryz.ntmps118
   go_wp2
   go_ret3
   exact⟨by rw[HW.out];rfl,rfl⟩
  ·have hn:nanC b=true:=by unfold nanC;rw[decide_eq_true_iff,hmag];omega
   have HW:=Lib.hid (HV.out.trans (k0j b hn))
   have hm1:(0:Int) < (m:Int):=by omega
   clear HV hn hmag e1 e2 e3 e4
   go_enter Tryz.func118,Tryz.ntmps118
   go_wp2
   go_ret3
   exact⟨by rw[HW.out];rfl,rfl⟩
 ·have hn:nanC b=false:=by unfold nanC;rw[decide_eq_false_iff_not,hmag];omega
  have a1:((E:Int)==2047)=false:=by rw[beq_eq_false_iff_ne];omega
  by_cases hE0:E=0
  ·subst hE0
   by_cases hm0:m=0
   ·subst hm0
    have HW:=Lib.hid (HV.out.trans (c0Q b hn (.inr (by rw[hmag]))))
    clear HV hn hmag e1 e2 e3 e4
    generalize negC b=g at *
    go_enter Tryz.func118,Tryz.ntmps118
    go_wp2
    go_ret3
    exact⟨by rw[HW.out];rfl,rfl⟩
   ·have h0:=g0r b hn (by rw[hmag];omega)
    have hs:sigC (magC b)=m:=by unfold sigC;rw[e3,e4,if_neg (by omega)]
    have hp:powC (magC b)=-1074:=by unfold powC;rw[e3,if_neg (by omega)]
    rw[hs,hp] at h0
    have hm1:((m:Int)==0)=false:=by rw[beq_eq_false_iff_ne];omega
    obtain⟨M0,hM⟩:∃M0,M0=m:=⟨_,rfl⟩
    obtain⟨P0,hP⟩:∃P0:Int,P0=-1074:=⟨_,rfl⟩
    rw[←hM,←hP] at h0
    have hM0:0 < M0:=by omega
    have hM1:M0 < 2^53:=by omega
    have hP0:-1074≤P0:=by omega
    have hP1:P0+a0V M0≤1100:=by have:=k0I M0 53 hM0 hM1;omega
    have HW:=Lib.hid (HV.out.trans h0)
    have HM:=Lib.hid hM
    have HP:=Lib.hid hP
    clear HV hn hmag e1 e2 e3 e4 hs hp h0 hm0 hM hP
    generalize negC b=g at *
    go_enter Tryz.func118,Tryz.ntmps118
    go_wp2
    go_loop [8,9] (fun x y=>∃(M:Nat) (P:Int),0 < M∧M < 2^53∧-1074≤P∧P+a0V M≤1100∧x=.int .u64 M∧y=.int .i64 P∧oddC M=oddC M0∧P+a0V M=P0+a0V M0) (fun x _=>(intOf x).toNat)
    case atStart=>exact⟨M0,P0,hM0,hM1,hP0,hP1,by rw[HM.out],by rw[HP.out],rfl,rfl⟩
    case round =>
     clear hM0 hM1 hP0 hP1
     obtain⟨M,P,h1,h2,h3,h4,rfl,rfl,h5,h6⟩:=hrel
     by_cases hev:M%2=0
     ·have hmod:((M:Int)).tmod 2=0:=by rw[Int.tmod_eq_emod_of_nonneg (by omega)];omega
      have g1:=h0I M (by omega) hev
      have g2:=f0G M (by omega) hev
      obtain⟨q,hq⟩:∃q,q=M/2:=⟨_,rfl⟩
      rw[←hq] at g1 g2
      have hq1:0 < q:=by omega
      have hq2:q < M:=by omega
      have hdiv:(M:Int)/2=(q:Int):=by omega
      have hw:IntKind.i64.wrap (P+1)=P+1:=by rw[IntKind.wrap_i64];omega
      have hwq:IntKind.u64.wrap (q:Int)=(q:Int):=by rw[IntKind.wrap_u64];omega
      have HR:=Lib.hid (show 0 < q∧q < 2^53∧-1074≤P+1∧P+1+a0V q≤1100∧oddC q=oddC M0∧P+1+a0V q=P0+a0V M0 from ⟨hq1,by omega,by omega,by omega,by rw[←g1,h5],by omega⟩)
      have HQ:=Lib.hid hq2
      clear hq g1 g2 h5 h6 hev h4 hq1 hq2
      go_wp2
      go_round
      case rel =>
       obtain⟨r1,r2,r3,r4,r5,r6⟩:=HR.out
       exact⟨q,P+1,r1,r2,r3,r4,rfl,rfl,r5,r6⟩
      case measure =>
       have:=HQ.out
       simp[intOf];omega
     ·have hmod:((M:Int)).tmod 2=1:=by rw[Int.tmod_eq_emod_of_nonneg (by omega)];omega
      have g1:=j0g M (by omega)
      have g2:=g0w M (by omega)
      have HX:=Lib.hid (show V=(g,M,P) by rw[HW.out,←h5,←h6,g1,g2];simp)
      clear g1 g2 h5 h6 hev h4
      go_wp2
      go_ret3
      exact⟨by rw[HX.out];rfl,rfl⟩
  ·have h0:=g0r b hn (by rw[hmag];omega)
   have hs:sigC (magC b)=m+2^52:=by unfold sigC;rw[e3,e4,if_pos (by omega)]
   have hp:powC (magC b)=(E:Int) - 1075:=by unfold powC;rw[e3,if_pos (by omega)]
   rw[hs,hp] at h0
   have a2:((E:Int)==0)=false:=by rw[beq_eq_false_iff_ne];omega
   have a3:(0:Int) < (E:Int):=by omega
   obtain⟨M0,hM⟩:∃M0,M0=m+2^52:=⟨_,rfl⟩
   obtain⟨P0,hP⟩:∃P0:Int,P0=(E:Int) - 1075:=⟨_,rfl⟩
   rw[←hM,←hP] at h0
   have hM0:0 < M0:=by omega
   have hM1:M0 < 2^53:=by omega
   have hP0:-1074≤P0:=by omega
   have hP1:P0+a0V M0≤1100:=by have:=k0I M0 53 hM0 hM1;omega
   have a4:IntKind.u64.wrap ((m:Int)+4503599627370496)=(M0:Int):=by rw[IntKind.wrap_u64];omega
   have a5:IntKind.i64.wrap ((E:Int) - 1075)=P0:=by rw[IntKind.wrap_i64];omega
   have HW:=Lib.hid (HV.out.trans h0)
   clear HV hn hmag e1 e2 e3 e4 hs hp h0 hM hP
   generalize negC b=g at *
   go_enter Tryz.func118,Tryz.ntmps118
   go_wp2
   go_loop [8,9] (fun x y=>∃(M:Nat) (P:Int),0 < M∧M < 2^53∧-1074≤P∧P+a0V M≤1100∧x=.int .u64 M∧y=.int .i64 P∧oddC M=oddC M0∧P+a0V M=P0+a0V M0) (fun x _=>(intOf x).toNat)
   case atStart=>exact⟨M0,P0,hM0,hM1,hP0,hP1,rfl,rfl,rfl,rfl⟩
   case round =>
    clear hM0 hM1 hP0 hP1
    obtain⟨M,P,h1,h2,h3,h4,rfl,rfl,h5,h6⟩:=hrel
    by_cases hev:M%2=0
    ·have hmod:((M:Int)).tmod 2=0:=by rw[Int.tmod_eq_emod_of_nonneg (by omega)];omega
     have g1:=h0I M (by omega) hev
     have g2:=f0G M (by omega) hev
     obtain⟨q,hq⟩:∃q,q=M/2:=⟨_,rfl⟩
     rw[←hq] at g1 g2
     have hq1:0 < q:=by omega
     have hq2:q < M:=by omega
     have hdiv:(M:Int)/2=(q:Int):=by omega
     have hw:IntKind.i64.wrap (P+1)=P+1:=by rw[IntKind.wrap_i64];omega
     have hwq:IntKind.u64.wrap (q:Int)=(q:Int):=by rw[IntKind.wrap_u64];omega
     have HR:=Lib.hid (show 0 < q∧q < 2^53∧-1074≤P+1∧P+1+a0V q≤1100∧oddC q=oddC M0∧P+1+a0V q=P0+a0V M0 from ⟨hq1,by omega,by omega,by omega,by rw[←g1,h5],by omega⟩)
     have HQ:=Lib.hid hq2
     clear hq g1 g2 h5 h6 hev h4 hq1 hq2
     go_wp2
     go_round
     case rel =>
      obtain⟨r1,r2,r3,r4,r5,r6⟩:=HR.out
      exact⟨q,P+1,r1,r2,r3,r4,rfl,rfl,r5,r6⟩
     case measure =>
      have:=HQ.out
      simp[intOf];omega
    ·have hmod:((M:Int)).tmod 2=1:=by rw[Int.tmod_eq_emod_of_nonneg (by omega)];omega
     have g1:=j0g M (by omega)
     have g2:=g0w M (by omega)
     have HX:=Lib.hid (show V=(g,M,P) by rw[HW.out,←h5,←h6,g1,g2];simp)
     clear g1 g2 h5 h6 hev h4
     go_wp2
     go_ret3
     exact⟨by rw[HX.out];rfl,rfl⟩
theorem s0q (n:Nat) (h:n < 10):((hexD n).toNat:Int)=48+n:=by
 unfold hexD
 rw[if_pos h,UInt8.toNat_ofNat']
 omega
set_option maxHeartbeats 2000000 in
theorem m0b (k:Nat):∀(n:Nat) (w:World),n≤k→n < 2^64 →
  Calls Tryz.prog 119 #[.int .u64 n] w fun e w'=>e=.returned (.string (bstr (numL 10 n)))∧Below w.heap.size w w':=by
 induction k using Nat.strongRecOn with
 | _ k ih =>
  intro n w hk hm
  by_cases hlt:n < 10
  ·have hN:=Lib.hid (a0O 10 n hlt)
   have hlt':(n:Int) < 10:=by omega
   have hd:=s0q n hlt
   generalize hexD n=x at *
   have hw1:IntKind.u64.wrap (48+(n:Int))=48+(n:Int):=by rw[IntKind.wrap_u64];omega
   have hw2:IntKind.u8.wrap (48+(n:Int))=(x.toNat:Int):=by rw[IntKind.wrap_u8];omega
   have hsl:=k0x w [x] #[.int .u8 (x.toNat:Int)] (0,0) rfl 1 rfl
   have hcv:=b0Q hsl 1 rfl
   have hb:Below w.heap.size w (w.alloc (.cells #[.int .u8 (x.toNat:Int)] 5 (0,0))):=(Below.refl _ w).alloc (Nat.le_refl _) _
   clear hsl ih hd
   go_enter Tryz.func119,Tryz.ntmps119
   go_wp2_with fail
   go_ret
   exact⟨by rw[hN.out];rfl,hb⟩
  ·have hge:(10:Int)≤(n:Int):=by omega
   have hN:=Lib.hid (b0k 10 n (by omega) (by omega))
   have hq:=Lib.hid (show ∀w',Calls Tryz.prog 119 #[.int .u64 ((n:Int)/10)] w' fun e w''=>e=.returned (.string (bstr (numL 10 (n/10))))∧Below w'.heap.size w' w'' from fun w'=>ih (n/10) (by omega) (n/10) w' (Nat.le_refl _) (by omega))
   have hr:=Lib.hid (show ∀w',Calls Tryz.prog 119 #[.int .u64 ((n:Int)%10)] w' fun e w''=>e=.returned (.string (bstr [hexD (n%10)]))∧Below w'.heap.size w' w'' from by
    rw[←a0O 10 (n%10) (by omega)];exact fun w'=>ih (n%10) (by omega) (n%10) w' (Nat.le_refl _) (by omega))
   have hY:=b0f 10 (by omega) 62 (n/10) (by omega)
   generalize hXn:numL 10 n=X at *
   generalize numL 10 (n/10)=Y at *
   have hZ:[hexD (n%10)].length=1:=rfl
   generalize [hexD (n%10)]=Z at *
   have hzY:=a0f Y
   have hzZ:=a0f Z
   have hw1:IntKind.u64.wrap ((n:Int)/10)=(n:Int)/10:=by rw[IntKind.wrap_u64];omega
   have hw2:((n:Int)).tmod 10=(n:Int)%10:=Int.tmod_eq_emod_of_nonneg (by omega)
   have tok:True:=trivial
   clear ih hXn
   go_enter Tryz.func119,Tryz.ntmps119
   go_wp2_with (first
    | (go_at_call 119;have _t:=tok;refine (hq.out _).mono ?_;rintro e w1 ⟨rfl,hb1⟩;clear tok)
    | (go_at_call 119;refine (hr.out _).mono ?_;rintro e w2 ⟨rfl,hb2⟩))
   go_ret
   exact⟨by rw[hN.out,←a0r];rfl,hb1.trans (hb2.mono hb1.size)⟩
theorem k0m (b:Nat) (h:magC b=0):g0c b=0:=by
 unfold g0c;rw[h];cases negC b<;>rfl
theorem z0z (b:Nat) (h:magC b≠0):g0c b≠0:=by
 unfold g0c;cases negC b<;>simp<;>omega
theorem q0T:nanC 0=false:=by decide
theorem l0o (b:Nat) (hb:b < 2^64) (hn:nanC b=false) (h:magC b=0):FloatKind.f64.format.order b 0=some .eq:=by
 rw[j0i b 0 hb (by omega),if_neg (by rw[hn,q0T];simp),k0m b h,k0m 0 (by decide),i0w]
theorem k0b (b:Nat) (hb:b < 2^64) (hn:nanC b=false) (h:magC b≠0):(FloatKind.f64.format.order b 0=some .lt∨FloatKind.f64.format.order b 0=some .gt):=by
 rw[j0i b 0 hb (by omega),if_neg (by rw[hn,q0T];simp),k0m 0 (by decide)]
 have h0:=z0z b h
 rcases Int.lt_trichotomy (g0c b) 0 with h1 | h1 | h1
 ·exact .inl (by rw[q0D h1])
 ·exact absurd h1 h0
 ·exact .inr (by rw[q0C h1])
theorem j0o (b:Nat) (h:nanC b=true):b0C b=[]:=by unfold b0C;rw[if_pos h]
theorem h0q (b:Nat) (h:nanC b=false):b0C b=(if negC b then [45] else [])++h0c (magC b):=by unfold b0C;rw[if_neg (by rw[h];simp)]
theorem l0T (a:Nat) (h0:a≠0) (h1:a≠2047*2^52):h0c a=numL 10 (oddC (sigC a))++112 :: intL (powC a+a0V (sigC a)):=by unfold h0c;rw[if_neg h0,if_neg h1]
theorem i0d (b:Nat) (hn:nanC b=false) (h0:magC b≠0) (h1:magC b≠2047*2^52):0 < oddC (sigC (magC b))∧oddC (sigC (magC b)) < 2^53∧-1074≤powC (magC b)+a0V (sigC (magC b))∧powC (magC b)+a0V (sigC (magC b))≤1100:=by
 have hle:magC b < 2047*2^52:=by
  unfold nanC at hn
  have:=of_decide_eq_false hn
  omega
 have hf:FinC (magC b):=⟨by omega,hle⟩
 have hs:=h0o _ hf
 obtain⟨g1,-⟩:=l0h _ hf
 obtain⟨o1,o2⟩:=d0M (sigC (magC b)) (by omega)
 have hsl:sigC (magC b) < 2^53:=by rcases g1 with ⟨_,h,_⟩ | ⟨_,h,_,_⟩<;>omega
 have hpow:-1074≤powC (magC b)∧powC (magC b)≤971:=by rcases g1 with ⟨_,_,h⟩ | ⟨_,_,h,h'⟩<;>omega
 have ht:=k0I (sigC (magC b)) 53 hs hsl
 have hle2:oddC (sigC (magC b))≤oddC (sigC (magC b))*2^a0V (sigC (magC b)):=Nat.le_mul_of_pos_right _ (Nat.pow_pos (by omega))
 rw[←o2] at hle2
 refine⟨by omega,by omega,by omega,by omega⟩
set_option maxHeartbeats 4000000 in
theorem n0z (b:Nat) (hb:b < 2^64) (w:World):Calls Tryz.prog 81 #[.float .f64 b] w fun e w'=>e=.returned (.string (bstr (b0C b)))∧Below w.heap.size w w':=by
 have hpt:=s0n b hb w
 have tok:True:=trivial
 cases hn:nanC b with
 | true =>
  have o1:=o0g b hb hn
  have HW:=Lib.hid (j0o b hn)
  clear hn hpt
  go_enter Tryz.func81,Tryz.ntmps81
  go_wp2
  go_ret
  exact⟨by rw[HW.out];rfl,Below.refl _ _⟩
 | false =>
  have o1:=q0Z b hb hn
  by_cases h0:magC b=0
  ·have o2:=l0o b hb hn h0
   have HW:=Lib.hid (show b0C b=(if negC b then [45] else [])++[48] by rw[h0q b hn,h0];rfl)
   rw[c0Q b hn (.inr h0)] at hpt
   have HP:=Lib.hid hpt
   clear hpt hn h0
   cases hg:negC b with
   | true =>
    rw[hg] at HP HW
    go_enter Tryz.func81,Tryz.ntmps81
    go_wp2_with (go_at_call 118;refine HP.out.mono ?_;rintro e w0 ⟨rfl,rfl⟩)
    go_ret
    exact⟨by rw[HW.out];rfl,Below.refl _ _⟩
   | false =>
    rw[hg] at HP HW
    go_enter Tryz.func81,Tryz.ntmps81
    go_wp2_with (go_at_call 118;refine HP.out.mono ?_;rintro e w0 ⟨rfl,rfl⟩)
    go_ret
    exact⟨by rw[HW.out];rfl,Below.refl _ _⟩
  ·have o2:=k0b b hb hn h0
   by_cases hi:magC b=2047*2^52
   ·have HW:=Lib.hid (show b0C b=(if negC b then [45] else [])++[105,110,102] by rw[h0q b hn,hi];rfl)
    rw[c0Q b hn (.inl hi)] at hpt
    have HP:=Lib.hid hpt
    clear hpt hn h0 hi
    rcases o2 with o2 | o2
    all_goals cases hg:negC b
    all_goals rw[hg] at HP HW
    all_goals clear hg
    ·go_enter Tryz.func81,Tryz.ntmps81
     go_wp2_with (go_at_call 118;refine HP.out.mono ?_;rintro e w0 ⟨rfl,rfl⟩)
     go_ret
     exact⟨by rw[HW.out];rfl,Below.refl _ _⟩
    ·go_enter Tryz.func81,Tryz.ntmps81
     go_wp2_with (go_at_call 118;refine HP.out.mono ?_;rintro e w0 ⟨rfl,rfl⟩)
     go_ret
     exact⟨by rw[HW.out];rfl,Below.refl _ _⟩
    ·go_enter Tryz.func81,Tryz.ntmps81
     go_wp2_with (go_at_call 118;refine HP.out.mono ?_;rintro e w0 ⟨rfl,rfl⟩)
     go_ret
     exact⟨by rw[HW.out];rfl,Below.refl _ _⟩
    ·go_enter Tryz.func81,Tryz.ntmps81
     go_wp2_with (go_at_call 118;refine HP.out.mono ?_;rintro e w0 ⟨rfl,rfl⟩)
     go_ret
     exact⟨by rw[HW.out];rfl,Below.refl _ _⟩
   ·obtain⟨b1,b2,b3,b4⟩:=i0d b hn h0 hi
    have hT:=show b0C b=(if negC b then [45] else [])++(numL 10 (oddC (sigC (magC b)))++112 :: intL (powC (magC b)+a0V (sigC (magC b)))) by rw[h0q b hn,l0T _ h0 hi]
    rw[g0r b hn (by rintro (h | h);exact hi h;exact h0 h)] at hpt
    generalize oddC (sigC (magC b))=m at *
    generalize powC (magC b)+(a0V (sigC (magC b)):Int)=P at *
    obtain⟨k,hk⟩:∃k,k=P.natAbs:=⟨_,rfl⟩
    have hn1:=Lib.hid (fun w'=>m0b m m w' (Nat.le_refl _) (by omega))
    have hn2:=Lib.hid (fun w'=>m0b k k w' (Nat.le_refl _) (by omega))
    have hX:=b0f 10 (by omega) 20 m (by omega)
    have hY:=b0f 10 (by omega) 20 k (by omega)
    have hzX:=a0f (numL 10 m)
    have hzY:=a0f (numL 10 k)
    have hm0:((m:Int)==0)=false:=by rw[beq_eq_false_iff_ne];omega
    have HP:=Lib.hid hpt
    have HI:=Lib.hid (show intL P=if P < 0 then 45 :: numL 10 k else numL 10 k by rw[hk];rfl)
    have HT:=Lib.hid hT
    clear hpt hn h0 hi hT b1 b2
    generalize intL P=I at *
    generalize numL 10 m=X at *
    generalize numL 10 k=Y at *
    clear o2
    by_cases hp:P < 0
    ·have hw1:IntKind.i64.wrap (-P)=(k:Int):=by rw[IntKind.wrap_i64];omega
     have hw2:IntKind.u64.wrap (k:Int)=(k:Int):=by rw[IntKind.wrap_u64];omega
     have HJ:=Lib.hid (HI.out.trans (if_pos hp))
     clear HI hk
     cases hg:negC b with
     | true =>
      rw[hg] at HP HT
      go_enter Tryz.func81,Tryz.ntmps81
      go_wp2_with (first
       | (go_at_call 118;refine HP.out.mono ?_;rintro e w0 ⟨rfl,rfl⟩)
       | (go_at_call 119;have _t:=tok;refine (hn1.out _).mono ?_;rintro e w1 ⟨rfl,hb1⟩;clear tok)
       | (go_at_call 119;refine (hn2.out _).mono ?_;rintro e w2 ⟨rfl,hb2⟩))
      go_ret
      exact⟨by rw[HT.out,HJ.out];show Ending.returned (.string (((bstr [45]++bstr X)++bstr [112,45])++bstr Y))=_;rw[a0r,a0r,a0r];simp,hb1.trans (hb2.mono hb1.size)⟩
     | false =>
      rw[hg] at HP HT
      go_enter Tryz.func81,Tryz.ntmps81
      go_wp2_with (first
       | (go_at_call 118;refine HP.out.mono ?_;rintro e w0 ⟨rfl,rfl⟩)
       | (go_at_call 119;have _t:=tok;refine (hn1.out _).mono ?_;rintro e w1 ⟨rfl,hb1⟩;clear tok)
       | (go_at_call 119;refine (hn2.out _).mono ?_;rintro e w2 ⟨rfl,hb2⟩))
      go_ret
      exact⟨by rw[HT.out,HJ.out];show Ending.returned (.string (((bstr []++bstr X)++bstr [112,45])++bstr Y))=_;rw[a0r,a0r,a0r];simp,hb1.trans (hb2.mono hb1.size)⟩
    ·have hp':(0:Int)≤P:=by omega
     have hw2:IntKind.u64.wrap P=(k:Int):=by rw[IntKind.wrap_u64];omega
     have HJ:=Lib.hid (HI.out.trans (if_neg hp))
     clear HI hk hp
     cases hg:negC b with
     | true =>
      rw[hg] at HP HT
      go_enter Tryz.func81,Tryz.ntmps81
      go_wp2_with (first
       | (go_at_call 118;refine HP.out.mono ?_;rintro e w0 ⟨rfl,rfl⟩)
       | (go_at_call 119;have _t:=tok;refine (hn1.out _).mono ?_;rintro e w1 ⟨rfl,hb1⟩;clear tok)
       | (go_at_call 119;refine (hn2.out _).mono ?_;rintro e w2 ⟨rfl,hb2⟩))
      go_ret
      exact⟨by rw[HT.out,HJ.out];show Ending.returned (.string (((bstr [45]++bstr X)++bstr [112])++bstr Y))=_;rw[a0r,a0r,a0r];simp,hb1.trans (hb2.mono hb1.size)⟩
     | false =>
      rw[hg] at HP HT
      go_enter Tryz.func81,Tryz.ntmps81
      go_wp2_with (first
       | (go_at_call 118;refine HP.out.mono ?_;rintro e w0 ⟨rfl,rfl⟩)
       | (go_at_call 119;have _t:=tok;refine (hn1.out _).mono ?_;rintro e w1 ⟨rfl,hb1⟩;clear tok)
       | (go_at_call 119;refine (hn2.out _).mono ?_;rintro e w2 ⟨rfl,hb2⟩))
      go_ret
      exact⟨by rw[HT.out,HJ.out];show Ending.returned (.string (((bstr []++bstr X)++bstr [112])++bstr Y))=_;rw[a0r,a0r,a0r];simp,hb1.trans (hb2.mono hb1.size)⟩
def b0u (l:List (List UInt8)):List UInt8:=l.flatMap fun w=>47 :: w
theorem n0r (l k:List (List UInt8)):b0u (l++k)=b0u l++b0u k:=by unfold b0u;rw[List.flatMap_append]
theorem n0t (w:List UInt8):b0u [w]=47 :: w:=by unfold b0u;simp
theorem n0s (l:List (List UInt8)):b0u l=[]↔l=[]:=by
 cases l with
 | nil=>exact⟨fun _=>rfl,fun _=>rfl⟩
 | cons w l=>constructor<;>intro h<;>cases h
theorem s0g (l:List (List UInt8)) (h:l≠[]):b0u l=b0u l.dropLast++47 :: l.getLast h:=by
 conv=>lhs;rw[←List.dropLast_concat_getLast h]
 rw[n0r,n0t]
theorem s0z (l:List (List UInt8)):f0o l=if l=[] then [47] else b0u l:=rfl
def g0W (l:List (List UInt8)) (w:List UInt8):Option (List (List UInt8)) :=
 if w=[]∨w=[46] then some l
 else if w=[46,46] then (if l=[] then none else some l.dropLast)
 else if c0c w then some (l++[w]) else none
theorem n0D (l:List (List UInt8)) (w:List UInt8) (ws:List (List UInt8)):goN l (w :: ws)=match g0W l w with
  | none=>none
  | some k=>goN k ws:=by
 rw[goN]
 unfold g0W
 split
 ·rfl
 ·split
  ·split<;>rfl
  ·split<;>rfl
theorem p0b (l k:List (List UInt8)) (w:List UInt8) (hl:∀v∈l,c0c v=true) (h:g0W l w=some k):∀v∈k,c0c v=true:=by
 refine n0F [w] l k hl ?_
 rw[n0D,h];rfl
theorem o0a (w:List UInt8) (h:c0c w=true):w.length≤64:=by
 unfold c0c at h
 simp only[Bool.and_eq_true,decide_eq_true_iff] at h
 exact h.1.1.1.2
theorem t0p (p:List UInt8):b0N p=decide (i0M p=some p):=by
 by_cases h:b0N p=true
 ·rw[h]
  symm
  rw[decide_eq_true_iff]
  obtain⟨r,rfl⟩:=l0z p h
  by_cases hr:r=[]
  ·subst hr;rfl
  ·have h':(decide (r=[])||(decide (r.length+1≤256)&&(a0h 47 r).all c0c))=true:=h
   rw[decide_eq_false hr,Bool.false_or,Bool.and_eq_true,decide_eq_true_iff,List.all_eq_true] at h'
   obtain⟨h1,h2⟩:=h'
   have he:=f0b 47 r
   have e1:=(j0R (a0h 47 r) he h2).1
   rw[c0t] at e1
   show (match goN [] (a0h 47 r) with
    | none=>none
    | some l=>if (f0o l).length≤256 then some (f0o l) else none)=_
   rw[q0O (a0h 47 r) [] h2,List.nil_append]
   show (if (f0o (a0h 47 r)).length≤256 then some (f0o (a0h 47 r)) else none)=_
   rw[e1,if_pos (by rw[List.length_cons];exact h1)]
 ·have hf:b0N p=false:=by simpa using h
  rw[hf]
  symm
  rw[decide_eq_false_iff_not]
  intro e
  exact h (p0z p p e).1
end Go.Proofs.YtimdhdimhboboaaGreatDoor
