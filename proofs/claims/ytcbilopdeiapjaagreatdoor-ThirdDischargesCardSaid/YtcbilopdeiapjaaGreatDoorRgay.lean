import Derived.Test.YtcbilopdeiapjaaGreatDoorRgav
import Derived.Shelf.Spec.TrailingZeros
import Derived.Lib.AppendIntMem
set_option maxHeartbeats 16000000
set_option maxRecDepth 100000
open Go.Proofs.Tryz
namespace Go.Proofs.YtcbilopdeiapjaaGreatDoor
open Go Go.RowKit
def pmL (mx:Nat):Nat→List UInt8→Nat×Nat
 | n,[]=>(n,0)
 | n,c :: cs=>if 10≤dvL c.toNat then (0,2) else if mx < n*10+dvL c.toNat then (mx,1) else pmL mx (n*10+dvL c.toNat) cs
def pmA (mx:Nat) (l:List UInt8):Nat×Nat:=if l=[] then (0,2) else pmL mx 0 l
theorem b1l (mx n k:Nat) (l:List UInt8) (h:k < l.length):pmL mx n (l.drop k)=if 10≤dvL (l.getD k 0).toNat then (0,2) else if mx < n*10+dvL (l.getD k 0).toNat then (mx,1) else pmL mx (n*10+dvL (l.getD k 0).toNat) (l.drop (k+1)):=by
 rw[List.drop_eq_getElem_cons h,List.getD_eq_getElem?_getD,List.getElem?_eq_getElem h];rfl
theorem a1q (mx:Nat) (l:List UInt8):∀n,n≤mx→(pmL mx n l).1≤mx∧((pmL mx n l).2=0∨(pmL mx n l).2=1∧(pmL mx n l).1=mx∨(pmL mx n l).2=2):=by
 induction l with
 | nil=>intro n hn;exact⟨hn,.inl rfl⟩
 | cons c l ih =>
  intro n hn
  unfold pmL
  split
  ·exact⟨by simp,.inr (.inr rfl)⟩
  ·split
   ·exact⟨by simp,.inr (.inl ⟨rfl,rfl⟩)⟩
   ·exact ih _ (by omega)
theorem i0c (mx:Nat) (l:List UInt8):(pmA mx l).1≤mx∧((pmA mx l).2=0∨(pmA mx l).2=1∧(pmA mx l).1=mx∨(pmA mx l).2=2):=by
 unfold pmA
 split
 ·exact⟨by simp,.inr (.inr rfl)⟩
 ·exact a1q mx l 0 (by omega)
theorem z0v:∀d:Nat,d < 10→dvL (hexD d).toNat=d:=by
 have h:∀d:Fin 10,dvL (hexD d.1).toNat=d.1:=by decide
 intro d hd
 exact h ⟨d,hd⟩
theorem z0x (s:List UInt8):∀n v,c0c 10 n s=some v→n≤v:=by
 induction s with
 | nil=>intro n v h;cases h;omega
 | cons c s ih =>
  intro n v h
  rw[c0c] at h
  split at h
  ·cases h
  ·have:=ih _ _ h;omega
theorem c1J (mx:Nat) (s:List UInt8):∀n v,c0c 10 n s=some v→v≤mx→pmL mx n s=(v,0):=by
 induction s with
 | nil=>intro n v h _;cases h;rfl
 | cons c s ih =>
  intro n v h hv
  rw[c0c] at h
  split at h
  ·cases h
  ·rename_i hd
   have hb:=m0z 10 c
   have hx:=r0u 10 c (by omega)
   have e:dvL c.toNat=(digI 10 c).toNat:=by rw[←hx,z0v _ (by omega),hx]
   have hle:=z0x _ _ _ h
   rw[pmL,e,if_neg (by omega),if_neg (by omega)]
   exact ih _ _ h hv
theorem b1m (mx n:Nat) (h:n≤mx):pmA mx (numL 10 n)=(n,0):=by
 unfold pmA
 rw[if_neg (f0W 10 n)]
 exact c1J mx _ 0 n (f0B 10 (by omega) (by omega) n) h
theorem w0v (l:List UInt8) (hl:l.length≤100000) (w:World) :
  Calls prog 138 #[.string (bstr l),.int .i64 10,.int .i64 53] w fun e w'=>e=.returned (.tuple #[.int .u64 (pmA 9007199254740991 l).1,errV (pmA 9007199254740991 l).2])∧Below w.heap.size w w':=by
 by_cases h0:l=[]
 ·subst h0
  have hne:(bstr []).toList.isEmpty=true:=by rw[a0p];rfl
  go_enter func138,ntmps138
  go_wp2
  go_ret2
  exact⟨rfl,Below.refl _ _⟩
 ·have hne:(bstr l).toList.isEmpty=false:=by
   rw[a0p]
   cases l with
   | nil=>exact absurd rfl h0
   | cons _ _=>rfl
  have hP:=f1D (show pmA 9007199254740991 l=pmL 9007199254740991 0 (l.drop 0) by unfold pmA;rw[if_neg h0];rfl)
  have tok1:True:=trivial
  go_enter func138,ntmps138
  go_wp2_with (have _t:=tok1;refine c0i rfl (.tmp 98) rfl l rfl ?_;intro A c w1 hs hb;clear tok1)
  generalize hCe:(1844674407370955162:Int)=C
  have hC:9007199254740992≤C:=by omega
  clear hne hCe
  generalize bstr l=S at *
  go_loopw [12,13,101] (fun us n i wr=>∃k acc:Nat,k≤l.length∧us=.bool false∧i=.int .i64 k∧n=.int .u64 acc∧acc≤9007199254740991∧pmA 9007199254740991 l=pmL 9007199254740991 acc (l.drop k)∧Below w1.heap.size w1 wr) (fun _ _ i _=>l.length - (intOf i).toNat)
  case atStart=>exact⟨0,0,by omega,rfl,rfl,rfl,by omega,hP.out,Below.refl _ _⟩
  case round =>
   obtain⟨k,acc,hk,rfl,rfl,rfl,hacc,hpu,hbr⟩:=hrel
   have HP:=f1D hpu
   clear hP hpu h0
   have hBe:=hb.trans (hbr.mono hb.size)
   by_cases hlt:k < l.length
   ·have hlt':(k:Int) < (l.length:Int):=by omega
    obtain⟨b',o,hA,-,-⟩:=hs.rd.get (i:=k) (by rw[a0b];exact hlt)
    have hix:=c0I A b' o l.length c k hA hlt
    have hce:=h0M (by rw[hA] at hs;exact hs.later (f1F _) hbr) k hlt
    clear hA
    have HQ:=f1D (HP.out.trans (b1l 9007199254740991 acc k l hlt))
    clear HP
    have hx:=(l.getD k 0).toNat_lt
    have hac1:(acc:Int) < C:=by omega
    have hac2:(acc:Int)≤9007199254740991:=by omega
    generalize (l.getD k 0).toNat=x at *
    have hlow:=f1D (fun w'=>m0R x hx w')
    have HD:=f1D (show dvL x=if 48≤x∧x≤57 then x - 48 else if 97≤(x ||| 32)∧(x ||| 32)≤122 then (x ||| 32) - 87 else 255 from rfl)
    have hy:x ||| 32 < 256:=Nat.or_lt_two_pow (n:=8) hx (by omega)
    generalize x ||| 32=y at *
    cases hq:((x:Int)==95)
    all_goals
     go_wp2_with (go_at_call 181;refine (hlow.out _).mono ?_;rintro e w' ⟨rfl,rfl⟩)
     all_goals first
      | (go_ret2
         have hs:10≤dvL x:=by rw[HD.out];(repeat' split)<;>omega
         exact⟨by rw[HQ.out,if_pos hs];rfl,hBe⟩)
      | (go_ret2
         have hs:¬10≤dvL x:=by rw[HD.out];(repeat' split)<;>omega
         have ht:9007199254740991 < acc*10+dvL x:=by rw[HD.out];(repeat' split)<;>omega
         exact⟨by rw[HQ.out,if_neg hs,if_pos ht];rfl,hBe⟩)
      | (have hs : ¬ 10 ≤ dvL x := by rw [HD.out]; (repeat' split) <;> omega
         have ht:¬9007199254740991 < acc*10+dvL x:=by rw[HD.out];(repeat' split)<;>omega
         go_roundw
         case rel=>exact⟨k+1,acc*10+dvL x,by omega,rfl,by go_num,s0s (by rw[HD.out];(repeat' split)<;>omega),by omega,by rw[HQ.out,if_neg hs,if_neg ht],hbr⟩
         case measure=>simp[intOf];omega)
   ·obtain rfl:k=l.length:=by omega
    rw[List.drop_length] at HP
    go_wp2
    go_ret2
    exact⟨by rw[HP.out];rfl,hBe⟩
theorem k0m (l:List UInt8) (hl:l.length≤100000) (w:World) :
  Calls prog 138 #[.string (bstr l),.int .i64 10,.int .i64 12] w fun e w'=>e=.returned (.tuple #[.int .u64 (pmA 4095 l).1,errV (pmA 4095 l).2])∧Below w.heap.size w w':=by
 by_cases h0:l=[]
 ·subst h0
  have hne:(bstr []).toList.isEmpty=true:=by rw[a0p];rfl
  go_enter func138,ntmps138
  go_wp2
  go_ret2
  exact⟨rfl,Below.refl _ _⟩
 ·have hne:(bstr l).toList.isEmpty=false:=by
   rw[a0p]
   cases l with
   | nil=>exact absurd rfl h0
   | cons _ _=>rfl
  have hP:=f1D (show pmA 4095 l=pmL 4095 0 (l.drop 0) by unfold pmA;rw[if_neg h0];rfl)
  have tok1:True:=trivial
  go_enter func138,ntmps138
  go_wp2_with (have _t:=tok1;refine c0i rfl (.tmp 98) rfl l rfl ?_;intro A c w1 hs hb;clear tok1)
  generalize hCe:(1844674407370955162:Int)=C
  have hC:4096≤C:=by omega
  clear hne hCe
  generalize bstr l=S at *
  go_loopw [12,13,101] (fun us n i wr=>∃k acc:Nat,k≤l.length∧us=.bool false∧i=.int .i64 k∧n=.int .u64 acc∧acc≤4095∧pmA 4095 l=pmL 4095 acc (l.drop k)∧Below w1.heap.size w1 wr) (fun _ _ i _=>l.length - (intOf i).toNat)
  case atStart=>exact⟨0,0,by omega,rfl,rfl,rfl,by omega,hP.out,Below.refl _ _⟩
  case round =>
   obtain⟨k,acc,hk,rfl,rfl,rfl,hacc,hpu,hbr⟩:=hrel
   have HP:=f1D hpu
   clear hP hpu h0
   have hBe:=hb.trans (hbr.mono hb.size)
   by_cases hlt:k < l.length
   ·have hlt':(k:Int) < (l.length:Int):=by omega
    obtain⟨b',o,hA,-,-⟩:=hs.rd.get (i:=k) (by rw[a0b];exact hlt)
    have hix:=c0I A b' o l.length c k hA hlt
    have hce:=h0M (by rw[hA] at hs;exact hs.later (f1F _) hbr) k hlt
    clear hA
    have HQ:=f1D (HP.out.trans (b1l 4095 acc k l hlt))
    clear HP
    have hx:=(l.getD k 0).toNat_lt
    have hac1:(acc:Int) < C:=by omega
    have hac2:(acc:Int)≤4095:=by omega
    generalize (l.getD k 0).toNat=x at *
    have hlow:=f1D (fun w'=>m0R x hx w')
    have HD:=f1D (show dvL x=if 48≤x∧x≤57 then x - 48 else if 97≤(x ||| 32)∧(x ||| 32)≤122 then (x ||| 32) - 87 else 255 from rfl)
    have hy:x ||| 32 < 256:=Nat.or_lt_two_pow (n:=8) hx (by omega)
    generalize x ||| 32=y at *
    cases hq:((x:Int)==95)
    all_goals
     go_wp2_with (go_at_call 181;refine (hlow.out _).mono ?_;rintro e w' ⟨rfl,rfl⟩)
     all_goals first
      | (go_ret2
         have hs:10≤dvL x:=by rw[HD.out];(repeat' split)<;>omega
         exact⟨by rw[HQ.out,if_pos hs];rfl,hBe⟩)
      | (go_ret2
         have hs:¬10≤dvL x:=by rw[HD.out];(repeat' split)<;>omega
         have ht:4095 < acc*10+dvL x:=by rw[HD.out];(repeat' split)<;>omega
         exact⟨by rw[HQ.out,if_neg hs,if_pos ht];rfl,hBe⟩)
      | (have hs : ¬ 10 ≤ dvL x := by rw [HD.out]; (repeat' split) <;> omega
         have ht:¬4095 < acc*10+dvL x:=by rw[HD.out];(repeat' split)<;>omega
         go_roundw
         case rel=>exact⟨k+1,acc*10+dvL x,by omega,rfl,by go_num,s0s (by rw[HD.out];(repeat' split)<;>omega),by omega,by rw[HQ.out,if_neg hs,if_neg ht],hbr⟩
         case measure=>simp[intOf];omega)
   ·obtain rfl:k=l.length:=by omega
    rw[List.drop_length] at HP
    go_wp2
    go_ret2
    exact⟨by rw[HP.out];rfl,hBe⟩
theorem v0h (x i:Nat):x &&& 2^i=if x.testBit i then 2^i else 0:=by
 apply Nat.eq_of_testBit_eq
 intro j
 rw[Nat.testBit_and,Nat.testBit_two_pow]
 by_cases h:i=j
 ·subst h
  cases hx:x.testBit i<;>simp
 ·cases hx:x.testBit i<;>simp[h]
theorem r0p (b:Nat) (hb:b < 2^64):bits .andNot .u64 (b:Int) 9223372036854775808=((magC b:Nat):Int):=by
 refine (u64_andNot_nat b 9223372036854775808 (by omega) (by omega)).trans ?_
 rw[show 18446744073709551615 - 9223372036854775808=2^63 - 1 from rfl,Nat.and_two_pow_sub_one_eq_mod];rfl
theorem z0g (b:Nat) (hb:b < 2^64):bits .and .u64 (b:Int) 9223372036854775808=((if negC b then 2^63 else 0:Nat):Int):=by
 refine (u64_and_nat b 9223372036854775808 (by omega) (by omega)).trans ?_
 rw[show 9223372036854775808=2^63 from rfl,v0h]
 have:b.testBit 63=negC b:=by
  rw[Nat.testBit_eq_decide_div_mod_eq]
  unfold negC
  rw[show b/2^63%2=b/2^63 by omega]
 rw[this]
theorem y0W (x:Nat) (hx:x < 2^63):x &&& 9227875636482146303=x%2^52:=by
 have e:9227875636482146303=2^63 ||| (2^52 - 1):=by decide
 rw[e,Nat.and_or_distrib_left,v0h,Nat.testBit_lt_two_pow hx,Nat.and_two_pow_sub_one_eq_mod]
 simp
theorem n0H (x:Nat) (hx:x < 2^63):bits .andNot .u64 (x:Int) 9218868437227405312=((x%2^52:Nat):Int):=by
 refine (u64_andNot_nat x 9218868437227405312 (by omega) (by omega)).trans ?_
 rw[show 18446744073709551615 - 9218868437227405312=9227875636482146303 from rfl,y0W x hx]
theorem d1R (r E:Nat) (hr:r < 2^52):r ||| E*2^52=E*2^52+r:=by
 rw[Nat.or_comm,Nat.mul_comm,Nat.two_pow_add_eq_or_of_lt hr]
theorem m0u (r E:Nat) (hr:r < 2^52) (hE:E < 2048):bits .or .u64 (r:Int) ((E*2^52:Nat):Int)=((E*2^52+r:Nat):Int):=by
 refine (u64_or_nat r (E*2^52) (by omega) (by omega)).trans ?_
 rw[d1R r E hr]
theorem z0d (E:Nat) (hE:E < 2048):bits .and .u64 (E:Int) 2047=(E:Int):=by
 refine (u64_and_nat E 2047 (by omega) (by omega)).trans ?_
 rw[show 2047=2^11 - 1 from rfl,Nat.and_two_pow_sub_one_eq_mod,Nat.mod_eq_of_lt (by omega)]
theorem r0S (E r:Nat) (hr:r < 2^52):(E*2^52+r)/2^52=E:=by omega
theorem r0U (E r:Nat) (hr:r < 2^52):(E*2^52+r)%2^52=r:=by omega
theorem n0b (E r:Nat) (hE:E < 2048) (hr:r < 2^52):magC (E*2^52+r)=E*2^52+r:=by unfold magC;omega
theorem r0V (E r:Nat) (hE:E < 2048) (hr:r < 2^52):negC (E*2^52+r)=false:=by unfold negC;rw[decide_eq_false_iff_not];omega
theorem r0X (E r:Nat) (h1:1≤E) (hr:r < 2^52):sigC (E*2^52+r)=2^52+r:=by
 unfold sigC;rw[r0S E r hr,r0U E r hr,if_pos (by omega)];omega
theorem r0W (E r:Nat) (h1:1≤E) (hr:r < 2^52):powC (E*2^52+r)=(E:Int) - 1075:=by
 unfold powC;rw[r0S E r hr,if_pos (by omega)]
theorem r0T (E r:Nat) (h1:1≤E) (h2:E≤2046) (hr:r < 2^52):FinC (E*2^52+r):=by unfold FinC;omega
theorem k0C (E r:Nat) (h1:1≤E) (h2:E≤2046) (hr:r < 2^52):Ieee.double.read (E*2^52+r)=.number false (2^52+r) ((E:Int) - 1075):=by
 rw[h0d _ (by omega) (by rw[n0b E r (by omega) hr];omega),r0V E r (by omega) hr,n0b E r (by omega) hr,r0X E r h1 hr,r0W E r h1 hr]
theorem i0a (E r:Nat) (h1:1≤E) (hr:r < 2^52):f0s (2^52+r) ((E:Int) - 1075)=E*2^52+r:=by
 unfold f0s
 rw[if_neg (by omega),show ((E:Int) - 1075+1075).toNat=E by omega];omega
theorem n0a (E r:Nat) (h1:1≤E) (h2:E≤2046) (hr:r < 2^52):FitC (2^52+r) ((E:Int) - 1075):=.inr ⟨by omega,by omega,by omega,by omega⟩
theorem c1B (a:Nat) (h:2^52≤a) (h2:a < 2047*2^52):∃E r,1≤E∧E≤2046∧r < 2^52∧a=E*2^52+r:=⟨a/2^52,a%2^52,by omega,by omega,by omega,by omega⟩
theorem k0A (a b:Nat) (ha:a≤2047*2^52) (hb:b≤2047*2^52):FloatKind.f64.format.order a b=some (compare (a:Int) (b:Int)):=by
 have na:nanC a=false:=by unfold nanC magC;rw[decide_eq_false_iff_not];omega
 have nb:nanC b=false:=by unfold nanC magC;rw[decide_eq_false_iff_not];omega
 have ga:negC a=false:=by unfold negC;rw[decide_eq_false_iff_not];omega
 have gb:negC b=false:=by unfold negC;rw[decide_eq_false_iff_not];omega
 have e:FloatKind.f64.format.order a b=if nanC a=true∨nanC b=true then none else some (compare (g0l a) (g0l b)):=i0H a b (by omega) (by omega)
 rw[e,if_neg (by rw[na,nb];simp)]
 unfold g0l
 rw[ga,gb,show magC a=a by unfold magC;omega,show magC b=b by unfold magC;omega];rfl
theorem r0Q (a b:Nat) (ha:a≤2047*2^52) (hb:b≤2047*2^52) (h:a < b):FloatKind.f64.format.order a b=some .lt:=by
 rw[k0A a b ha hb,r0s (by omega)]
theorem j0B (a b:Nat) (ha:a≤2047*2^52) (hb:b≤2047*2^52) (h:b < a):FloatKind.f64.format.order a b=some .gt:=by
 rw[k0A a b ha hb,r0r (by omega)]
theorem l0p (a b:Nat) (ha:a < 2^64) (hb:b < 2^64) (h:nanC a=true):FloatKind.f64.format.order a b=none:=by
 have e:FloatKind.f64.format.order a b=if nanC a=true∨nanC b=true then none else some (compare (g0l a) (g0l b)):=i0H a b ha hb
 rw[e,if_pos (.inl h)]
theorem f1f (m:Nat) (h0:0 < m) (h:m < 2^53):∃k r:Nat,k≤52∧r < 2^52∧m*2^k=2^52+r:=by
 have h1:=Nat.log2_self_le (n:=m) (by omega)
 have h2:m < 2^(m.log2+1):=(Nat.log2_lt (by omega)).1 (Nat.lt_succ_self _)
 have h3:m.log2 < 53:=(Nat.log2_lt (by omega)).2 h
 have e:2^52=2^m.log2*2^(52 - m.log2):=by rw[←Nat.pow_add,show m.log2+(52 - m.log2)=52 by omega]
 have hlo:2^52≤m*2^(52 - m.log2):=by
  calc 2^52=2^m.log2*2^(52 - m.log2):=e
   _≤m*2^(52 - m.log2):=Nat.mul_le_mul_right _ h1
 have hhi:m*2^(52 - m.log2) < 2^53:=by
  calc m*2^(52 - m.log2) < 2^(m.log2+1)*2^(52 - m.log2):=Nat.mul_lt_mul_of_pos_right h2 (Nat.pow_pos (by omega))
   _=2^53:=by rw[←Nat.pow_add,show m.log2+1+(52 - m.log2)=53 by omega]
 exact⟨52 - m.log2,m*2^(52 - m.log2) - 2^52,by omega,by omega,by omega⟩
theorem w0Y (m k:Nat) (h:m≠0):oddC (m*2^k)=oddC m∧a0Z (m*2^k)=a0Z m+k:=by
 obtain⟨o1,o2⟩:=d0V m h
 have e:m*2^k=oddC m*2^(a0Z m+k):=by rw[Nat.pow_add,←Nat.mul_assoc,←o2]
 obtain⟨p1,p2⟩:=w0X (oddC m) o1 (a0Z m+k)
 rw[e]
 exact⟨p1,p2⟩
theorem s0l (m k:Nat) (h1:2^52≤m*2^k) (h2:m*2^k < 2^53):k≤52:=by
 by_cases h:k≤52
 ·exact h
 ·exfalso
  have h3:2^53≤2^k:=Nat.pow_le_pow_right (by omega) (by omega)
  have h4:0 < m:=by
   rcases Nat.eq_zero_or_pos m with h0 | h0
   ·rw[h0,Nat.zero_mul] at h1;omega
   ·exact h0
  have h5:2^k≤m*2^k:=Nat.le_mul_of_pos_left _ h4
  omega
theorem x0T (m a b:Nat) (h1:2^52≤m*2^a) (h2:m*2^a < 2^53) (h3:2^52≤m*2^b) (h4:m*2^b < 2^53):a=b:=by
 have ha:=s0l m a h1 h2
 have hb:=s0l m b h3 h4
 exact v0T m a b 0 (.inr ⟨h1,h2,by omega,by omega⟩) (.inr ⟨h3,h4,by omega,by omega⟩)
theorem w0N (x y:Nat) (s t:Bool) (m n:Nat) (i j:Int) (hx:Ieee.double.read x=.number s m i) (hy:Ieee.double.read y=.number t n j):Ieee.double.mul x y=some (Ieee.double.nearest (s ^^ t) (m*n) (i+j)):=by
 unfold Ieee.Format.mul
 rw[hx,hy];rfl
theorem u0g (a:Nat) (h:a < 2^52):Ieee.double.read a=.number false a (-1074):=by
 rw[h0d a (by omega) (by unfold magC;omega)]
 have hm:magC a=a:=by unfold magC;omega
 have hg:negC a=false:=by unfold negC;rw[decide_eq_false_iff_not];omega
 rw[hm,hg]
 unfold sigC powC
 rw[if_neg (by omega),if_neg (by omega),Nat.mod_eq_of_lt h]
theorem w0O (a k r:Nat) (h:a < 2^52) (hk:k≤52) (hr:r < 2^52) (e:a*2^k=2^52+r):floatBits .mul .f64 a 4841369599423283200=some ((53 - k)*2^52+r):=by
 show Ieee.double.mul a 4841369599423283200=_
 have h2:Ieee.double.read 4841369599423283200=.number false (2^52) 0:=by decide +kernel
 rw[w0N _ _ _ _ _ _ _ _ (u0g a h) h2]
 rw[f0h _ _ _ (2^52+r) (((53 - k:Nat):Int) - 1075) (n0a _ r (by omega) (by omega) hr) ?_,i0a _ r (by omega) hr]
 ·rfl
 ·by_cases hk0:((53 - k:Nat):Int) - 1075 < -1074+0
  ·refine .inr ⟨hk0,?_⟩
   rw[←e,show ((-1074:Int)+0 - (((53 - k:Nat):Int) - 1075)).toNat=k - 52 by omega]
   have:k=52:=by omega
   subst this
   exact absurd hk0 (by decide)
  ·refine .inl ⟨by omega,?_⟩
   rw[←e,show (((53 - k:Nat):Int) - 1075 - (-1074+0)).toNat=52 - k by omega,Nat.mul_assoc,←Nat.pow_add,show k+(52 - k)=52 by omega]
theorem z0V (r:Nat) (hr:r < 2^52):floatBits .mul .f64 (1022*2^52+r) 4845873199050653696=some (1075*2^52+r):=by
 show Ieee.double.mul (1022*2^52+r) 4845873199050653696=_
 have h2:Ieee.double.read 4845873199050653696=.number false (2^52) 1:=by decide +kernel
 rw[w0N _ _ _ _ _ _ _ _ (k0C 1022 r (by omega) (by omega) hr) h2]
 rw[f0h _ _ _ (2^52+r) (((1075:Nat):Int) - 1075) (n0a _ r (by omega) (by omega) hr) (.inl ⟨by omega,by rw[show (((1075:Nat):Int) - 1075 - (((1022:Nat):Int) - 1075+1)).toNat=52 by decide]⟩),i0a _ r (by omega) hr]
 rfl
theorem f1a (r:Nat) (hr:r < 2^52):floatToIntVal .f64 (1075*2^52+r) .u64=some ((2^52+r:Nat):Int):=by
 have h1:FloatKind.f64.decode (1075*2^52+r)=.number false (2^52+r) 0:=(k0C 1075 r (by omega) (by omega) hr).trans (by rfl)
 have h2:(FloatKind.f64.decode (1075*2^52+r)).toInt .zero=some ((2^52+r:Nat):Int):=by
  rw[h1]
  show some (Ieee.signed false (Ieee.Toward.zero.cut false ((2^52+r) <<< 0) 0) 0)=_
  have hc:Ieee.Toward.zero.cut false ((2^52+r) <<< 0) 0=2^52+r:=by
   unfold Ieee.Toward.cut
   simp
  rw[hc]
  unfold Ieee.signed
  simp
 unfold floatToIntVal
 rw[h2]
 have a1:IntKind.u64.min=0:=rfl
 have a2:IntKind.u64.max=18446744073709551615:=rfl
 simp only
 rw[if_pos (by rw[a1,a2];omega)]
theorem d1O (m k r:Nat) (hm:0 < m) (hk:k≤52) (hr:r < 2^52) (e:m*2^k=2^52+r):floatOfInt .f64 (m:Int)=(1075 - k)*2^52+r:=by
 have h:floatOfInt .f64 (m:Int)=Ieee.double.nearest false m 0:=by
  show Ieee.double.nearest (decide ((m:Int) < 0)) (m:Int).natAbs 0=_
  rw[decide_eq_false (by omega)];rfl
 rw[h,f0h false m 0 (2^52+r) (((1075 - k:Nat):Int) - 1075) (n0a _ r (by omega) (by omega) hr) ?_,i0a _ r (by omega) hr]
 ·rfl
 ·by_cases hk0:k=0
  ·subst hk0
   rw[Nat.pow_zero,Nat.mul_one] at e
   exact .inl ⟨by omega,by rw[e,show (((1075 - 0:Nat):Int) - 1075 - 0).toNat=0 by decide,Nat.pow_zero,Nat.mul_one]⟩
  ·exact .inr ⟨by omega,by rw[←e,show ((0:Int) - (((1075 - k:Nat):Int) - 1075)).toNat=k by omega]⟩
theorem c1z:floatOfInt .f64 0=0:=by decide +kernel
theorem o0H (E r:Nat) (h1:1≤E) (h2:E≤2046) (hr:r < 2^52):floatBits .mul .f64 4607182418800017408 (E*2^52+r)=some (E*2^52+r):=by
 have hm:=n0b E r (by omega) hr
 have h:=m0T false 4607182418800017408 (E*2^52+r) s0d (by omega) (by rw[hm];exact r0T E r h1 h2 hr)
 rw[hm,r0V E r (by omega) hr] at h
 exact h
def lowC (E r:Nat):Nat:=Ieee.double.nearest false (2^52*(2^52+r)) (-105+((E:Int) - 1075))
theorem c1r (E r:Nat) (h1:1≤E) (h2:E≤2046) (hr:r < 2^52):floatBits .mul .f64 4368491638549381120 (E*2^52+r)=some (lowC E r):=by
 show Ieee.double.mul 4368491638549381120 (E*2^52+r)=_
 have hx:Ieee.double.read 4368491638549381120=.number false (2^52) (-105):=by decide +kernel
 rw[w0N _ _ _ _ _ _ _ _ hx (k0C E r h1 h2 hr)];rfl
theorem d1I (E r:Nat):lowC E r < 2^64:=Ieee.Format.nearest_lt Ieee.double false _ _
def ldC (k r:Nat) (p:Int):Nat :=
 if p+52 - k < -1075 then 0
 else if 1023 < p+52 - k then 2047*2^52
 else if p+52 - k < -1022 then lowC (p+52 - k+1076).toNat r
 else (p+52 - k+1023).toNat*2^52+r
theorem f1l (k r:Nat) (p:Int) (hr:r < 2^52):ldC k r p < 2^64:=by
 unfold ldC
 split
 ·omega
 ·split
  ·omega
  ·split
   ·exact d1I _ _
   ·omega
theorem z0O (m k r a:Nat) (p:Int) (hk:k≤52) (hr:r < 2^52) (e:m*2^k=2^52+r) (hf:FinC a) (ho:oddC (sigC a)=m) (hp:powC a+a0Z (sigC a)=p):ldC k r p=a:=by
 obtain⟨g1,g2⟩:=l0J a hf
 obtain⟨o1,o2⟩:=d0V (sigC a) (by have:=h0G a hf;omega)
 rw[ho] at o1 o2
 generalize ht:a0Z (sigC a)=t at *
 unfold ldC
 rcases g1 with ⟨h1,h2,h3⟩ | ⟨h1,h2,h3,h4⟩
 ·have hkt:t < k:=by
   by_cases hle:t < k
   ·exact hle
   ·exfalso
    have e2:m*2^t=m*2^k*2^(t - k):=by rw[Nat.mul_assoc,←Nat.pow_add,show k+(t - k)=t by omega]
    have:m*2^k≤m*2^k*2^(t - k):=Nat.le_mul_of_pos_right _ (Nat.pow_pos (by omega))
    omega
  rw[if_neg (by omega),if_neg (by omega),if_pos (by omega)]
  unfold lowC
  rw[f0h false _ _ (sigC a) (powC a) (.inl ⟨h1,h2,h3⟩) (.inl ⟨by omega,?_⟩),g2]
  ·rfl
  ·rw[h3,show ((-1074:Int) - (-105+(((p+52 - k+1076).toNat:Nat) - 1075))).toNat=52+(k - t) by omega,←e,o2,Nat.mul_comm,Nat.mul_assoc,←Nat.pow_add,Nat.mul_assoc,←Nat.pow_add,show k+52=t+(52+(k - t)) by omega]
 ·rw[o2] at h1 h2
  obtain rfl:=x0T m k t (by omega) (by omega) h1 h2
  rw[if_neg (by omega),if_neg (by omega),if_neg (by omega)]
  have hs:sigC a=2^52+r:=by rw[o2,e]
  rw[←g2,hs]
  have hq:=i0a (p+52 - k+1023).toNat r (by omega) hr
  rw[←hq]
  congr 1
  omega
structure EnvC (w:World):Prop where
 pow:Lib.TabIs prog w "internal/strconv.uint64pow10" .u64 Lib.pow10Tab
 tz:TabAt 7 Lib.deBruijn64tab w
structure EnvD (w:World):Prop extends EnvC w where
 most:∃m,w.cell? ⟨3,0,none⟩=some (.int .i64 m)
 synt:∃v,w.cell? ⟨4,0,none⟩=some v∧(v=.nilIface∨∃t p,v=.iface t p)
 rang:∃v,w.cell? ⟨5,0,none⟩=some v∧(v=.nilIface∨∃t p,v=.iface t p)
theorem EnvC.next {w w':World} (h:EnvC w) (hb:Below w.heap.size w w'):EnvC w' :=
 ⟨Joins.tab_stays gPow h.pow hb (f1F _),fun j hj=>d0d (h.tz j hj) (f1F _) hb⟩
theorem EnvD.next {w w':World} (h:EnvD w) (hb:Below w.heap.size w w'):EnvD w':=by
 obtain⟨hC,⟨m,hm⟩,⟨v,hv,h1⟩,⟨u,hu,h2⟩⟩:=h
 exact⟨hC.next hb,⟨m,d0d hm (f1F _) hb⟩,⟨v,d0d hv (f1F _) hb,h1⟩,⟨u,d0d hu (f1F _) hb,h2⟩⟩
theorem s0r (fn s:ByteArray) (b n:Int) (hs:s.size≤281474976710656) (w:World) (hE:EnvD w) (k:Int) (hk:k=1∨k=2) :
  Calls prog 139 #[.string fn,.string s,.int .i64 b,.int .i64 n,.iface 225 (.int .i64 k)] w (p0O w):=by
 rcases hk with rfl | rfl
 ·obtain⟨v,h1,h2⟩:=hE.rang
  refine (Tryz.strconv_toError_range fn s b n v w hs h1 h2).mono ?_
  rintro e w' ⟨N,rfl,-,-,hb⟩
  exact⟨_,rfl,hb⟩
 ·obtain⟨v,h1,h2⟩:=hE.synt
  refine (Tryz.strconv_toError_syntax fn s b n v w hs h1 h2).mono ?_
  rintro e w' ⟨N,rfl,-,-,hb⟩
  exact⟨_,rfl,hb⟩
theorem b1c:errV 1=.iface 225 (.int .i64 1):=rfl
theorem b1d:errV 2=.iface 225 (.int .i64 2):=rfl
theorem z0m (f x:Nat) (h0:0 < x) (h:x < 2^f):Lib.ctzFrom f x=a0Z x:=by
 induction f generalizing x with
 | zero=>rw[Nat.pow_zero] at h;omega
 | succ f ih =>
  unfold Lib.ctzFrom
  split
  ·rename_i h1;rw[g0L x h1]
  ·rename_i h1
   rw[Nat.pow_succ] at h
   rw[f0L x (by omega) (by omega),ih (x/2) (by omega) (by omega),Nat.add_comm]
theorem f1b (x:Nat) (h0:0 < x) (h:x < 2^64) (w:World) (hT:TabAt 7 Lib.deBruijn64tab w):Calls prog 212 #[.int .u64 x] w fun e w'=>e=.returned (.int .i64 (a0Z x:Int))∧w=w':=by
 obtain⟨hlow,hk⟩:=Lib.lowest_bit 64 x (by omega) h
 obtain⟨hi,htab⟩:=Lib.deBruijn64_at _ hk
 have hcell:=hT _ hi
 rw[htab] at hcell
 have key:=tz64_key x _ h (by omega) hlow
 have e:Lib.ctz 64 x=a0Z x:=by unfold Lib.ctz;rw[if_neg (by omega),z0m 64 x h0 h]
 rw[e] at hcell key hk hi
 have hx0:((x:Int)==0)=false:=by rw[beq_eq_false_iff_ne];omega
 obtain⟨idx,hidx⟩:∃idx,idx=2^a0Z x*285870213051353865%18446744073709551616/288230376151711744:=⟨_,rfl⟩
 rw[←hidx] at hcell key hi
 generalize a0Z x=k at *
 clear hlow htab e hT hidx
 go_enter func212,ntmps212
 go_wp2_with (simp only[key])
 go_ret
 exact⟨rfl,rfl⟩
theorem z0K (n:Int):Lib.itoa n=intL n:=by
 unfold Lib.itoa intL
 by_cases h:n < 0
 ·rw[if_pos h,if_pos h,d0Q]
 ·rw[if_neg h,if_neg h,d0Q,show n.toNat=n.natAbs by omega]
theorem z0J (n:Int) (h0:-9223372036854775808≤n) (h1:n≤9223372036854775807) (w:World) (hE:EnvC w) :
  Calls prog 150 #[.int .i64 n] w fun e w'=>e=.returned (.string (bstr (intL n)))∧Below w.heap.size w w':=by
 refine (Tryz.strconv_Itoa n h0 h1 w hE.pow).mono ?_
 rintro e w' ⟨rfl,k,os,rfl⟩
 exact⟨by rw[z0K n];rfl,Lib.below_grow _ _ (f1F _) k os⟩
theorem a1r (mx:Nat) (l:List UInt8):(pmA mx l).1≤mx∧((pmA mx l).2=0∨(pmA mx l).2=1∨(pmA mx l).2=2):=by
 obtain⟨h1,h2⟩:=i0c mx l
 exact⟨h1,by rcases h2 with h | ⟨h,-⟩ | h<;>simp[h]⟩
theorem a1u (l:List UInt8) (hl:l.length≤100000) (w:World) (hE:EnvD w) :
  Calls prog 100 #[.string (bstr l),.int .i64 10,.int .i64 53] w (u0U (pmA 9007199254740991 l).1 w):=by
 have hi:=w0v l hl w
 obtain⟨-,hc⟩:=a1r 9007199254740991 l
 have hsz:(bstr l).size≤281474976710656:=by rw[a0c];omega
 have hts:=f1D (fun fn w' (h:Below w.heap.size w w') k hk=>s0r fn (bstr l) 10 53 hsz w' (hE.next h) k hk)
 generalize (pmA 9007199254740991 l).1=n at *
 generalize (pmA 9007199254740991 l).2=c at *
 clear hE hl hsz
 rcases hc with rfl | rfl | rfl
 ·rw[show errV 0=.nilIface from rfl] at hi
  have hi:=f1D hi
  go_enter func100,ntmps100
  go_wp2_with (go_at_call 138;refine hi.out.mono ?_;rintro e w' ⟨rfl,hb1⟩)
  go_ret2
  exact⟨_,rfl,hb1⟩
 ·rw[b1c] at hi
  have hi:=f1D hi
  go_enter func100,ntmps100
  go_wp2_with (first
   | (go_at_call 138;refine hi.out.mono ?_;rintro e w' ⟨rfl,hb1⟩)
   | (go_at_call 139;refine (hts.out _ _ hb1 1 (.inl rfl)).mono ?_;rintro e w2 ⟨v,rfl,hb2⟩;have hb2:=hb1.trans (hb2.mono hb1.size)))
  go_ret2
  exact⟨_,rfl,hb2⟩
 ·rw[b1d] at hi
  have hi:=f1D hi
  go_enter func100,ntmps100
  go_wp2_with (first
   | (go_at_call 138;refine hi.out.mono ?_;rintro e w' ⟨rfl,hb1⟩)
   | (go_at_call 139;refine (hts.out _ _ hb1 2 (.inr rfl)).mono ?_;rintro e w2 ⟨v,rfl,hb2⟩;have hb2:=hb1.trans (hb2.mono hb1.size)))
  go_ret2
  exact⟨_,rfl,hb2⟩
def piC (neg:Bool) (x:Nat×Nat):Int×Nat :=
 if x.2=2 then (0,2) else if neg then (if 2048 < x.1 then (-2048,1) else (-(x.1:Int),0)) else if 2048≤x.1 then (2047,1) else ((x.1:Int),0)
def piA (l:List UInt8):Int×Nat :=
 match l with
 | []=>(0,2)
 | c :: r=>if c=43 then piC false (pmA 4095 r) else if c=45 then piC true (pmA 4095 r) else piC false (pmA 4095 (c :: r))
theorem a1p (g:Bool) (x:Nat×Nat):-2048≤(piC g x).1∧(piC g x).1≤2047∧((piC g x).2=0∨(piC g x).2=1∨(piC g x).2=2):=by
 unfold piC
 (repeat' split)<;>refine⟨?_,?_,?_⟩<;>simp<;>omega
theorem s0a (l:List UInt8):-2048≤(piA l).1∧(piA l).1≤2047∧((piA l).2=0∨(piA l).2=1∨(piA l).2=2):=by
 unfold piA
 split
 ·exact⟨by decide,by decide,.inr (.inr rfl)⟩
 ·(repeat' split)<;>exact a1p _ _
theorem q0t (n:Nat):∀c∈numL 10 n,48≤c.toNat:=by
 have hd:∀i:Nat,i < 10→48≤(hexD i).toNat:=by
  have h:∀i:Fin 10,48≤(hexD i.1).toNat:=by decide
  intro i hi;exact h ⟨i,hi⟩
 induction n using Nat.strongRecOn with
 | _ n ih =>
  by_cases h:n < 10
  ·rw[a0S 10 n h]
   intro c hc
   rw[List.mem_singleton.1 hc]
   exact hd n h
  ·rw[b0p 10 n (by omega) (by omega)]
   intro c hc
   rcases List.mem_append.1 hc with h1 | h1
   ·exact ih (n/10) (Nat.div_lt_self (by omega) (by omega)) c h1
   ·rw[List.mem_singleton.1 h1]
    exact hd _ (Nat.mod_lt _ (by omega))
theorem d1S (p:Int) (h1:-2048≤p) (h2:p≤2047):piA (intL p)=(p,0):=by
 have hn:=b1m 4095 p.natAbs (by omega)
 unfold intL
 by_cases h:p < 0
 ·rw[if_pos h]
  show piC true (pmA 4095 (numL 10 p.natAbs))=_
  rw[hn]
  unfold piC
  simp only[if_neg (show ¬(0:Nat)=2 by omega),if_true]
  rw[if_neg (by omega)]
  congr 1;omega
 ·rw[if_neg h]
  obtain⟨c,r,e,hc⟩:=h0a p.natAbs
  have hc2:c≠43:=by
   intro h2
   have:=q0t p.natAbs c (by rw[e];exact List.mem_cons_self ..)
   rw[h2] at this
   exact absurd this (by decide)
  rw[e]
  show (if c=43 then _ else if c=45 then _ else piC false (pmA 4095 (c :: r)))=_
  rw[if_neg hc2,if_neg hc,←e,hn]
  unfold piC
  simp only[if_neg (show ¬(0:Nat)=2 by omega),Bool.false_eq_true,if_false]
  rw[if_neg (by omega)]
  congr 1;omega
theorem w0S (w:World):(binOp .neq 153 (.iface 225 (.int .i64 2)) (.iface 225 (.int .i64 1))).run prog w=.ok (.bool true) w:=Lib.run_neq_iface_int w 2 1 underlying153 (by kernel_rfl) underlying225
theorem w0R (w:World):(binOp .neq 153 (.iface 225 (.int .i64 1)) (.iface 225 (.int .i64 1))).run prog w=.ok (.bool false) w:=Lib.run_neq_iface_int w 1 1 underlying153 (by kernel_rfl) underlying225
theorem c1g (l:List UInt8) (hl:l.length≤100000) (w:World) :
  Calls prog 204 #[.string (bstr l),.int .i64 10,.int .i64 12] w fun e w'=>e=.returned (.tuple #[.int .i64 (piA l).1,errV (piA l).2])∧Below w.heap.size w w':=by
 cases l with
 | nil =>
  have hne:(bstr []).toList.isEmpty=true:=by rw[a0p];rfl
  go_enter func204,ntmps204
  go_wp2
  go_ret2
  exact⟨rfl,Below.refl _ _⟩
 | cons c r =>
  have hne:(bstr (c :: r)).toList.isEmpty=false:=by rw[a0p];rfl
  have hix:∀w',(Instr.index 9 (.string (bstr (c :: r))) (.int .i64 0)).run prog w'=.ok (.int .u8 (c.toNat:Int)) w':=fun w'=>a0V (c :: r) 0 (by simp) w'
  have hz:=a0c (c :: r)
  have hex:(bstr (c :: r)).extract 1 (r.length+1)=bstr r:=by rw[a0G,List.drop_succ_cons,List.drop_zero,List.take_of_length_le (by omega)]
  rw[List.length_cons] at hz hl
  have hlr:(0:Int)≤(r.length:Int):=by omega
  obtain⟨V,hV⟩:∃V,V=piA (c :: r):=⟨_,rfl⟩
  rw[←hV]
  have HV:=f1D (hV.trans (show piA (c :: r)=if c=43 then piC false (pmA 4095 r) else if c=45 then piC true (pmA 4095 r) else piC false (pmA 4095 (c :: r)) from rfl))
  clear hV
  have e43:((c.toNat:Int)==43)=decide (c=43):=by
   rw[Bool.eq_iff_iff,beq_iff_eq,decide_eq_true_iff,show (43:Int)=((43:UInt8).toNat:Int) from rfl,Int.ofNat_inj,UInt8.toNat_inj]
  have e45:((c.toNat:Int)==45)=decide (c=45):=by
   rw[Bool.eq_iff_iff,beq_iff_eq,decide_eq_true_iff,show (45:Int)=((45:UInt8).toNat:Int) from rfl,Int.ofNat_inj,UInt8.toNat_inj]
  by_cases h1:c=43
  ·rw[decide_eq_true h1] at e43
   have HV:=f1D (HV.out.trans (if_pos h1))
   clear e45 h1
   have hc:=i0c 4095 (r)
   have hin:=k0m (r) (by omega) w
   generalize pmA 4095 (r)=x at *
   obtain⟨un,cd⟩:=x
   obtain⟨hun,hc⟩:=hc
   have hun:un≤4095:=hun
   have hw:IntKind.i64.wrap (un:Int)=(un:Int):=by rw[IntKind.wrap_i64];omega
   have hw2:IntKind.i64.wrap (-(un:Int))=-(un:Int):=by rw[IntKind.wrap_i64];omega
   rcases hc with rfl | ⟨rfl,hu⟩ | rfl
   ·have hin:Calls prog 138 #[.string (bstr (r)),.int .i64 10,.int .i64 12] w fun e w'=>e=.returned (.tuple #[.int .u64 (un:Int),.nilIface])∧Below w.heap.size w w':=hin
    have hin:=f1D hin
    by_cases hq:2048≤un
    ·have HX:=f1D (HV.out.trans (show piC false (un,0)=(2047,1) by unfold piC;simp only[if_neg (show ¬(0:Nat)=2 by omega),Bool.false_eq_true,if_false];rw[if_pos hq]))
     have hq:(2048:Int)≤(un:Int):=by omega
     clear HV
     go_enter func204,ntmps204
     go_wp2_with (go_at_call 138;refine hin.out.mono ?_;rintro e w' ⟨rfl,hb1⟩)
     go_ret2
     exact⟨by rw[HX.out];rfl,hb1⟩
    ·have HX:=f1D (HV.out.trans (show piC false (un,0)=((un:Int),0) by unfold piC;simp only[if_neg (show ¬(0:Nat)=2 by omega),Bool.false_eq_true,if_false];rw[if_neg hq]))
     have hq:(un:Int) < 2048:=by omega
     clear HV
     go_enter func204,ntmps204
     go_wp2_with (go_at_call 138;refine hin.out.mono ?_;rintro e w' ⟨rfl,hb1⟩)
     go_ret2
     exact⟨by rw[HX.out];rfl,hb1⟩
   ·obtain rfl:un=4095:=hu
    have hin:Calls prog 138 #[.string (bstr (r)),.int .i64 10,.int .i64 12] w fun e w'=>e=.returned (.tuple #[.int .u64 4095,.iface 225 (.int .i64 1)])∧Below w.heap.size w w':=hin
    have hin:=f1D hin
    have hq1:=w0R
    have HX:=f1D (HV.out.trans (show piC false (4095,1)=(2047,1) by rfl))
    clear HV
    go_enter func204,ntmps204
    go_wp2_with (go_at_call 138;refine hin.out.mono ?_;rintro e w' ⟨rfl,hb1⟩)
    go_ret2
    exact⟨by rw[HX.out];rfl,hb1⟩
   ·have hin:Calls prog 138 #[.string (bstr (r)),.int .i64 10,.int .i64 12] w fun e w'=>e=.returned (.tuple #[.int .u64 (un:Int),.iface 225 (.int .i64 2)])∧Below w.heap.size w w':=hin
    have hin:=f1D hin
    have hq2:=w0S
    have HX:=f1D (HV.out.trans (show piC false (un,2)=(0,2) by unfold piC;rw[if_pos rfl]))
    clear HV
    go_enter func204,ntmps204
    go_wp2_with (go_at_call 138;refine hin.out.mono ?_;rintro e w' ⟨rfl,hb1⟩)
    go_ret2
    exact⟨by rw[HX.out];rfl,hb1⟩
  ·rw[decide_eq_false h1] at e43
   by_cases h2:c=45
   ·rw[decide_eq_true h2] at e45
    have HV:=f1D ((HV.out.trans (if_neg h1)).trans (if_pos h2))
    clear h1 h2
    have hc:=i0c 4095 (r)
    have hin:=k0m (r) (by omega) w
    generalize pmA 4095 (r)=x at *
    obtain⟨un,cd⟩:=x
    obtain⟨hun,hc⟩:=hc
    have hun:un≤4095:=hun
    have hw:IntKind.i64.wrap (un:Int)=(un:Int):=by rw[IntKind.wrap_i64];omega
    have hw2:IntKind.i64.wrap (-(un:Int))=-(un:Int):=by rw[IntKind.wrap_i64];omega
    rcases hc with rfl | ⟨rfl,hu⟩ | rfl
    ·have hin:Calls prog 138 #[.string (bstr (r)),.int .i64 10,.int .i64 12] w fun e w'=>e=.returned (.tuple #[.int .u64 (un:Int),.nilIface])∧Below w.heap.size w w':=hin
     have hin:=f1D hin
     by_cases hq:2048 < un
     ·have HX:=f1D (HV.out.trans (show piC true (un,0)=(-2048,1) by unfold piC;simp only[if_neg (show ¬(0:Nat)=2 by omega),if_true];rw[if_pos hq]))
      have hq:(2048:Int) < (un:Int):=by omega
      clear HV
      go_enter func204,ntmps204
      go_wp2_with (go_at_call 138;refine hin.out.mono ?_;rintro e w' ⟨rfl,hb1⟩)
      go_ret2
      exact⟨by rw[HX.out];rfl,hb1⟩
     ·have HX:=f1D (HV.out.trans (show piC true (un,0)=(-(un:Int),0) by unfold piC;simp only[if_neg (show ¬(0:Nat)=2 by omega),if_true];rw[if_neg hq]))
      have hq:(un:Int)≤2048:=by omega
      clear HV
      go_enter func204,ntmps204
      go_wp2_with (go_at_call 138;refine hin.out.mono ?_;rintro e w' ⟨rfl,hb1⟩)
      go_ret2
      exact⟨by rw[HX.out];rfl,hb1⟩
    ·obtain rfl:un=4095:=hu
     have hin:Calls prog 138 #[.string (bstr (r)),.int .i64 10,.int .i64 12] w fun e w'=>e=.returned (.tuple #[.int .u64 4095,.iface 225 (.int .i64 1)])∧Below w.heap.size w w':=hin
     have hin:=f1D hin
     have hq1:=w0R
     have HX:=f1D (HV.out.trans (show piC true (4095,1)=(-2048,1) by rfl))
     clear HV
     go_enter func204,ntmps204
     go_wp2_with (go_at_call 138;refine hin.out.mono ?_;rintro e w' ⟨rfl,hb1⟩)
     go_ret2
     exact⟨by rw[HX.out];rfl,hb1⟩
    ·have hin:Calls prog 138 #[.string (bstr (r)),.int .i64 10,.int .i64 12] w fun e w'=>e=.returned (.tuple #[.int .u64 (un:Int),.iface 225 (.int .i64 2)])∧Below w.heap.size w w':=hin
     have hin:=f1D hin
     have hq2:=w0S
     have HX:=f1D (HV.out.trans (show piC true (un,2)=(0,2) by unfold piC;rw[if_pos rfl]))
     clear HV
     go_enter func204,ntmps204
     go_wp2_with (go_at_call 138;refine hin.out.mono ?_;rintro e w' ⟨rfl,hb1⟩)
     go_ret2
     exact⟨by rw[HX.out];rfl,hb1⟩
   ·rw[decide_eq_false h2] at e45
    have HV:=f1D ((HV.out.trans (if_neg h1)).trans (if_neg h2))
    have hlc:(c :: r).length≤100000:=by rw[List.length_cons];omega
    generalize c :: r=L at *
    clear h1 h2 hex
    have hc:=i0c 4095 (L)
    have hin:=k0m (L) (by omega) w
    generalize pmA 4095 (L)=x at *
    obtain⟨un,cd⟩:=x
    obtain⟨hun,hc⟩:=hc
    have hun:un≤4095:=hun
    have hw:IntKind.i64.wrap (un:Int)=(un:Int):=by rw[IntKind.wrap_i64];omega
    have hw2:IntKind.i64.wrap (-(un:Int))=-(un:Int):=by rw[IntKind.wrap_i64];omega
    rcases hc with rfl | ⟨rfl,hu⟩ | rfl
    ·have hin:Calls prog 138 #[.string (bstr (L)),.int .i64 10,.int .i64 12] w fun e w'=>e=.returned (.tuple #[.int .u64 (un:Int),.nilIface])∧Below w.heap.size w w':=hin
     have hin:=f1D hin
     by_cases hq:2048≤un
     ·have HX:=f1D (HV.out.trans (show piC false (un,0)=(2047,1) by unfold piC;simp only[if_neg (show ¬(0:Nat)=2 by omega),Bool.false_eq_true,if_false];rw[if_pos hq]))
      have hq:(2048:Int)≤(un:Int):=by omega
      clear HV
      go_enter func204,ntmps204
      go_wp2_with (go_at_call 138;refine hin.out.mono ?_;rintro e w' ⟨rfl,hb1⟩)
      go_ret2
      exact⟨by rw[HX.out];rfl,hb1⟩
     ·have HX:=f1D (HV.out.trans (show piC false (un,0)=((un:Int),0) by unfold piC;simp only[if_neg (show ¬(0:Nat)=2 by omega),Bool.false_eq_true,if_false];rw[if_neg hq]))
      have hq:(un:Int) < 2048:=by omega
      clear HV
      go_enter func204,ntmps204
      go_wp2_with (go_at_call 138;refine hin.out.mono ?_;rintro e w' ⟨rfl,hb1⟩)
      go_ret2
      exact⟨by rw[HX.out];rfl,hb1⟩
    ·obtain rfl:un=4095:=hu
     have hin:Calls prog 138 #[.string (bstr (L)),.int .i64 10,.int .i64 12] w fun e w'=>e=.returned (.tuple #[.int .u64 4095,.iface 225 (.int .i64 1)])∧Below w.heap.size w w':=hin
     have hin:=f1D hin
     have hq1:=w0R
     have HX:=f1D (HV.out.trans (show piC false (4095,1)=(2047,1) by rfl))
     clear HV
     go_enter func204,ntmps204
     go_wp2_with (go_at_call 138;refine hin.out.mono ?_;rintro e w' ⟨rfl,hb1⟩)
     go_ret2
     exact⟨by rw[HX.out];rfl,hb1⟩
    ·have hin:Calls prog 138 #[.string (bstr (L)),.int .i64 10,.int .i64 12] w fun e w'=>e=.returned (.tuple #[.int .u64 (un:Int),.iface 225 (.int .i64 2)])∧Below w.heap.size w w':=hin
     have hin:=f1D hin
     have hq2:=w0S
     have HX:=f1D (HV.out.trans (show piC false (un,2)=(0,2) by unfold piC;rw[if_pos rfl]))
     clear HV
     go_enter func204,ntmps204
     go_wp2_with (go_at_call 138;refine hin.out.mono ?_;rintro e w' ⟨rfl,hb1⟩)
     go_ret2
     exact⟨by rw[HX.out];rfl,hb1⟩
theorem a1o (l:List UInt8) (hl:l.length≤100000) (w:World) (hE:EnvD w) :
  Calls prog 207 #[.string (bstr l),.int .i64 10,.int .i64 12] w fun e w'=>∃v,e=.returned (.tuple #[.int .i64 (piA l).1,v])∧Below w.heap.size w w':=by
 have hi:=c1g l hl w
 obtain⟨-,hc⟩:=(s0a l).2
 have hsz:(bstr l).size≤281474976710656:=by rw[a0c];omega
 have hts:=f1D (fun fn w' (h:Below w.heap.size w w') k hk=>s0r fn (bstr l) 10 12 hsz w' (hE.next h) k hk)
 generalize (piA l).1=n at *
 generalize (piA l).2=c at *
 clear hE hl hsz
 rcases hc with rfl | rfl | rfl
 ·rw[show errV 0=.nilIface from rfl] at hi
  have hi:=f1D hi
  go_enter func207,ntmps207
  go_wp2_with (go_at_call 204;refine hi.out.mono ?_;rintro e w' ⟨rfl,hb1⟩)
  go_ret2
  exact⟨_,rfl,hb1⟩
 ·rw[b1c] at hi
  have hi:=f1D hi
  go_enter func207,ntmps207
  go_wp2_with (first
   | (go_at_call 204;refine hi.out.mono ?_;rintro e w' ⟨rfl,hb1⟩)
   | (go_at_call 139;refine (hts.out _ _ hb1 1 (.inl rfl)).mono ?_;rintro e w2 ⟨v,rfl,hb2⟩;have hb2:=hb1.trans (hb2.mono hb1.size)))
  go_ret2
  exact⟨_,rfl,hb2⟩
 ·rw[b1d] at hi
  have hi:=f1D hi
  go_enter func207,ntmps207
  go_wp2_with (first
   | (go_at_call 204;refine hi.out.mono ?_;rintro e w' ⟨rfl,hb1⟩)
   | (go_at_call 139;refine (hts.out _ _ hb1 2 (.inr rfl)).mono ?_;rintro e w2 ⟨v,rfl,hb2⟩;have hb2:=hb1.trans (hb2.mono hb1.size)))
  go_ret2
  exact⟨_,rfl,hb2⟩
theorem g0Y (b:Nat) (hb:b < 2^64) (w:World):Calls prog 153 #[.float .f64 b] w fun e w'=>e=.returned (.bool (nanC b))∧w=w':=by
 cases hn:nanC b with
 | true =>
  have o:=o0O b hb hn
  go_enter func153,ntmps153
  go_wp2
  go_ret
  exact⟨rfl,rfl⟩
 | false =>
  have o:=r0P b hb hn
  go_enter func153,ntmps153
  go_wp2
  go_ret
  exact⟨rfl,rfl⟩
theorem j0v (b:Nat) (hb:b < 2^64) (w:World):Calls prog 211 #[.float .f64 b] w fun e w'=>e=.returned (.float .f64 (magC b))∧w=w':=by
 have h1:=r0p b hb
 generalize magC b=m at *
 go_enter func211,ntmps211
 go_wp2
 go_ret
 exact⟨rfl,rfl⟩
theorem w0C (b:Nat):magC b < 2^63:=by unfold magC;omega
theorem g0X (b:Nat) (hb:b < 2^64) (w:World):Calls prog 154 #[.float .f64 b,.int .i64 0] w fun e w'=>e=.returned (.bool (decide (magC b=2047*2^52)))∧w=w':=by
 have hm:=w0C b
 have ha:=f1D (j0v b hb w)
 obtain⟨V,hV⟩:∃V,V=decide (magC b=2047*2^52):=⟨_,rfl⟩
 rw[←hV]
 have HV:=f1D hV
 clear hV
 generalize magC b=m at *
 rcases Nat.lt_trichotomy m (2047*2^52) with h | h | h
 ·have HW:=f1D (HV.out.trans (decide_eq_false (by omega)))
  have o:FloatKind.f64.format.order m 9218868437227405311=some .lt∨FloatKind.f64.format.order m 9218868437227405311=some .eq:=by
   by_cases h2:m=9218868437227405311
   ·subst h2;exact .inr (by decide +kernel)
   ·exact .inl (r0Q m _ (by omega) (by omega) (by omega))
  clear HV hm h
  rcases o with o | o
  all_goals
   go_enter func154,ntmps154
   go_wp2_with (go_at_call 211;refine ha.out.mono ?_;rintro e w' ⟨rfl,rfl⟩)
   go_ret
   exact⟨by rw[HW.out];rfl,rfl⟩
 ·have HW:=f1D (HV.out.trans (decide_eq_true h))
  have o:FloatKind.f64.format.order m 9218868437227405311=some .gt:=j0B m _ (by omega) (by omega) (by omega)
  clear HV hm h
  go_enter func154,ntmps154
  go_wp2_with (go_at_call 211;refine ha.out.mono ?_;rintro e w' ⟨rfl,rfl⟩)
  go_ret
  exact⟨by rw[HW.out];rfl,rfl⟩
 ·have HW:=f1D (HV.out.trans (decide_eq_false (by omega)))
  have hn:nanC m=true:=by unfold nanC magC;rw[decide_eq_true_iff];omega
  have o:FloatKind.f64.format.order m 9218868437227405311=none:=l0p m _ (by omega) (by omega) hn
  clear HV hm h hn
  go_enter func154,ntmps154
  go_wp2_with (go_at_call 211;refine ha.out.mono ?_;rintro e w' ⟨rfl,rfl⟩)
  go_ret
  exact⟨by rw[HW.out];rfl,rfl⟩
theorem w0M (b:Nat) (hb:b < 2^64) (w:World):Calls prog 209 #[.float .f64 b] w fun e w'=>e=.returned (.bool (negC b))∧w=w':=by
 cases hn:negC b with
 | true =>
  have h:=of_decide_eq_true hn
  have h1:IntKind.i64.wrap (b:Int)=(b:Int) - 18446744073709551616:=by rw[IntKind.wrap_i64];omega
  have h2:decide ((b:Int) - 18446744073709551616 < 0)=true:=decide_eq_true (by omega)
  clear hn h
  go_enter func209,ntmps209
  go_wp2
  go_ret
  exact⟨rfl,rfl⟩
 | false =>
  have h:=of_decide_eq_false hn
  have h1:IntKind.i64.wrap (b:Int)=(b:Int):=by rw[IntKind.wrap_i64];omega
  clear hn h
  go_enter func209,ntmps209
  go_wp2
  go_ret
  exact⟨rfl,rfl⟩
theorem w0G (b:Nat) (hb:b < 2^64) (w:World):Calls prog 80 #[.float .f64 b,.float .f64 13830554455654793216] w fun e w'=>e=.returned (.float .f64 (2^63+magC b))∧w=w':=by
 have h1:=r0p b hb
 have hm:=w0C b
 generalize magC b=m at *
 have h2:bits .and .u64 13830554455654793216 9223372036854775808=9223372036854775808:=by decide +kernel
 have h3:bits .or .u64 (m:Int) 9223372036854775808=((2^63+m:Nat):Int):=by
  refine (u64_or_nat m 9223372036854775808 (by omega) (by omega)).trans ?_
  rw[Nat.or_comm,show 9223372036854775808=2^63*1 from rfl,←Nat.two_pow_add_eq_or_of_lt hm]
 generalize 2^63+m=M at *
 clear hm
 go_enter func80,ntmps80
 go_wp2
 go_ret
 exact⟨rfl,rfl⟩
theorem t0v (b:Nat) (hb:b < 2^63) (w:World):Calls prog 80 #[.float .f64 0,.float .f64 b] w fun e w'=>e=.returned (.float .f64 0)∧w=w':=by
 have h1:bits .andNot .u64 0 9223372036854775808=0:=by decide +kernel
 have h2:bits .and .u64 (b:Int) 9223372036854775808=0:=by
  rw[z0g b (by omega),show negC b=false by unfold negC;rw[decide_eq_false_iff_not];omega];rfl
 have h3:bits .or .u64 0 0=0:=by decide +kernel
 go_enter func80,ntmps80
 go_wp2
 go_ret
 exact⟨rfl,rfl⟩
theorem k0w (a:Nat) (h1:2^52≤a) (h2:a < 2047*2^52) (w:World):Calls prog 257 #[.float .f64 a] w fun e w'=>e=.returned (.tuple #[.float .f64 a,.int .i64 0])∧w=w':=by
 have ha:=j0v a (by omega) w
 rw[show magC a=a by unfold magC;omega] at ha
 have ha:=f1D ha
 have o:FloatKind.f64.format.order a 4503599627370496=some .gt∨FloatKind.f64.format.order a 4503599627370496=some .eq:=by
  by_cases h3:a=4503599627370496
  ·subst h3;exact .inr (by decide +kernel)
  ·exact .inl (j0B a _ (by omega) (by omega) (by omega))
 clear h1 h2
 rcases o with o | o
 all_goals
  go_enter func257,ntmps257
  go_wp2_with (go_at_call 211;refine ha.out.mono ?_;rintro e w' ⟨rfl,rfl⟩)
  go_ret2
  exact⟨rfl,rfl⟩
theorem q0q (a k r:Nat) (h:a < 2^52) (hk:k≤52) (hr:r < 2^52) (e:a*2^k=2^52+r) (w:World):Calls prog 257 #[.float .f64 a] w fun e w'=>e=.returned (.tuple #[.float .f64 ((53 - k)*2^52+r),.int .i64 (-52)])∧w=w':=by
 have ha:=j0v a (by omega) w
 rw[show magC a=a by unfold magC;omega] at ha
 have ha:=f1D ha
 have o:FloatKind.f64.format.order a 4503599627370496=some .lt:=r0Q a _ (by omega) (by omega) (by omega)
 have hmul:∀w',(binOp .mul 70 (.float .f64 a) (.float .f64 4841369599423283200)).run prog w'=.ok (.float .f64 ((53 - k)*2^52+r)) w':=fun w'=>run_float_arith w' .mul _ .f64 _ _ _ (w0O a k r h hk hr e)
 clear h hk hr e
 generalize (53 - k)*2^52+r=M at *
 go_enter func257,ntmps257
 go_wp2_with (go_at_call 211;refine ha.out.mono ?_;rintro e w' ⟨rfl,rfl⟩)
 go_ret2
 exact⟨rfl,rfl⟩
end Go.Proofs.YtcbilopdeiapjaaGreatDoor
