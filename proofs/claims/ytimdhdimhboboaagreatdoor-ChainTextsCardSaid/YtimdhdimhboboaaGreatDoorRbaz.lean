import Derived.Test.YtimdhdimhboboaaGreatDoorRbay
import Derived.Test.YtimdhdimhboboaaGreatDoorRbaq
import Derived.BigRegion
import Derived.Lib.IndexMore
import Derived.Test.YtimdhdimhboboaaGreatDoorRbao
import Derived.Test.YtimdhdimhboboaaGreatDoorRbat
import Derived.Test.YtimdhdimhboboaaGreatDoorRbab
import Derived.Laws.Runes
import Derived.Laws.RangeAny
import Derived.Lib.ParseIntBCases
import Derived.Shelf.GgClosure.StringsIndexFunc
import Derived.Test.YtimdhdimhboboaaGreatDoorRbar
import Derived.Test.YtimdhdimhboboaaGreatDoorRbau
import Derived.Lib.Join
namespace Go.Proofs.YtimdhdimhboboaaGreatDoor
set_option maxRecDepth 100000
open Go Go.RowKit
theorem a1f (a:Nat) (h:FinC a):a < 2^63:=by have:=h.2;omega
theorem n0p (a:Nat) (h:FinC a):nanC a=false∧decide (magC a=2047*2^52)=false:=by
 obtain⟨h1,h2⟩:=h
 have hm:magC a=a:=by unfold magC;omega
 unfold nanC
 rw[hm]
 exact⟨decide_eq_false (by omega),decide_eq_false (by omega)⟩
def r0H (a E r:Nat) (x:Int):Prop:=(x=0∧1≤E∧E≤2046∧r < 2^52∧a=E*2^52+r)∨(∃k,x=-52∧k≤52∧E=53 - k∧r < 2^52∧a < 2^52∧a*2^k=2^52+r)
theorem b1t (a:Nat) (h:FinC a):∃E r x,r0H a E r x:=by
 obtain⟨h1,h2⟩:=h
 by_cases hs:a < 2^52
 ·obtain⟨k,r,hk,hr,e⟩:=d1a a h1 (by omega)
  exact⟨53 - k,r,-52,.inr ⟨k,rfl,hk,rfl,hr,hs,e⟩⟩
 ·obtain⟨E,r,e1,e2,hr,e⟩:=b1A a (by omega) h2
  exact⟨E,r,0,.inl ⟨rfl,e1,e2,hr,e⟩⟩
theorem v0X (a E r:Nat) (x:Int) (h:r0H a E r x):1≤E∧E≤2046∧r < 2^52∧(x=0∨x=-52):=by
 rcases h with ⟨rfl,h1,h2,h3,-⟩ | ⟨k,rfl,hk,rfl,hr,-,-⟩
 ·exact⟨h1,h2,h3,.inl rfl⟩
 ·exact⟨by omega,by omega,hr,.inr rfl⟩
theorem s0K (a E r:Nat) (x:Int) (ha:FinC a) (h:r0H a E r x):oddC (2^52+r)=oddC (sigC a)∧(E:Int) - 1022+x - 53+a0V (2^52+r)=powC a+a0V (sigC a):=by
 rcases h with ⟨rfl,h1,h2,h3,rfl⟩ | ⟨k,rfl,hk,rfl,hr,hs,e⟩
 ·rw[r0i E r h1 h3,r0h E r h1 h3]
  exact⟨rfl,by omega⟩
 ·have hsig:sigC a=a:=by unfold sigC;rw[if_neg (by omega)];omega
  have hpow:powC a=-1074:=by unfold powC;rw[if_neg (by omega)]
  obtain⟨o1,o2⟩:=w0c a k (by have:=ha.1;omega)
  rw[←e,o1,o2,hsig,hpow]
  exact⟨rfl,by omega⟩
theorem v0P (a E r:Nat) (x:Int) (ha:FinC a) (h:r0H a E r x) (w:World):Calls Tryz.prog 244 #[.float .f64 a] w fun e w'=>e=.returned (.tuple #[.float .f64 (E*2^52+r),.int .i64 x])∧w=w':=by
 rcases h with ⟨rfl,h1,h2,h3,rfl⟩ | ⟨k,rfl,hk,rfl,hr,hs,e⟩
 ·exact j0Y _ (by omega) (by omega) w
 ·exact p0x a k r hs hk hr e w
set_option maxHeartbeats 2000000 in
theorem v0L (a E r:Nat) (x:Int) (ha:FinC a) (h:r0H a E r x) (w:World):Calls Tryz.prog 234 #[.float .f64 a] w fun e w'=>e=.returned (.tuple #[.float .f64 (1022*2^52+r),.int .i64 ((E:Int) - 1022+x)])∧w=w':=by
 obtain⟨h1,h2,hr,hx⟩:=v0X a E r x h
 obtain⟨p1,p2⟩:=n0p a ha
 have lt:=a1f a ha
 have hinf:=g0H a (by omega) w
 have hnan:=g0I a (by omega) w
 rw[p2] at hinf
 rw[p1] at hnan
 have hn':=v0P a E r x ha h w
 have hinf:=Lib.hid hinf
 have hnan:=Lib.hid hnan
 have o:FloatKind.f64.format.order a 0=some .gt:=j0h a 0 (by have:=ha.2;omega) (by omega) ha.1
 have e1:((E*2^52+r:Nat):Int)/4503599627370496=(E:Int):=by omega
 have e2:=y0d E (by omega)
 have e3:IntKind.i64.wrap (E:Int)=(E:Int):=by rw[IntKind.wrap_i64];omega
 have e4:=n0b (E*2^52+r) (by omega)
 rw[r0f E r hr] at e4
 obtain⟨Y,hY⟩:∃Y,Y=E*2^52+r:=⟨_,rfl⟩
 rw[←hY] at hn' e1 e4
 have hn:=Lib.hid hn'
 have e5:bits .or .u64 (r:Int) 4602678819172646912=((1022*2^52+r:Nat):Int):=l0S r 1022 hr (by omega)
 obtain⟨Z,hZ⟩:∃Z,Z=1022*2^52+r:=⟨_,rfl⟩
 rw[←hZ] at e5 ⊢
 obtain⟨D,hD⟩:∃D:Int,D=(E:Int) - 1022+x:=⟨_,rfl⟩
 rw[←hD]
 have ex:IntKind.i64.wrap ((E:Int) - 1023)=(E:Int) - 1023:=by rw[IntKind.wrap_i64];omega
 have ey:IntKind.i64.wrap ((E:Int) - 1023+1)=(E:Int) - 1023+1:=by rw[IntKind.wrap_i64];omega
 have ez:IntKind.i64.wrap (x+((E:Int) - 1023+1))=D:=by rw[IntKind.wrap_i64];omega
 clear h p1 p2 lt ha h1 h2 hr hx hD hY hZ hn'
 go_enter Tryz.func234,Tryz.ntmps234
 go_wp2_with (first
  | (go_at_call 151;refine hinf.out.mono ?_;rintro e w' ⟨rfl,rfl⟩)
  | (go_at_call 150;refine hnan.out.mono ?_;rintro e w' ⟨rfl,rfl⟩)
  | (go_at_call 244;refine hn.out.mono ?_;rintro e w' ⟨rfl,rfl⟩))
 go_ret2
 exact⟨rfl,rfl⟩
theorem s0C (a E r:Nat) (x:Int) (ha:FinC a) (h:r0H a E r x) (w:World):Calls Tryz.prog 202 #[.float .f64 a] w fun e w'=>e=.returned (.tuple #[.float .f64 (1022*2^52+r),.int .i64 ((E:Int) - 1022+x)])∧w=w':=by
 have hf:=Lib.hid (v0L a E r x ha h w)
 clear h
 go_enter Tryz.func202,Tryz.ntmps202
 go_wp2_with (go_at_call 234;refine hf.out.mono ?_;rintro e w' ⟨rfl,rfl⟩)
 go_ret2
 exact⟨rfl,rfl⟩
theorem r0O (E:Nat) (hE:E < 2048):bits .and .i64 (E:Int) 2047=(E:Int):=by
 show IntKind.i64.wrap ((BitVec.ofInt 64 (E:Int) &&& BitVec.ofInt 64 2047).toNat:Int)=_
 rw[BitVec.ofInt_natCast,BitVec.toNat_and,BitVec.toNat_ofNat,Nat.mod_eq_of_lt (by omega),show (BitVec.ofInt 64 2047).toNat=2^11 - 1 by decide,Nat.and_two_pow_sub_one_eq_mod,Nat.mod_eq_of_lt (by omega),IntKind.wrap_i64]
 omega
set_option maxHeartbeats 2000000 in
theorem v0O (k r:Nat) (p:Int) (hk:k≤52) (hr:r < 2^52) (hp1:-4096≤p) (hp2:p≤4096) (w:World):Calls Tryz.prog 232 #[.float .f64 ((1075 - k)*2^52+r),.int .i64 p] w fun e w'=>e=.returned (.float .f64 (ldC k r p))∧w=w':=by
 obtain⟨E,hE⟩:∃E,E=1075 - k:=⟨_,rfl⟩
 rw[←hE]
 obtain⟨F,hF⟩:∃F,F=E*2^52+r:=⟨_,rfl⟩
 rw[←hF]
 have hfin:FinC F:=hF ▸ r0d E r (by omega) (by omega) hr
 obtain⟨p1,p2⟩:=n0p F hfin
 have lt:=a1f F hfin
 have hinf:=g0H F (by omega) w
 have hnan:=g0I F (by omega) w
 rw[p2] at hinf
 rw[p1] at hnan
 have hn:=Lib.hid (j0Y F (by omega) (by omega) w)
 have hinf:=Lib.hid hinf
 have hnan:=Lib.hid hnan
 have hcop:=Lib.hid (s0B F (by omega) w)
 have hI:=Lib.hid (m0a w)
 have o:FloatKind.f64.format.order F 0=some .gt:=j0h F 0 (by have:=hfin.2;omega) (by omega) hfin.1
 have e1:(F:Int)/4503599627370496=(E:Int):=by omega
 have e2:=r0O E (by omega)
 have e3:IntKind.i64.wrap (E:Int)=(E:Int):=by rw[IntKind.wrap_i64];omega
 have e4:=n0b F (by omega)
 rw[show F%2^52=r by omega] at e4
 obtain⟨q,hq⟩:∃q,q=p+52 - (k:Int):=⟨_,rfl⟩
 have ex:IntKind.i64.wrap ((E:Int) - 1023)=(E:Int) - 1023:=by rw[IntKind.wrap_i64];omega
 have ey:IntKind.i64.wrap (p+((E:Int) - 1023))=q:=by rw[IntKind.wrap_i64];omega
 have ep:IntKind.i64.wrap p=p:=by rw[IntKind.wrap_i64];omega
 obtain⟨V,hV⟩:∃V,V=ldC k r p:=⟨_,rfl⟩
 rw[←hV]
 unfold ldC at hV
 rw[←hq] at hV
 have HV:=Lib.hid hV
 have hqb:-5000≤q∧q≤5000:=by omega
 clear hV p1 p2 lt hfin
 by_cases c1:q < -1075
 ·have HW:=Lib.hid (HV.out.trans (if_pos c1))
  clear HV hF hE hq hk hp1 hp2 hr hqb
  go_enter Tryz.func232,Tryz.ntmps232
  go_wp2_with (first
   | (go_at_call 151;refine hinf.out.mono ?_;rintro e w' ⟨rfl,rfl⟩)
   | (go_at_call 150;refine hnan.out.mono ?_;rintro e w' ⟨rfl,rfl⟩)
   | (go_at_call 79;refine hcop.out.mono ?_;rintro e w' ⟨rfl,rfl⟩)
   | (go_at_call 244;refine hn.out.mono ?_;rintro e w' ⟨rfl,rfl⟩))
  go_ret
  exact⟨by rw[HW.out];rfl,rfl⟩
 ·have HW:=Lib.hid (HV.out.trans (if_neg c1))
  clear HV
  have c1:-1075≤q:=by omega
  by_cases c2:1023 < q
  ·have HX:=Lib.hid (HW.out.trans (if_pos c2))
   clear HW hF hE hq hk hp1 hp2 hr hqb
   go_enter Tryz.func232,Tryz.ntmps232
   go_wp2_with (first
    | (go_at_call 151;refine hinf.out.mono ?_;rintro e w' ⟨rfl,rfl⟩)
    | (go_at_call 150;refine hnan.out.mono ?_;rintro e w' ⟨rfl,rfl⟩)
    | (go_at_call 80;refine hI.out.mono ?_;rintro e w' ⟨rfl,rfl⟩)
    | (go_at_call 244;refine hn.out.mono ?_;rintro e w' ⟨rfl,rfl⟩))
   go_ret
   exact⟨by rw[HX.out];rfl,rfl⟩
  ·have HX:=Lib.hid (HW.out.trans (if_neg c2))
   clear HW
   have c2:q≤1023:=by omega
   by_cases c3:q < -1022
   ·have HY:=Lib.hid (HX.out.trans (if_pos c3))
    obtain⟨G,hG⟩:∃G,G=(q+1076).toNat:=⟨_,rfl⟩
    rw[←hG] at HY
    have f1:IntKind.i64.wrap (q+53)=q+53:=by rw[IntKind.wrap_i64];omega
    have f2:IntKind.i64.wrap (q+53+1023)=(G:Int):=by rw[IntKind.wrap_i64];omega
    have f3:IntKind.u64.wrap (G:Int)=(G:Int):=by rw[IntKind.wrap_u64];omega
    have f4:IntKind.u64.wrap ((G:Int)*4503599627370496)=(((G*2^52:Nat)):Int):=by rw[IntKind.wrap_u64];omega
    have e5:=l0S r G hr (by omega)
    have hml:∀w',(binOp .mul 68 (.float .f64 4368491638549381120) (.float .f64 (G*2^52+r))).run Tryz.prog w'=.ok (.float .f64 (lowC G r)) w':=fun w'=>run_float_arith w' .mul _ .f64 _ _ _ (b1q G r (by omega) (by omega) hr)
    obtain⟨X,hX⟩:∃X,X=G*2^52:=⟨_,rfl⟩
    rw[←hX] at e5 f4
    obtain⟨Y,hY⟩:∃Y,Y=X+r:=⟨_,rfl⟩
    rw[←hX,←hY] at hml
    rw[←hY] at e5
    clear HX hF hE hq hk hp1 hp2 hqb hr hG hX hY
    go_enter Tryz.func232,Tryz.ntmps232
    go_wp2_with (first
     | (go_at_call 151;refine hinf.out.mono ?_;rintro e w' ⟨rfl,rfl⟩)
     | (go_at_call 150;refine hnan.out.mono ?_;rintro e w' ⟨rfl,rfl⟩)
     | (go_at_call 244;refine hn.out.mono ?_;rintro e w' ⟨rfl,rfl⟩))
    go_ret
    exact⟨by rw[HY.out];rfl,rfl⟩
   ·have HY:=Lib.hid (HX.out.trans (if_neg c3))
    obtain⟨G,hG⟩:∃G,G=(q+1023).toNat:=⟨_,rfl⟩
    have HY:=HY.out
    rw[←hG] at HY
    have f2:IntKind.i64.wrap (q+1023)=(G:Int):=by rw[IntKind.wrap_i64];omega
    have f3:IntKind.u64.wrap (G:Int)=(G:Int):=by rw[IntKind.wrap_u64];omega
    have f4:IntKind.u64.wrap ((G:Int)*4503599627370496)=(((G*2^52:Nat)):Int):=by rw[IntKind.wrap_u64];omega
    have e5:=l0S r G hr (by omega)
    have hml:∀w',(binOp .mul 68 (.float .f64 4607182418800017408) (.float .f64 (G*2^52+r))).run Tryz.prog w'=.ok (.float .f64 (G*2^52+r)) w':=fun w'=>run_float_arith w' .mul _ .f64 _ _ _ (n0Y G r (by omega) (by omega) hr)
    obtain⟨X,hX⟩:∃X,X=G*2^52:=⟨_,rfl⟩
    rw[←hX] at e5 f4
    obtain⟨Y,hY⟩:∃Y,Y=X+r:=⟨_,rfl⟩
    rw[←hX,←hY] at hml HY
    rw[←hY] at e5
    have HY:=Lib.hid HY
    have c3:-1022≤q:=by omega
    clear HX hF hE hq hk hp1 hp2 hqb hr hG hX hY
    go_enter Tryz.func232,Tryz.ntmps232
    go_wp2_with (first
     | (go_at_call 151;refine hinf.out.mono ?_;rintro e w' ⟨rfl,rfl⟩)
     | (go_at_call 150;refine hnan.out.mono ?_;rintro e w' ⟨rfl,rfl⟩)
     | (go_at_call 244;refine hn.out.mono ?_;rintro e w' ⟨rfl,rfl⟩))
    go_ret
    exact⟨by rw[HY.out];rfl,rfl⟩
set_option maxHeartbeats 4000000 in
theorem s0b (b:Nat) (hb:b < 2^64) (w:World) (hE:EnvC w):Calls Tryz.prog 149 #[.float .f64 b] w fun e w'=>e=.returned (.tuple #[.bool (f0k b).1,.int .u64 ((f0k b).2.1:Int),.int .i64 (f0k b).2.2])∧Below w.heap.size w w':=by
 have hnan:=g0I b hb w
 have hinf:=g0H b hb w
 have hsgn:=Lib.hid (v0Q b hb w)
 obtain⟨V,hV⟩:∃V,V=f0k b:=⟨_,rfl⟩
 rw[←hV]
 have HV:=Lib.hid hV
 clear hV
 cases hn:nanC b with
 | true =>
  rw[hn] at hnan
  have hnan:=Lib.hid hnan
  have HW:=Lib.hid (HV.out.trans (k0j b hn))
  clear HV hn hinf hsgn
  go_enter Tryz.func149,Tryz.ntmps149
  go_wp2_with (go_at_call 150;refine hnan.out.mono ?_;rintro e w' ⟨rfl,rfl⟩)
  go_ret3
  exact⟨by rw[HW.out];rfl,Below.refl _ _⟩
 | false =>
  rw[hn] at hnan
  have hnan:=Lib.hid hnan
  by_cases h0:magC b=0
  ·have o:=l0o b hb hn h0
   have HW:=Lib.hid (HV.out.trans (c0Q b hn (.inr h0)))
   clear HV hn hinf h0
   generalize negC b=g at *
   go_enter Tryz.func149,Tryz.ntmps149
   go_wp2_with (first
    | (go_at_call 150;refine hnan.out.mono ?_;rintro e w' ⟨rfl,rfl⟩)
    | (go_at_call 201;refine hsgn.out.mono ?_;rintro e w' ⟨rfl,rfl⟩))
   go_ret3
   exact⟨by rw[HW.out];rfl,Below.refl _ _⟩
  ·have o1:=k0b b hb hn h0
   by_cases h1:magC b=2047*2^52
   ·rw[decide_eq_true h1] at hinf
    have hinf:=Lib.hid hinf
    have HW:=Lib.hid (HV.out.trans (c0Q b hn (.inl h1)))
    clear HV hn h0 h1
    generalize negC b=g at *
    rcases o1 with o | o
    all_goals
     go_enter Tryz.func149,Tryz.ntmps149
     go_wp2_with (first
      | (go_at_call 150;refine hnan.out.mono ?_;rintro e w' ⟨rfl,rfl⟩)
      | (go_at_call 151;refine hinf.out.mono ?_;rintro e w' ⟨rfl,rfl⟩)
      | (go_at_call 201;refine hsgn.out.mono ?_;rintro e w' ⟨rfl,rfl⟩))
     go_ret3
     exact⟨by rw[HW.out];rfl,Below.refl _ _⟩
   ·rw[decide_eq_false h1] at hinf
    have hinf:=Lib.hid hinf
    have hp:=g0r b hn (by rintro (h | h);exact h1 h;exact h0 h)
    have hfin:FinC (magC b):=by
     have hl:¬2047*2^52 < magC b:=of_decide_eq_false (show decide (2047*2^52 < magC b)=false from hn)
     unfold FinC;omega
    have habs:=Lib.hid (j0a b hb w)
    generalize magC b=a at *
    obtain⟨E,r,x,hN⟩:=b1t a hfin
    obtain⟨b1,b2,b3,b4⟩:=v0X a E r x hN
    obtain⟨q1,q2⟩:=s0K a E r x hfin hN
    have hfr:=s0C a E r x hfin hN w
    rw[←q1,←q2] at hp
    have HW:=Lib.hid (HV.out.trans hp)
    obtain⟨Z,hZ⟩:∃Z,Z=1022*2^52+r:=⟨_,rfl⟩
    obtain⟨Y,hY⟩:∃Y,Y=1075*2^52+r:=⟨_,rfl⟩
    obtain⟨M,hM⟩:∃M,M=2^52+r:=⟨_,rfl⟩
    have hmul:∀w',(binOp .mul 68 (.float .f64 Z) (.float .f64 4845873199050653696)).run Tryz.prog w'=.ok (.float .f64 Y) w':=fun w'=>run_float_arith w' .mul _ .f64 _ _ _ (by rw[hZ,hY];exact y0T r b3)
    have hcv:∀w',(convert 68 24 (.float .f64 Y)).run Tryz.prog w'=.ok (.int .u64 (M:Int)) w':=fun w'=>run_convert_float_int w' _ _ .f64 .u64 Y (M:Int) (by kernel_rfl) Tryz.underlying24 (by rw[hY,hM];exact c1W r b3)
    have htz:=c1X M (by omega) (by omega) w hE.tz
    obtain⟨c1,c2⟩:=d0M M (by omega)
    have ht:a0V M≤53:=k0I M 53 (by omega) (by omega)
    rw[←hZ] at hfr
    rw[←hM] at HW
    have hfr:=Lib.hid hfr
    have htz:=Lib.hid htz
    generalize oddC M=m at *
    generalize a0V M=t at *
    have hmin:min t 64=t:=by omega
    have hsh:((M:Nat):Int)/2^t=(m:Int):=by
     rw[c2,Int.natCast_mul,Int.natCast_pow]
     exact Int.mul_ediv_cancel _ (by have:=Nat.pow_pos (n:=t) (show 0 < 2 by omega);omega)
    obtain⟨P,hP⟩:∃P:Int,P=(E:Int) - 1022+x:=⟨_,rfl⟩
    rw[←hP] at hfr HW
    have w1:IntKind.i64.wrap (P - 53)=P - 53:=by rw[IntKind.wrap_i64];omega
    have w2:IntKind.i64.wrap (P - 53+(t:Int))=P - 53+(t:Int):=by rw[IntKind.wrap_i64];omega
    clear HV hn h0 h1 hp hfin hN b1 b2 b3 b4 q1 q2 hZ hY hM c1 c2 ht hP
    rcases o1 with o | o
    all_goals
     go_enter Tryz.func149,Tryz.ntmps149
     go_wp2_with (first
      | (go_at_call 150;refine hnan.out.mono ?_;rintro e w' ⟨rfl,rfl⟩)
      | (go_at_call 151;refine hinf.out.mono ?_;rintro e w' ⟨rfl,rfl⟩)
      | (go_at_call 203;refine habs.out.mono ?_;rintro e w' ⟨rfl,rfl⟩)
      | (go_at_call 202;refine hfr.out.mono ?_;rintro e w' ⟨rfl,rfl⟩)
      | (go_at_call 204;refine htz.out.mono ?_;rintro e w' ⟨rfl,rfl⟩)
      | (go_at_call 201;refine hsgn.out.mono ?_;rintro e w' ⟨rfl,rfl⟩))
     go_region
     go_wp2
     go_ret3
     exact⟨by rw[HW.out];rfl,(Below.refl _ _).drew⟩
set_option maxHeartbeats 4000000 in
theorem u0D (b:Nat) (hb:b < 2^64) (w:World) (hE:EnvC w):Calls Tryz.prog 109 #[.float .f64 b] w fun e w'=>e=.returned (.string (bstr (b0C b)))∧Below w.heap.size w w':=by
 have hpt:=s0b b hb w hE
 have hnan:=fun w'=>g0I b hb w'
 have hinf:=fun w'=>g0H b hb w'
 cases hn:nanC b with
 | true =>
  rw[hn] at hnan
  rw[k0j b hn] at hpt
  have HF:=Lib.hid (fun w' (h:EnvC w')=>i0f 0 (by omega) w' h.pow)
  have HP:=Lib.hid hpt
  have hnan:=Lib.hid hnan
  have HW:=Lib.hid (j0o b hn)
  generalize numL 10 0=X at *
  clear hn hpt hinf
  go_enter Tryz.func109,Tryz.ntmps109
  go_wp2_with (first
   | (go_at_call 149;refine HP.out.mono ?_;rintro e w1 ⟨rfl,hb1⟩;have hE1:=hE.next hb1)
   | (go_at_call 100;refine (HF.out _ hE1).mono ?_;rintro e w2 ⟨rfl,hb2⟩;have hb2:=hb1.trans (hb2.mono hb1.size);have hE2:=hE.next hb2)
   | (go_at_call 150;refine (hnan.out _).mono ?_;rintro e w' ⟨rfl,rfl⟩))
  go_ret
  exact⟨by rw[HW.out];rfl,hb2⟩
 | false =>
  rw[hn] at hnan
  have hnan:=Lib.hid hnan
  by_cases h0:magC b=0
  ·have HW:=Lib.hid (show b0C b=(if negC b then [45] else [])++[48] by rw[h0q b hn,h0];rfl)
   rw[c0Q b hn (.inr h0)] at hpt
   rw[decide_eq_false (by rw[h0];omega)] at hinf
   have hinf:=Lib.hid hinf
   have HF:=Lib.hid (fun w' (h:EnvC w')=>i0f 0 (by omega) w' h.pow)
   rw[show numL 10 0=[48] from a0O 10 0 (by omega)] at HF
   have HP:=Lib.hid hpt
   clear hpt hn h0
   cases hg:negC b
   all_goals
    rw[hg] at HP HW
    clear hg
    go_enter Tryz.func109,Tryz.ntmps109
    go_wp2_with (first
     | (go_at_call 149;refine HP.out.mono ?_;rintro e w1 ⟨rfl,hb1⟩;have hE1:=hE.next hb1)
     | (go_at_call 100;refine (HF.out _ hE1).mono ?_;rintro e w2 ⟨rfl,hb2⟩;have hb2:=hb1.trans (hb2.mono hb1.size);have hE2:=hE.next hb2)
     | (go_at_call 150;refine (hnan.out _).mono ?_;rintro e w' ⟨rfl,rfl⟩)
     | (go_at_call 151;refine (hinf.out _).mono ?_;rintro e w' ⟨rfl,rfl⟩))
    go_ret
    exact⟨by rw[HW.out];rfl,hb2⟩
  ·by_cases hi:magC b=2047*2^52
   ·have HW:=Lib.hid (show b0C b=(if negC b then [45] else [])++[105,110,102] by rw[h0q b hn,hi];rfl)
    rw[c0Q b hn (.inl hi)] at hpt
    rw[decide_eq_true hi] at hinf
    have hinf:=Lib.hid hinf
    have HF:=Lib.hid (fun w' (h:EnvC w')=>i0f 0 (by omega) w' h.pow)
    generalize numL 10 0=X at *
    have HP:=Lib.hid hpt
    clear hpt hn h0 hi
    cases hg:negC b
    all_goals
     rw[hg] at HP HW
     clear hg
     go_enter Tryz.func109,Tryz.ntmps109
     go_wp2_with (first
      | (go_at_call 149;refine HP.out.mono ?_;rintro e w1 ⟨rfl,hb1⟩;have hE1:=hE.next hb1)
      | (go_at_call 100;refine (HF.out _ hE1).mono ?_;rintro e w2 ⟨rfl,hb2⟩;have hb2:=hb1.trans (hb2.mono hb1.size);have hE2:=hE.next hb2)
      | (go_at_call 150;refine (hnan.out _).mono ?_;rintro e w' ⟨rfl,rfl⟩)
      | (go_at_call 151;refine (hinf.out _).mono ?_;rintro e w' ⟨rfl,rfl⟩))
     go_ret
     exact⟨by rw[HW.out];rfl,hb2⟩
   ·obtain⟨b1,b2,b3,b4⟩:=i0d b hn h0 hi
    have hT:=show b0C b=(if negC b then [45] else [])++(numL 10 (oddC (sigC (magC b)))++112 :: intL (powC (magC b)+a0V (sigC (magC b)))) by rw[h0q b hn,l0T _ h0 hi]
    rw[g0r b hn (by rintro (h | h);exact hi h;exact h0 h)] at hpt
    rw[decide_eq_false hi] at hinf
    have hinf:=Lib.hid hinf
    generalize oddC (sigC (magC b))=m at *
    generalize powC (magC b)+(a0V (sigC (magC b)):Int)=P at *
    have HF:=Lib.hid (fun w' (h:EnvC w')=>i0f m (by omega) w' h.pow)
    have HI:=Lib.hid (fun w' (h:EnvC w')=>y0G P (by omega) (by omega) w' h)
    have hX:=b0f 10 (by omega) 20 m (by omega)
    have hY:(intL P).length≤22:=by
     have:=b0f 10 (by omega) 20 P.natAbs (by omega)
     unfold intL
     split
     ·rw[List.length_cons];omega
     ·omega
    have hzX:=a0f (numL 10 m)
    have hzY:=a0f (intL P)
    have hm0:((m:Int) != 0)=true:=by rw[bne_iff_ne];omega
    have HP:=Lib.hid hpt
    have HT:=Lib.hid hT
    clear hpt hn h0 hi hT b1 b2 b3 b4
    generalize intL P=I at *
    generalize numL 10 m=X at *
    cases hg:negC b with
    | true =>
     rw[hg] at HP HT
     clear hg
     go_enter Tryz.func109,Tryz.ntmps109
     go_wp2_with (first
      | (go_at_call 149;refine HP.out.mono ?_;rintro e w1 ⟨rfl,hb1⟩;have hE1:=hE.next hb1)
      | (go_at_call 100;refine (HF.out _ hE1).mono ?_;rintro e w2 ⟨rfl,hb2⟩;have hb2:=hb1.trans (hb2.mono hb1.size);have hE2:=hE.next hb2)
      | (go_at_call 150;refine (hnan.out _).mono ?_;rintro e w' ⟨rfl,rfl⟩)
      | (go_at_call 151;refine (hinf.out _).mono ?_;rintro e w' ⟨rfl,rfl⟩)
      | (go_at_call 147;refine (HI.out _ hE2).mono ?_;rintro e w3 ⟨rfl,hb3⟩;have hb3:=hb2.trans (hb3.mono hb2.size)))
     go_ret
     exact⟨by rw[HT.out];show Ending.returned (.string (bstr [45]++(bstr X++(bstr [112]++bstr I))))=_;rw[a0r,a0r,a0r];rfl,hb3⟩
    | false =>
     rw[hg] at HP HT
     clear hg
     go_enter Tryz.func109,Tryz.ntmps109
     go_wp2_with (first
      | (go_at_call 149;refine HP.out.mono ?_;rintro e w1 ⟨rfl,hb1⟩;have hE1:=hE.next hb1)
      | (go_at_call 100;refine (HF.out _ hE1).mono ?_;rintro e w2 ⟨rfl,hb2⟩;have hb2:=hb1.trans (hb2.mono hb1.size);have hE2:=hE.next hb2)
      | (go_at_call 150;refine (hnan.out _).mono ?_;rintro e w' ⟨rfl,rfl⟩)
      | (go_at_call 151;refine (hinf.out _).mono ?_;rintro e w' ⟨rfl,rfl⟩)
      | (go_at_call 147;refine (HI.out _ hE2).mono ?_;rintro e w3 ⟨rfl,hb3⟩;have hb3:=hb2.trans (hb3.mono hb2.size)))
     go_ret
     exact⟨by rw[HT.out];show Ending.returned (.string (bstr X++(bstr [112]++bstr I)))=_;rw[a0r,a0r];rfl,hb3⟩
theorem p0w (p:Int) (w:World):Calls Tryz.prog 232 #[.float .f64 0,.int .i64 p] w fun e w'=>e=.returned (.float .f64 0)∧w=w':=by
 have o:FloatKind.f64.format.order 0 0=some .eq:=by decide +kernel
 go_enter Tryz.func232,Tryz.ntmps232
 go_wp2
 go_ret
 exact⟨rfl,rfl⟩
def t0X (n:Nat) (p:Int) (x:Nat):Prop:=x < 2^64∧(n=0→x=0)∧∀a,FinC a→oddC (sigC a)=n→powC a+a0V (sigC a)=p→x=a
theorem s0D (n:Nat) (p:Int) (hn:n < 2^53) (h1:-4096≤p) (h2:p≤4096) (w:World):Calls Tryz.prog 200 #[.float .f64 (floatOfInt .f64 (n:Int)),.int .i64 p] w fun e w'=>∃x,e=.returned (.float .f64 x)∧t0X n p x∧w=w':=by
 have hin:∃x,t0X n p x∧Calls Tryz.prog 232 #[.float .f64 (floatOfInt .f64 (n:Int)),.int .i64 p] w fun e w'=>e=.returned (.float .f64 x)∧w=w':=by
  by_cases h0:n=0
  ·subst h0
   refine⟨0,⟨by omega,fun _=>rfl,fun a hf ho _=>?_⟩,?_⟩
   ·have:=(d0M (sigC a) (by have:=h0o a hf;omega)).1
    rw[ho] at this
    exact absurd this (by omega)
   ·rw[show floatOfInt .f64 ((0:Nat):Int)=0 from b1y]
    exact p0w p w
  ·obtain⟨k,r,hk,hr,e⟩:=d1a n (by omega) hn
   refine⟨ldC k r p,⟨d1i k r p hr,fun h=>absurd h h0,fun a hf ho hp=>y0N n k r a p hk hr e hf ho hp⟩,?_⟩
   rw[c1K n k r (by omega) hk hr e]
   exact v0O k r p hk hr h1 h2 w
 obtain⟨x,hx,hc⟩:=hin
 have hc:=Lib.hid hc
 have hx:=Lib.hid hx
 generalize floatOfInt .f64 (n:Int)=Y at *
 go_enter Tryz.func200,Tryz.ntmps200
 go_wp2_with (go_at_call 232;refine hc.out.mono ?_;rintro e w' ⟨rfl,rfl⟩)
 go_ret
 exact⟨x,rfl,hx.out,rfl⟩
theorem y0C (t u:List UInt8) (h:(112:UInt8)∉t):Lib.index (t++112 :: u) [112]=t.length:=by
 induction t with
 | nil=>rfl
 | cons c t ih =>
  have hc:c≠112:=fun e=>h (by rw[e];exact List.mem_cons_self ..)
  have ih:=ih (fun hm=>h (List.mem_cons_of_mem _ hm))
  rw[List.cons_append,Lib.index,if_neg (by simp[List.isPrefixOf,Ne.symm hc]),ih,if_neg (by rw[beq_iff_eq];omega),List.length_cons]
  omega
theorem c1n (t u:List UInt8) (h:(112:UInt8)∉t):(Lib.cut (t++112 :: u) [112]).1=t∧(Lib.cut (t++112 :: u) [112]).2.1=u:=by
 unfold Lib.cut
 rw[y0C t u h,if_pos (by omega)]
 constructor
 ·show (t++112 :: u).take ((t.length:Int)).toNat=t
  rw[Int.toNat_natCast,List.take_left]
 ·show (t++112 :: u).drop (((t.length:Int)).toNat+1)=u
  rw[Int.toNat_natCast,List.drop_append]
  simp
theorem u0J (s:List UInt8):(Lib.cut s [112]).1.length≤s.length∧(Lib.cut s [112]).2.1.length≤s.length:=by
 unfold Lib.cut
 split
 ·simp;omega
 ·simp
theorem t0j (s:List UInt8) (a:Nat) (h:g0b s=some a) (hi:s≠[105,110,102]) :
  (a=0∧(pmA 9007199254740991 (Lib.cut s [112]).1).1=0)∨(FinC a∧oddC (sigC a)=(pmA 9007199254740991 (Lib.cut s [112]).1).1∧powC a+a0V (sigC a)=(piA (Lib.cut s [112]).2.1).1):=by
 unfold g0b at h
 by_cases h0:s=[48]
 ·rw[if_pos h0] at h
  cases h
  exact .inl ⟨rfl,by rw[h0];decide⟩
 ·rw[if_neg h0,if_neg hi] at h
  obtain⟨hf,e⟩:=(m0n s a).1 h
  obtain⟨g1,-⟩:=l0h a hf
  obtain⟨o1,o2⟩:=d0M (sigC a) (by have:=h0o a hf;omega)
  have hsl:sigC a < 2^53:=by rcases g1 with ⟨_,h,_⟩ | ⟨_,h,_,_⟩<;>omega
  have hpow:-1074≤powC a∧powC a≤971:=by rcases g1 with ⟨_,_,h⟩ | ⟨_,_,h,h'⟩<;>omega
  have ht:=k0I (sigC a) 53 (h0o a hf) hsl
  have hle:oddC (sigC a)≤oddC (sigC a)*2^a0V (sigC a):=Nat.le_mul_of_pos_right _ (Nat.pow_pos (by omega))
  rw[←o2] at hle
  obtain⟨c1,c2⟩:=c1n (numL 10 (oddC (sigC a))) (intL (powC a+a0V (sigC a))) (fun h=>(h0k _ _ h).2.1 rfl)
  rw[←e] at c1 c2
  refine .inr ⟨hf,?_,?_⟩
  ·rw[c1,a1l _ _ (by omega)]
  ·rw[c2,c1O _ (by omega) (by omega)]
set_option maxHeartbeats 4000000 in
theorem l0b (s:List UInt8) (hs:s.length≤1000) (w:World) (hE:EnvD w):Calls Tryz.prog 148 #[.string (bstr s)] w fun e w'=>∃x,e=.returned (.float .f64 x)∧x < 2^64∧(∀a,g0b s=some a→x=a)∧(s=[]→x=0)∧Below w.heap.size w w':=by
 by_cases hi:s=[105,110,102]
 ·subst hi
  have he:((bstr [105,110,102]).toList==[105,110,102])=true:=by rw[a0n];rfl
  have hI:=Lib.hid (m0a w)
  generalize hS:bstr [105,110,102]=S at *
  clear hS
  go_enter Tryz.func148,Tryz.ntmps148
  go_wp2_with (go_at_call 80;refine hI.out.mono ?_;rintro e w' ⟨rfl,rfl⟩)
  go_ret
  exact⟨_,rfl,by omega,fun a h=>by rw[show g0b [105,110,102]=some (2047*2^52) from rfl] at h;exact Option.some.inj h,(by simp),Below.refl _ _⟩
 ·have he:((bstr s).toList==[105,110,102])=false:=by rw[a0n];exact beq_eq_false_iff_ne.2 hi
  obtain⟨m,hm⟩:=hE.most
  have hz:=a0f s
  have hcut:=fun w' (hm:w'.cell? ⟨3,0,none⟩=some (.int .i64 m))=>Tryz.strings_Cut (bstr s) (bstr [112]) m w' (by omega) hm
  obtain⟨s1,s2⟩:=u0J s
  have hR:=Lib.hid (fun a h=>t0j s a h hi)
  have hN:=Lib.hid (show s=[]→(pmA 9007199254740991 (Lib.cut s [112]).1).1=0 by intro h;rw[h];decide)
  have hcut:Calls Tryz.prog 104 #[.string (bstr s),.string ⟨#[112]⟩] w fun e w'=>e=.returned (.tuple #[.string (bstr (Lib.cut s [112]).1),.string (bstr (Lib.cut s [112]).2.1),.bool (Lib.cut s [112]).2.2])∧Below w.heap.size w w':=by
   refine (hcut w hm).mono ?_
   rintro e w' ⟨rfl,n,rfl⟩
   refine⟨rfl,?_⟩
   clear hR hN
   induction n with
   | zero=>exact Below.refl _ _
   | succ n ih=>exact ih.drew
  have hcut:=Lib.hid hcut
  generalize (Lib.cut s [112]).1=t at *
  generalize (Lib.cut s [112]).2.1=u at *
  generalize (Lib.cut s [112]).2.2=f at *
  have hn1:=(h0M 9007199254740991 t).1
  obtain⟨p1,p2,-⟩:=r0l u
  have hpu:=Lib.hid (fun w' (h:EnvD w')=>z0u t (by omega) w' h)
  have hpi:=Lib.hid (fun w' (h:EnvD w')=>z0p u (by omega) w' h)
  generalize (pmA 9007199254740991 t).1=n at *
  generalize (piA u).1=p at *
  have hld:=Lib.hid (fun w'=>s0D n p (by omega) (by omega) (by omega) w')
  clear hs s1 s2 hn1 p1 p2 hm
  generalize bstr s=S at *
  go_enter Tryz.func148,Tryz.ntmps148
  go_wp2_with (first
   | (go_at_call 104;refine hcut.out.mono ?_;rintro e w1 ⟨rfl,hb1⟩;have hE1:=hE.next hb1)
   | (go_at_call 99;refine (hpu.out _ hE1).mono ?_;rintro e w2 ⟨v2,rfl,hb2⟩;have hb2:=hb1.trans (hb2.mono hb1.size);have hE2:=hE.next hb2)
   | (go_at_call 199;refine (hpi.out _ hE2).mono ?_;rintro e w3 ⟨v3,rfl,hb3⟩;have hb3:=hb2.trans (hb3.mono hb2.size))
   | (go_at_call 200;refine (hld.out _).mono ?_;rintro e w4 ⟨x,rfl,hx,rfl⟩))
  go_ret
  refine⟨x,rfl,hx.1,fun a h=>?_,fun h=>hx.2.1 (hN.out h),hb3⟩
  rcases hR.out a h with ⟨rfl,h1⟩ | ⟨h1,h2,h3⟩
  ·exact hx.2.1 h1
  ·exact hx.2.2 a h1 h2 h3
set_option maxHeartbeats 4000000 in
theorem u0C (s:List UInt8) (hs:s.length≤1000) (w:World) (hE:EnvD w):Calls Tryz.prog 108 #[.string (bstr s)] w fun e w'=>∃x,e=.returned (.float .f64 x)∧x < 2^64∧(∀c,b0o s=some c→x=c)∧(s=[]→x=0)∧Below w.heap.size w w':=by
 have hcp:=Tryz.strings_CutPrefix (bstr s) (bstr [45]) w
 by_cases hm:∃r,s=45 :: r
 ·obtain⟨r,rfl⟩:=hm
  have hcp:Calls Tryz.prog 139 #[.string (bstr (45 :: r)),.string ⟨#[45]⟩] w fun e w'=>e=.returned (.tuple #[.string (bstr r),.bool true])∧w=w':=by
   refine hcp.mono ?_
   rintro e w' ⟨rfl,rfl⟩
   exact⟨rfl,rfl⟩
  have hcp:=Lib.hid hcp
  have hrs:=Lib.hid (l0b r (by rw[List.length_cons] at hs;omega) w hE)
  have hco:=Lib.hid (fun x hx w'=>v0J x hx w')
  have hP:=Lib.hid (show b0o (45 :: r)=(g0b r).map (2^63 + ·) from rfl)
  have hne:(45 :: r)≠[]:=by simp
  generalize 45 :: r=s at *
  clear hs
  generalize bstr s=S at *
  go_enter Tryz.func108,Tryz.ntmps108
  go_wp2_with (first
   | (go_at_call 139;refine hcp.out.mono ?_;rintro e w' ⟨rfl,rfl⟩)
   | (go_at_call 148;refine hrs.out.mono ?_;rintro e w1 ⟨x,rfl,hx,hr,-,hb1⟩;have hr:=Lib.hid hr)
   | (go_at_call 79;refine (hco.out x hx _).mono ?_;rintro e w' ⟨rfl,rfl⟩))
  go_ret
  refine⟨_,rfl,by have:=v0G x;omega,fun c h=>?_,fun h=>absurd h hne,hb1⟩
  rw[hP.out] at h
  obtain⟨a,ha,rfl⟩:=Option.map_eq_some_iff.1 h
  rw[hr.out a ha]
  have hle:=((h0s r a).1 ha).1
  show 2^63+magC a=2^63+a
  unfold magC
  omega
 ·have hh:Lib.hasPrefix s [45]=false∧b0o s=g0b s:=by
   cases s with
   | nil=>exact⟨rfl,rfl⟩
   | cons c r =>
    have hc:c≠45:=fun e=>hm ⟨r,by rw[e]⟩
    exact⟨by unfold Lib.hasPrefix;simp[List.isPrefixOf,Ne.symm hc],f0j c r hc⟩
  have hcp:Calls Tryz.prog 139 #[.string (bstr s),.string ⟨#[45]⟩] w fun e w'=>e=.returned (.tuple #[.string (bstr s),.bool false])∧w=w':=by
   refine hcp.mono ?_
   rintro e w' ⟨rfl,rfl⟩
   have h1:Lib.trimPrefix s [45]=s:=by unfold Lib.trimPrefix;rw[hh.1];rfl
   refine⟨?_,rfl⟩
   show Ending.returned (.tuple #[.string (bstr (Lib.trimPrefix s [45])),.bool (Lib.hasPrefix s [45])])=_
   rw[h1,hh.1]
  have hcp:=Lib.hid hcp
  have hrs:=Lib.hid (l0b s hs w hE)
  have hP:=Lib.hid hh.2
  clear hh hm hs
  go_enter Tryz.func108,Tryz.ntmps108
  go_wp2_with (first
   | (go_at_call 139;refine hcp.out.mono ?_;rintro e w' ⟨rfl,rfl⟩)
   | (go_at_call 148;refine hrs.out.mono ?_;rintro e w1 ⟨x,rfl,hx,hr,h0,hb1⟩;have hr:=Lib.hid hr;have h0:=Lib.hid h0))
  go_ret
  exact⟨x,rfl,hx,fun c h=>hr.out c (by rw[←hP.out];exact h),h0.out,hb1⟩
set_option maxHeartbeats 4000000 in
theorem s0a (s:List UInt8) (hs:s.length≤1000) (w:World) (hE:EnvD w):Calls Tryz.prog 73 #[.string (bstr s)] w fun e w'=>e=.returned (.tuple #[.float .f64 ((b0o s).getD 0),.bool (b0o s).isSome])∧Below w.heap.size w w':=by
 have hrd:=Lib.hid (u0C s (by omega) w hE)
 have htx:=Lib.hid (fun x hx w' (h:EnvC w')=>u0D x hx w' h)
 have heq:=Lib.hid (fun x=>b0S (b0C x) s)
 have hpi:=Lib.hid (f0B s)
 clear hs
 go_enter Tryz.func73,Tryz.ntmps73
 go_wp2_with (go_at_call 108;refine hrd.out.mono ?_;rintro e w1 ⟨x,rfl,hx,hr,h0,hb1⟩;have hr:=Lib.hid hr;have h0:=Lib.hid h0;refine Hid.out ?_)
 have hE1:=(hE.next hb1).toEnvC
 have htx:=Lib.hid (htx.out x hx w1 hE1)
 have heq:=heq.out x
 by_cases ht:b0C x=s
 ·have hn:nanC x=false:=by
   cases hn:nanC x with
   | false=>rfl
   | true =>
    rw[j0o x hn] at ht
    rw[h0.out ht.symm] at hn
    exact absurd hn (by decide)
  have hp:=Lib.hid ((hpi.out x).2 ⟨hx,hn,ht⟩)
  rw[decide_eq_true ht] at heq
  clear ht hn
  generalize bstr (b0C x)=X at *
  generalize bstr s=S at *
  refine Lib.hid ?_
  go_wp2_with (go_at_call 109;refine htx.out.mono ?_;rintro e w2 ⟨rfl,hb2⟩)
  go_ret2
  exact⟨by rw[hp.out];rfl,hb1.trans (hb2.mono hb1.size)⟩
 ·have hp:b0o s=none:=by
   cases hp:b0o s with
   | none=>rfl
   | some c =>
    have e:=hr.out c hp
    exact absurd (e ▸ ((hpi.out c).1 hp).2.2) ht
  have hp:=Lib.hid hp
  rw[decide_eq_false ht] at heq
  clear ht
  generalize bstr (b0C x)=X at *
  generalize bstr s=S at *
  refine Lib.hid ?_
  go_wp2_with (go_at_call 109;refine htx.out.mono ?_;rintro e w2 ⟨rfl,hb2⟩)
  go_ret2
  exact⟨by rw[hp.out];rfl,hb1.trans (hb2.mono hb1.size)⟩
open Go Go.RowKit Go.Lib
theorem r0K (q:UInt8→Bool) (s:List UInt8) (k:Nat) (h:k < s.length):(s.drop k).all q=(q (s[k])&&(s.drop (k+1)).all q):=by
 rw[List.drop_eq_getElem_cons h,List.all_cons]
theorem s0r (p:Nat→Bool) (q:UInt8→Bool) (hb:∀c:UInt8,p c.toNat=!q c) (hh:∀x,128≤x→p x=true) (s:List UInt8):∀(f pos:Nat),s.length≤pos+f→decide (0≤idxFuncFrom p true (bstr s) f pos)=!(s.drop pos).all q:=by
 intro f
 have hz:=a0f s
 have hq:∀c:UInt8,128≤c.toNat→q c=false:=by
  intro c h
  have:=hb c
  rw[hh _ h] at this
  cases hs:q c with
  | false=>rfl
  | true=>rw[hs] at this;cases this
 induction f with
 | zero =>
  intro pos h
  rw[List.drop_eq_nil_of_le (by omega)];rfl
 | succ f ih =>
  intro pos h
  rw[idxFuncFrom]
  by_cases hp:pos < s.length
  ·rw[if_pos (by omega),r0K q s pos hp]
   have hp':pos < (bstr s).size:=by omega
   have hbp:(bstr s)[pos]'hp'=s[pos]:=rfl
   by_cases ha:(s[pos]).toNat < 128
   ·have e:=decode_ascii (bstr s) pos hp' (by rw[hbp];exact ha)
    rw[hbp] at e
    rw[e]
    show decide (0≤if p (s[pos]).toNat=true then (pos:Int) else idxFuncFrom p true (bstr s) f (pos+1))=_
    rw[hb]
    cases hs:q s[pos] with
    | false=>rw[if_pos (by rfl)];simp
    | true =>
     rw[if_neg (by simp),ih (pos+1) (by omega),Bool.true_and]
   ·have e:=(decode_high (bstr s) pos hp' (by rw[hbp];omega)).1
    rw[if_pos (hh _ e),hq _ (by omega)]
    simp
  ·rw[if_neg (by omega),List.drop_eq_nil_of_le (by omega)];rfl
theorem l0j (p:Nat→Bool) (q:UInt8→Bool) (hb:∀c:UInt8,p c.toNat=!q c) (hh:∀x,128≤x→p x=true) (s:List UInt8):decide (0≤idxFunc p true (bstr s))=!s.all q:=by
 unfold idxFunc
 exact s0r p q hb hh s _ 0 (by rw[a0f];omega)
def b0O (a b:Nat) (x:Nat):Bool:=decide (x < a)||decide (b < x)
theorem b1b (s:List UInt8):decide (0≤idxFunc (b0O 32 126) true (bstr s))=!s.all inkB:=by
 refine l0j _ _ (fun c=>?_) (fun x h=>?_) s
 ·unfold b0O inkB
  rw[Bool.not_and,←decide_not,←decide_not]
  congr 1<;>exact decide_eq_decide.2 (by omega)
 ·unfold b0O
  rw[decide_eq_true (by omega:126 < x),Bool.or_true]
theorem b1c (s:List UInt8):decide (0≤idxFunc (b0O 97 122) true (bstr s))=!s.all lowB:=by
 refine l0j _ _ (fun c=>?_) (fun x h=>?_) s
 ·unfold b0O lowB
  rw[Bool.not_and,←decide_not,←decide_not]
  congr 1<;>exact decide_eq_decide.2 (by omega)
 ·unfold b0O
  rw[decide_eq_true (by omega:122 < x),Bool.or_true]
theorem q0m (c:UInt8):∀(k:Nat) (s:List UInt8),k≤s.count c→(Lib.splitB (bstr [c]) 0 k (bstr s)).length=k+1:=by
 intro k
 induction k with
 | zero=>intro s _;rfl
 | succ k ih =>
  intro s h
  have e1:Lib.indexB (bstr s) (bstr [c])=Lib.indexByte s c:=Lib.index_one s c
  rcases d0W s c with ⟨hi,hsp⟩ | ⟨i,hir,hi,hsp⟩
  ·have h2:=Lib.indexByte_none hi
   exfalso
   have hp:0 < s.count c:=by omega
   obtain⟨j,hj⟩:=List.getElem?_of_mem (List.count_pos_iff.1 hp)
   exact h2 j hj
  ·rw[Lib.splitB_hit _ _ _ _ i (by rw[e1,hi]),List.length_cons]
   have h2:=(Lib.indexByte_some hi).1
   have h3:=(Lib.indexByte_some hi).2
   have h1:(bstr [c]).size=1:=rfl
   have h0:(s.take i).count c=0:=by
    rw[List.count_eq_zero]
    intro hm
    obtain⟨j,hj⟩:=List.getElem?_of_mem hm
    have hji:j < i:=by have:=(List.getElem?_eq_some_iff.1 hj).1;rw[List.length_take] at this;omega
    refine h3 j hji ?_
    rw[List.getElem?_take,if_pos hji] at hj
    exact hj
   have hc:s.count c=(s.take i).count c+(1+(s.drop (i+1)).count c):=by
    have e:s=s.take i++c :: s.drop (i+1):=by
     have hg:s[i]=c:=(List.getElem?_eq_some_iff.1 h2).2
     conv=>lhs;rw[←List.take_append_drop i s,List.drop_eq_getElem_cons hir,hg]
    conv=>lhs;rw[e]
    rw[List.count_append,List.count_cons_self];omega
   have e2:(bstr s).extract (i+(bstr [c]).size) (bstr s).size=bstr (s.drop (i+1)):=by
    rw[h1,a0f,a0y,List.take_of_length_le (by rw[List.length_drop];omega)]
   rw[e2,ih _ (by omega)]
theorem x0h (c:UInt8):∀(k:Nat) (s:List UInt8),(Lib.splitB (bstr [c]) 0 k (bstr s)).length≤k+1:=by
 intro k
 induction k with
 | zero=>intro s;exact Nat.le_refl _
 | succ k ih =>
  intro s
  have e1:Lib.indexB (bstr s) (bstr [c])=Lib.indexByte s c:=Lib.index_one s c
  rcases d0W s c with ⟨hi,hsp⟩ | ⟨i,hir,hi,hsp⟩
  ·rw[Lib.splitB_miss _ _ _ _ (by rw[e1,hi])]
   simp
  ·rw[Lib.splitB_hit _ _ _ _ i (by rw[e1,hi]),List.length_cons]
   have e2:(bstr s).extract (i+(bstr [c]).size) (bstr s).size=bstr (s.drop (i+1)):=by
    rw[show (bstr [c]).size=1 from rfl,a0f,a0y,List.take_of_length_le (by rw[List.length_drop];omega)]
   rw[e2]
   have:=ih (s.drop (i+1))
   omega
theorem o0N (c:UInt8) (s:List UInt8):(a0h c s).length=s.count c+1:=by
 rw[←k0C c s]
 congr 1
 exact Lib.count_one c s
theorem o0M (c:UInt8):∀(k:Nat) (s:List UInt8),∀b∈Lib.splitB (bstr [c]) 0 k (bstr s),b.data.toList.length≤s.length:=by
 intro k
 have h0:∀s:List UInt8,(bstr s).data.toList=s:=fun s=>rfl
 induction k with
 | zero =>
  intro s b hb
  rw[Lib.splitB_zero,List.mem_singleton] at hb
  rw[hb,h0];exact Nat.le_refl _
 | succ k ih =>
  intro s b hb
  have e1:Lib.indexB (bstr s) (bstr [c])=Lib.indexByte s c:=Lib.index_one s c
  rcases d0W s c with ⟨hi,hsp⟩ | ⟨i,hir,hi,hsp⟩
  ·rw[Lib.splitB_miss _ _ _ _ (by rw[e1,hi]),List.mem_singleton] at hb
   rw[hb,h0];exact Nat.le_refl _
  ·rw[Lib.splitB_hit _ _ _ _ i (by rw[e1,hi]),List.mem_cons] at hb
   rcases hb with hb | hb
   ·rw[hb,a0y,h0,List.length_take,List.length_drop];omega
   ·have e2:(bstr s).extract (i+(bstr [c]).size) (bstr s).size=bstr (s.drop (i+1)):=by
     rw[show (bstr [c]).size=1 from rfl,a0f,a0y,List.take_of_length_le (by rw[List.length_drop];omega)]
    rw[e2] at hb
    have:=ih _ b hb
    rw[List.length_drop] at this;omega
theorem o0O (s:List UInt8):∃ps:List (List UInt8),Lib.splitB (bstr [44]) 0 (min 33 (s.length+1) - 1) (bstr s)=ps.map bstr∧c0g s=(if c0J ps=true then some ps else none)∧(∀p∈ps,p.length≤s.length)∧ps.length≤min 33 (s.length+1):=by
 have hle:s.count 44≤s.length:=List.count_le_length
 have hlen:=x0h 44 (min 33 (s.length+1) - 1) s
 by_cases h:s.count 44≤32
 ·have e:=k0A 44 (min 33 (s.length+1) - 1) s (by omega)
  rw[e,List.length_map] at hlen
  exact⟨a0h 44 s,e,rfl,d0w 44 s,by omega⟩
 ·have h33:=q0m 44 32 s (by omega)
  rw[←show min 33 (s.length+1) - 1=32 by omega] at h33
  have hp:=o0M 44 (min 33 (s.length+1) - 1) s
  generalize Lib.splitB (bstr [44]) 0 (min 33 (s.length+1) - 1) (bstr s)=bs at *
  refine⟨bs.map (fun b=>b.data.toList),?_,?_,?_,?_⟩
  ·rw[List.map_map]
   conv=>lhs;rw[←List.map_id bs]
   exact List.map_congr_left fun b _=>by obtain⟨⟨l⟩⟩:=b;rfl
  ·have e1:c0J (a0h 44 s)=false:=by
    unfold c0J
    rw[o0N,decide_eq_false (by omega:¬s.count 44+1≤32),Bool.and_false];rfl
   have e2:c0J (bs.map (fun b=>b.data.toList))=false:=by
    unfold c0J
    rw[List.length_map,decide_eq_false (by omega:¬bs.length≤32),Bool.and_false];rfl
   unfold c0g
   rw[e1,e2];rfl
  ·intro p hq
   obtain⟨b,hb,rfl⟩:=List.mem_map.1 hq
   exact hp b hb
  ·rw[List.length_map];omega
def puX (l:List UInt8):Nat:=match Lib.parseUintB 64 l with
 | .ok v=>v
 | .range=>18446744073709551615
 | _=>0
theorem w0o:∀(l:List UInt8) (acc v:Nat),acc≤18446744073709551615→Lib.parseUintM 18446744073709551615 acc l=.ok v→v≤18446744073709551615:=by
 intro l
 induction l with
 | nil =>
  intro acc v ha h
  rw[Lib.parseUintM] at h
  injection h with h
  omega
 | cons c r ih =>
  intro acc v ha h
  rw[Lib.parseUintM] at h
  split at h
  ·split at h
   ·cases h
   ·split at h
    ·cases h
    ·exact ih _ _ (by omega) h
  ·cases h
theorem a1o (l:List UInt8):puX l < 18446744073709551616:=by
 unfold puX
 cases h:Lib.parseUintB 64 l with
 | ok v =>
  show v < _
  unfold Lib.parseUintB at h
  split at h
  ·cases h
  ·have:=w0o l 0 v (by omega) h
   omega
 | range=>show 18446744073709551615 < _;omega
 | _=>show 0 < _;omega
theorem s0j (s:List UInt8):∀n v,b0U 10 n s=some v→n≤v:=by
 induction s with
 | nil=>intro n v h;cases h;omega
 | cons c s ih =>
  intro n v h
  rw[b0U] at h
  split at h
  ·cases h
  ·have:=ih _ _ h;omega
theorem c1q (c:UInt8) (h:0≤digI 10 c):48≤c.toNat∧c.toNat≤57∧(digI 10 c).toNat=c.toNat - 48:=by
 have hb:=l0W 10 c
 have hx:=q0G 10 c h
 have hd:∀d:Nat,d < 10→(hexD d).toNat=d+48:=by
  have hh:∀d:Fin 10,(hexD d.1).toNat=d.1+48:=by decide
  intro d hd
  exact hh ⟨d,hd⟩
 have:=hd (digI 10 c).toNat (by omega)
 rw[hx] at this
 omega
theorem p0I (s:List UInt8):∀n v,b0U 10 n s=some v→v < 18446744073709551616→Lib.parseUintM 18446744073709551615 n s=.ok v:=by
 induction s with
 | nil=>intro n v h _;cases h;rfl
 | cons c s ih =>
  intro n v h hv
  rw[b0U] at h
  split at h
  ·cases h
  ·rename_i hd
   obtain⟨h1,h2,h3⟩:=c1q c (by omega)
   have hle:=s0j _ _ _ h
   rw[h3] at h hle
   rw[Lib.parseUintM,if_pos ⟨h1,h2⟩,if_neg (by omega),if_neg (by omega)]
   exact ih _ _ h hv
theorem b1M (n:Nat) (h:n < 18446744073709551616):puX (numL 10 n)=n:=by
 have e:Lib.parseUintB 64 (numL 10 n)=.ok n:=by
  unfold Lib.parseUintB
  rw[if_neg (f0P 10 n)]
  exact p0I _ 0 n (f0v 10 (by omega) (by omega) n) h
 unfold puX
 rw[e]
theorem w0a (s:List UInt8):a0F s=if numL 10 (puX s)=s then some (puX s) else none:=by
 by_cases h:numL 10 (puX s)=s
 ·rw[if_pos h]
  conv=>lhs;rw[←h]
  exact d0R _ (a1o s)
 ·rw[if_neg h]
  unfold a0F
  cases hv:a0M 10 20 s with
  | none=>rfl
  | some n =>
   show (if n < 2^64 then some n else none)=none
   rw[if_neg]
   intro hn
   have e:=((c0H 10 20 (by omega) (by omega) s n).1 hv).1
   rw[←e] at h
   exact h (by rw[b1M n hn])
end Go.Proofs.YtimdhdimhboboaaGreatDoor
namespace Go.Proofs.YtimdhdimhboboaaGreatDoor
set_option maxRecDepth 100000
open Go Go.RowKit
theorem x0I (s:List UInt8) (h0:s≠[]) (h:512 < s.length):b0X s=none:=by
 unfold b0X
 rw[if_neg h0,if_neg (fun k=>by omega)]
theorem x0J (s:List UInt8) (h0:s≠[]) (h:s.all inkB=false):b0X s=none:=by
 unfold b0X
 rw[if_neg h0,if_neg (fun k=>by rw[h] at k;cases k.2.1)]
theorem q0s (s:List UInt8) (h0:s≠[]) (hl:s.length≤512) (h:s.all inkB=true):b0X s=if (a0h 32 s).all (fun p=>decide (p≠[]))=true then some (a0h 32 s) else none:=by
 unfold b0X
 rw[if_neg h0]
 by_cases hk:(a0h 32 s).all (fun p=>decide (p≠[]))=true
 ·rw[if_pos ⟨hl,h,hk⟩,if_pos hk]
 ·rw[if_neg (fun k=>hk k.2.2),if_neg hk]
theorem k0V (s:List UInt8):(bstr s).toList.isEmpty=decide (s=[]):=by
 rw[a0n]
 cases s<;>rfl
open Go Go.RowKit Go.Lib
def EnvX (w:World):Prop:=∃m,w.cell? ⟨3,0,none⟩=some (.int .i64 m)
theorem g0k {w w':World} {B b o:Nat} {v:Value} (h:w.cell? ⟨b,o,none⟩=some v) (hB:w.heap.size≤B) (hb:Below B w w'):w'.cell? ⟨b,o,none⟩=some v:=by
 obtain⟨c,e,fr,hb',_⟩:=Go.Sort.cells_of_cell? h
 rw[hb.cell (Nat.lt_of_lt_of_le (Array.getElem?_eq_some_iff.1 hb').1 hB)]
 exact h
theorem EnvX.next {w w':World} (h:EnvX w) (hb:Below w.heap.size w w'):EnvX w':=by
 obtain⟨m,hm⟩:=h
 exact⟨m,g0k hm (Nat.le_refl _) hb⟩
theorem o0Q (x:Nat) (w:World):Calls Tryz.prog 65 #[.int .i32 x] w fun e w'=>e=.returned (.bool (b0O 32 126 x))∧Below w.heap.size w w':=by
 by_cases h1:x < 32
 ·have a1:(x:Int) < 32:=by omega
  have HV:b0O 32 126 x=true:=by unfold b0O;rw[decide_eq_true h1];rfl
  rw[HV]
  clear HV
  go_enter Tryz.func65,Tryz.ntmps65
  go_wp2
  go_ret
  exact⟨rfl,Below.refl _ _⟩
 ·have a1:decide ((x:Int) < 32)=false:=decide_eq_false (by omega)
  have HV:b0O 32 126 x=decide ((126:Int) < (x:Int)):=by unfold b0O;rw[decide_eq_false h1,Bool.false_or];exact decide_eq_decide.2 (by omega)
  rw[HV]
  clear HV h1
  go_enter Tryz.func65,Tryz.ntmps65
  go_wp2
  go_ret
  exact⟨rfl,Below.refl _ _⟩
theorem o0P (x:Nat) (w:World):Calls Tryz.prog 183 #[.int .i32 x] w fun e w'=>e=.returned (.bool (b0O 97 122 x))∧Below w.heap.size w w':=by
 by_cases h1:x < 97
 ·have a1:(x:Int) < 97:=by omega
  have HV:b0O 97 122 x=true:=by unfold b0O;rw[decide_eq_true h1];rfl
  rw[HV]
  clear HV
  go_enter Tryz.func183,Tryz.ntmps183
  go_wp2
  go_ret
  exact⟨rfl,Below.refl _ _⟩
 ·have a1:decide ((x:Int) < 97)=false:=decide_eq_false (by omega)
  have HV:b0O 97 122 x=decide ((122:Int) < (x:Int)):=by unfold b0O;rw[decide_eq_false h1,Bool.false_or];exact decide_eq_decide.2 (by omega)
  rw[HV]
  clear HV h1
  go_enter Tryz.func183,Tryz.ntmps183
  go_wp2
  go_ret
  exact⟨rfl,Below.refl _ _⟩
set_option maxHeartbeats 2000000 in
theorem x0L (s:List UInt8) (hs:s.length≤100000) (w:World):Calls Tryz.prog 138 #[.string (bstr s)] w fun e w'=>e=.returned (.bool (d0u s))∧Below w.heap.size w w':=by
 have hz:=a0f s
 have HV:=Lib.hid (l0m s)
 have hcf:=fun W=>Tryz.strings_ContainsFunc_grows 183 #[] (enters_of Tryz.func183 (by kernel_rfl) rfl) (b0O 97 122) (bstr s) W (fun W' x _ _=>o0P x W')
 rw[b1c] at hcf
 have HC:=Lib.hid hcf
 clear hcf
 generalize d0u s=V at *
 have e0:=k0V s
 by_cases h0:s=[]
 ·have HW:=Lib.hid (show V=false by rw[HV.out,h0];rfl)
  rw[decide_eq_true h0] at e0
  clear HV h0 HC
  go_enter Tryz.func138,Tryz.ntmps138
  go_wp2
  go_ret
  exact⟨by rw[HW.out];rfl,Below.refl _ _⟩
 rw[decide_eq_false h0] at e0
 have hpos:1≤s.length:=List.length_pos_iff.2 h0
 by_cases h2:16 < s.length
 ·have HW:=Lib.hid (show V=false by rw[HV.out,decide_eq_false (by omega:¬s.length≤16),Bool.and_false];rfl)
  have a2:decide ((s.length:Int)≤16)=false:=decide_eq_false (by omega)
  clear HV h0 HC
  go_enter Tryz.func138,Tryz.ntmps138
  go_wp2
  go_ret
  exact⟨by rw[HW.out];rfl,Below.refl _ _⟩
 have a2:(s.length:Int)≤16:=by omega
 have HW:=Lib.hid (show V=s.all lowB by rw[HV.out,decide_eq_true hpos,decide_eq_true (show s.length≤16 by omega)];rfl)
 clear HV h0 h2 hpos
 go_enter Tryz.func138,Tryz.ntmps138
 go_wp2_with (go_at_call 66;refine (HC.out _).mono ?_;rintro e w' ⟨rfl,hb⟩)
 go_ret
 exact⟨by rw[HW.out];simp,hb⟩
end Go.Proofs.YtimdhdimhboboaaGreatDoor
