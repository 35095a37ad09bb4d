import Derived.Test.YtcbilopdeiapjaaGreatDoorRgay
set_option maxHeartbeats 16000000
set_option maxRecDepth 100000
open Go.Proofs.Tryz
namespace Go.Proofs.YtcbilopdeiapjaaGreatDoor
open Go Go.RowKit
theorem b1f (a:Nat) (h:FinC a):a < 2^63:=by have:=h.2;omega
theorem n0W (a:Nat) (h:FinC a):nanC a=false∧decide (magC a=2047*2^52)=false:=by
 obtain⟨h1,h2⟩:=h
 have hm:magC a=a:=by unfold magC;omega
 unfold nanC
 rw[hm]
 exact⟨decide_eq_false (by omega),decide_eq_false (by omega)⟩
def s0y (a E r:Nat) (x:Int):Prop:=(x=0∧1≤E∧E≤2046∧r < 2^52∧a=E*2^52+r)∨(∃k,x=-52∧k≤52∧E=53 - k∧r < 2^52∧a < 2^52∧a*2^k=2^52+r)
theorem c1u (a:Nat) (h:FinC a):∃E r x,s0y a E r x:=by
 obtain⟨h1,h2⟩:=h
 by_cases hs:a < 2^52
 ·obtain⟨k,r,hk,hr,e⟩:=f1f a h1 (by omega)
  exact⟨53 - k,r,-52,.inr ⟨k,rfl,hk,rfl,hr,hs,e⟩⟩
 ·obtain⟨E,r,e1,e2,hr,e⟩:=c1B a (by omega) h2
  exact⟨E,r,0,.inl ⟨rfl,e1,e2,hr,e⟩⟩
theorem w0T (a E r:Nat) (x:Int) (h:s0y a E r x):1≤E∧E≤2046∧r < 2^52∧(x=0∨x=-52):=by
 rcases h with ⟨rfl,h1,h2,h3,-⟩ | ⟨k,rfl,hk,rfl,hr,-,-⟩
 ·exact⟨h1,h2,h3,.inl rfl⟩
 ·exact⟨by omega,by omega,hr,.inr rfl⟩
theorem t0F (a E r:Nat) (x:Int) (ha:FinC a) (h:s0y a E r x):oddC (2^52+r)=oddC (sigC a)∧(E:Int) - 1022+x - 53+a0Z (2^52+r)=powC a+a0Z (sigC a):=by
 rcases h with ⟨rfl,h1,h2,h3,rfl⟩ | ⟨k,rfl,hk,rfl,hr,hs,e⟩
 ·rw[r0X E r h1 h3,r0W E r h1 h3]
  exact⟨rfl,by omega⟩
 ·have hsig:sigC a=a:=by unfold sigC;rw[if_neg (by omega)];omega
  have hpow:powC a=-1074:=by unfold powC;rw[if_neg (by omega)]
  obtain⟨o1,o2⟩:=w0Y a k (by have:=ha.1;omega)
  rw[←e,o1,o2,hsig,hpow]
  exact⟨rfl,by omega⟩
theorem w0L (a E r:Nat) (x:Int) (ha:FinC a) (h:s0y a E r x) (w:World):Calls prog 257 #[.float .f64 a] w fun e w'=>e=.returned (.tuple #[.float .f64 (E*2^52+r),.int .i64 x])∧w=w':=by
 rcases h with ⟨rfl,h1,h2,h3,rfl⟩ | ⟨k,rfl,hk,rfl,hr,hs,e⟩
 ·exact k0w _ (by omega) (by omega) w
 ·exact q0q a k r hs hk hr e w
theorem w0H (a E r:Nat) (x:Int) (ha:FinC a) (h:s0y a E r x) (w:World):Calls prog 246 #[.float .f64 a] w fun e w'=>e=.returned (.tuple #[.float .f64 (1022*2^52+r),.int .i64 ((E:Int) - 1022+x)])∧w=w':=by
 obtain⟨h1,h2,hr,hx⟩:=w0T a E r x h
 obtain⟨p1,p2⟩:=n0W a ha
 have lt:=b1f a ha
 have hinf:=g0X a (by omega) w
 have hnan:=g0Y a (by omega) w
 rw[p2] at hinf
 rw[p1] at hnan
 have hn':=w0L a E r x ha h w
 have hinf:=f1D hinf
 have hnan:=f1D hnan
 have o:FloatKind.f64.format.order a 0=some .gt:=j0B a 0 (by have:=ha.2;omega) (by omega) ha.1
 have e1:((E*2^52+r:Nat):Int)/4503599627370496=(E:Int):=by omega
 have e2:=z0d E (by omega)
 have e3:IntKind.i64.wrap (E:Int)=(E:Int):=by rw[IntKind.wrap_i64];omega
 have e4:=n0H (E*2^52+r) (by omega)
 rw[r0U E r hr] at e4
 obtain⟨Y,hY⟩:∃Y,Y=E*2^52+r:=⟨_,rfl⟩
 rw[←hY] at hn' e1 e4
 have hn:=f1D hn'
 have e5:bits .or .u64 (r:Int) 4602678819172646912=((1022*2^52+r:Nat):Int):=m0u r 1022 hr (by omega)
 obtain⟨Z,hZ⟩:∃Z,Z=1022*2^52+r:=⟨_,rfl⟩
 rw[←hZ] at e5 ⊢
 obtain⟨D,hD⟩:∃D:Int,D=(E:Int) - 1022+x:=⟨_,rfl⟩
 rw[←hD]
 have ex:IntKind.i64.wrap ((E:Int) - 1023)=(E:Int) - 1023:=by rw[IntKind.wrap_i64];omega
 have ey:IntKind.i64.wrap ((E:Int) - 1023+1)=(E:Int) - 1023+1:=by rw[IntKind.wrap_i64];omega
 have ez:IntKind.i64.wrap (x+((E:Int) - 1023+1))=D:=by rw[IntKind.wrap_i64];omega
 clear h p1 p2 lt ha h1 h2 hr hx hD hY hZ hn'
 go_enter func246,ntmps246
 go_wp2_with (first
  | (go_at_call 154;refine hinf.out.mono ?_;rintro e w' ⟨rfl,rfl⟩)
  | (go_at_call 153;refine hnan.out.mono ?_;rintro e w' ⟨rfl,rfl⟩)
  | (go_at_call 257;refine hn.out.mono ?_;rintro e w' ⟨rfl,rfl⟩))
 go_ret2
 exact⟨rfl,rfl⟩
theorem t0w (a E r:Nat) (x:Int) (ha:FinC a) (h:s0y a E r x) (w:World):Calls prog 210 #[.float .f64 a] w fun e w'=>e=.returned (.tuple #[.float .f64 (1022*2^52+r),.int .i64 ((E:Int) - 1022+x)])∧w=w':=by
 have hf:=f1D (w0H a E r x ha h w)
 clear h
 go_enter func210,ntmps210
 go_wp2_with (go_at_call 246;refine hf.out.mono ?_;rintro e w' ⟨rfl,rfl⟩)
 go_ret2
 exact⟨rfl,rfl⟩
theorem s0F (E:Nat) (hE:E < 2048):bits .and .i64 (E:Int) 2047=(E:Int):=by
 show IntKind.i64.wrap ((BitVec.ofInt 64 (E:Int) &&& BitVec.ofInt 64 2047).toNat:Int)=_
 rw[BitVec.ofInt_natCast,BitVec.toNat_and,BitVec.toNat_ofNat,Nat.mod_eq_of_lt (by omega),show (BitVec.ofInt 64 2047).toNat=2^11 - 1 by decide,Nat.and_two_pow_sub_one_eq_mod,Nat.mod_eq_of_lt (by omega),IntKind.wrap_i64]
 omega
theorem w0K (k r:Nat) (p:Int) (hk:k≤52) (hr:r < 2^52) (hp1:-4096≤p) (hp2:p≤4096) (w:World):Calls prog 244 #[.float .f64 ((1075 - k)*2^52+r),.int .i64 p] w fun e w'=>e=.returned (.float .f64 (ldC k r p))∧w=w':=by
 obtain⟨E,hE⟩:∃E,E=1075 - k:=⟨_,rfl⟩
 rw[←hE]
 obtain⟨F,hF⟩:∃F,F=E*2^52+r:=⟨_,rfl⟩
 rw[←hF]
 have hfin:FinC F:=hF ▸ r0T E r (by omega) (by omega) hr
 obtain⟨p1,p2⟩:=n0W F hfin
 have lt:=b1f F hfin
 have hinf:=g0X F (by omega) w
 have hnan:=g0Y F (by omega) w
 rw[p2] at hinf
 rw[p1] at hnan
 have hn:=f1D (k0w F (by omega) (by omega) w)
 have hinf:=f1D hinf
 have hnan:=f1D hnan
 have hcop:=f1D (t0v F (by omega) w)
 have hI:=f1D (m0F w)
 have o:FloatKind.f64.format.order F 0=some .gt:=j0B F 0 (by have:=hfin.2;omega) (by omega) hfin.1
 have e1:(F:Int)/4503599627370496=(E:Int):=by omega
 have e2:=s0F E (by omega)
 have e3:IntKind.i64.wrap (E:Int)=(E:Int):=by rw[IntKind.wrap_i64];omega
 have e4:=n0H F (by omega)
 rw[show F%2^52=r by omega] at e4
 obtain⟨q,hq⟩:∃q,q=p+52 - (k:Int):=⟨_,rfl⟩
 have ex:IntKind.i64.wrap ((E:Int) - 1023)=(E:Int) - 1023:=by rw[IntKind.wrap_i64];omega
 have ey:IntKind.i64.wrap (p+((E:Int) - 1023))=q:=by rw[IntKind.wrap_i64];omega
 have ep:IntKind.i64.wrap p=p:=by rw[IntKind.wrap_i64];omega
 obtain⟨V,hV⟩:∃V,V=ldC k r p:=⟨_,rfl⟩
 rw[←hV]
 unfold ldC at hV
 rw[←hq] at hV
 have HV:=f1D hV
 have hqb:-5000≤q∧q≤5000:=by omega
 clear hV p1 p2 lt hfin
 by_cases c1:q < -1075
 ·have HW:=f1D (HV.out.trans (if_pos c1))
  clear HV hF hE hq hk hp1 hp2 hr hqb
  go_enter func244,ntmps244
  go_wp2_with (first
   | (go_at_call 154;refine hinf.out.mono ?_;rintro e w' ⟨rfl,rfl⟩)
   | (go_at_call 153;refine hnan.out.mono ?_;rintro e w' ⟨rfl,rfl⟩)
   | (go_at_call 80;refine hcop.out.mono ?_;rintro e w' ⟨rfl,rfl⟩)
   | (go_at_call 257;refine hn.out.mono ?_;rintro e w' ⟨rfl,rfl⟩))
  go_ret
  exact⟨by rw[HW.out];rfl,rfl⟩
 ·have HW:=f1D (HV.out.trans (if_neg c1))
  clear HV
  have c1:-1075≤q:=by omega
  by_cases c2:1023 < q
  ·have HX:=f1D (HW.out.trans (if_pos c2))
   clear HW hF hE hq hk hp1 hp2 hr hqb
   go_enter func244,ntmps244
   go_wp2_with (first
    | (go_at_call 154;refine hinf.out.mono ?_;rintro e w' ⟨rfl,rfl⟩)
    | (go_at_call 153;refine hnan.out.mono ?_;rintro e w' ⟨rfl,rfl⟩)
    | (go_at_call 81;refine hI.out.mono ?_;rintro e w' ⟨rfl,rfl⟩)
    | (go_at_call 257;refine hn.out.mono ?_;rintro e w' ⟨rfl,rfl⟩))
   go_ret
   exact⟨by rw[HX.out];rfl,rfl⟩
  ·have HX:=f1D (HW.out.trans (if_neg c2))
   clear HW
   have c2:q≤1023:=by omega
   by_cases c3:q < -1022
   ·have HY:=f1D (HX.out.trans (if_pos c3))
    obtain⟨G,hG⟩:∃G,G=(q+1076).toNat:=⟨_,rfl⟩
    rw[←hG] at HY
    have f1:IntKind.i64.wrap (q+53)=q+53:=by rw[IntKind.wrap_i64];omega
    have f2:IntKind.i64.wrap (q+53+1023)=(G:Int):=by rw[IntKind.wrap_i64];omega
    have f3:IntKind.u64.wrap (G:Int)=(G:Int):=by rw[IntKind.wrap_u64];omega
    have f4:IntKind.u64.wrap ((G:Int)*4503599627370496)=(((G*2^52:Nat)):Int):=by rw[IntKind.wrap_u64];omega
    have e5:=m0u r G hr (by omega)
    have hml:∀w',(binOp .mul 70 (.float .f64 4368491638549381120) (.float .f64 (G*2^52+r))).run prog w'=.ok (.float .f64 (lowC G r)) w':=fun w'=>run_float_arith w' .mul _ .f64 _ _ _ (c1r G r (by omega) (by omega) hr)
    obtain⟨X,hX⟩:∃X,X=G*2^52:=⟨_,rfl⟩
    rw[←hX] at e5 f4
    obtain⟨Y,hY⟩:∃Y,Y=X+r:=⟨_,rfl⟩
    rw[←hX,←hY] at hml
    rw[←hY] at e5
    clear HX hF hE hq hk hp1 hp2 hqb hr hG hX hY
    go_enter func244,ntmps244
    go_wp2_with (first
     | (go_at_call 154;refine hinf.out.mono ?_;rintro e w' ⟨rfl,rfl⟩)
     | (go_at_call 153;refine hnan.out.mono ?_;rintro e w' ⟨rfl,rfl⟩)
     | (go_at_call 257;refine hn.out.mono ?_;rintro e w' ⟨rfl,rfl⟩))
    go_ret
    exact⟨by rw[HY.out];rfl,rfl⟩
   ·have HY:=f1D (HX.out.trans (if_neg c3))
    obtain⟨G,hG⟩:∃G,G=(q+1023).toNat:=⟨_,rfl⟩
    have HY:=HY.out
    rw[←hG] at HY
    have f2:IntKind.i64.wrap (q+1023)=(G:Int):=by rw[IntKind.wrap_i64];omega
    have f3:IntKind.u64.wrap (G:Int)=(G:Int):=by rw[IntKind.wrap_u64];omega
    have f4:IntKind.u64.wrap ((G:Int)*4503599627370496)=(((G*2^52:Nat)):Int):=by rw[IntKind.wrap_u64];omega
    have e5:=m0u r G hr (by omega)
    have hml:∀w',(binOp .mul 70 (.float .f64 4607182418800017408) (.float .f64 (G*2^52+r))).run prog w'=.ok (.float .f64 (G*2^52+r)) w':=fun w'=>run_float_arith w' .mul _ .f64 _ _ _ (o0H G r (by omega) (by omega) hr)
    obtain⟨X,hX⟩:∃X,X=G*2^52:=⟨_,rfl⟩
    rw[←hX] at e5 f4
    obtain⟨Y,hY⟩:∃Y,Y=X+r:=⟨_,rfl⟩
    rw[←hX,←hY] at hml HY
    rw[←hY] at e5
    have HY:=f1D HY
    have c3:-1022≤q:=by omega
    clear HX hF hE hq hk hp1 hp2 hqb hr hG hX hY
    go_enter func244,ntmps244
    go_wp2_with (first
     | (go_at_call 154;refine hinf.out.mono ?_;rintro e w' ⟨rfl,rfl⟩)
     | (go_at_call 153;refine hnan.out.mono ?_;rintro e w' ⟨rfl,rfl⟩)
     | (go_at_call 257;refine hn.out.mono ?_;rintro e w' ⟨rfl,rfl⟩))
    go_ret
    exact⟨by rw[HY.out];rfl,rfl⟩
theorem s0R (b:Nat) (hb:b < 2^64) (w:World) (hE:EnvC w):Calls prog 152 #[.float .f64 b] w fun e w'=>e=.returned (.tuple #[.bool (f0q b).1,.int .u64 ((f0q b).2.1:Int),.int .i64 (f0q b).2.2])∧Below w.heap.size w w':=by
 have hnan:=g0Y b hb w
 have hinf:=g0X b hb w
 have hsgn:=f1D (w0M b hb w)
 obtain⟨V,hV⟩:∃V,V=f0q b:=⟨_,rfl⟩
 rw[←hV]
 have HV:=f1D hV
 clear hV
 cases hn:nanC b with
 | true =>
  rw[hn] at hnan
  have hnan:=f1D hnan
  have HW:=f1D (HV.out.trans (k0G b hn))
  clear HV hn hinf hsgn
  go_enter func152,ntmps152
  go_wp2_with (go_at_call 153;refine hnan.out.mono ?_;rintro e w' ⟨rfl,rfl⟩)
  go_ret3
  exact⟨by rw[HW.out];rfl,Below.refl _ _⟩
 | false =>
  rw[hn] at hnan
  have hnan:=f1D hnan
  by_cases h0:magC b=0
  ·have o:=l0O b hb hn h0
   have HW:=f1D (HV.out.trans (d0f b hn (.inr h0)))
   clear HV hn hinf h0
   generalize negC b=g at *
   go_enter func152,ntmps152
   go_wp2_with (first
    | (go_at_call 153;refine hnan.out.mono ?_;rintro e w' ⟨rfl,rfl⟩)
    | (go_at_call 209;refine hsgn.out.mono ?_;rintro e w' ⟨rfl,rfl⟩))
   go_ret3
   exact⟨by rw[HW.out];rfl,Below.refl _ _⟩
  ·have o1:=k0z b hb hn h0
   by_cases h1:magC b=2047*2^52
   ·rw[decide_eq_true h1] at hinf
    have hinf:=f1D hinf
    have HW:=f1D (HV.out.trans (d0f b hn (.inl h1)))
    clear HV hn h0 h1
    generalize negC b=g at *
    rcases o1 with o | o
    all_goals
     go_enter func152,ntmps152
     go_wp2_with (first
      | (go_at_call 153;refine hnan.out.mono ?_;rintro e w' ⟨rfl,rfl⟩)
      | (go_at_call 154;refine hinf.out.mono ?_;rintro e w' ⟨rfl,rfl⟩)
      | (go_at_call 209;refine hsgn.out.mono ?_;rintro e w' ⟨rfl,rfl⟩))
     go_ret3
     exact⟨by rw[HW.out];rfl,Below.refl _ _⟩
   ·rw[decide_eq_false h1] at hinf
    have hinf:=f1D hinf
    have hp:=g0F b hn (by rintro (h | h);exact h1 h;exact h0 h)
    have hfin:FinC (magC b):=by
     have hl:¬2047*2^52 < magC b:=of_decide_eq_false (show decide (2047*2^52 < magC b)=false from hn)
     unfold FinC;omega
    have habs:=f1D (j0v b hb w)
    generalize magC b=a at *
    obtain⟨E,r,x,hN⟩:=c1u a hfin
    obtain⟨b1,b2,b3,b4⟩:=w0T a E r x hN
    obtain⟨q1,q2⟩:=t0F a E r x hfin hN
    have hfr:=t0w a E r x hfin hN w
    rw[←q1,←q2] at hp
    have HW:=f1D (HV.out.trans hp)
    obtain⟨Z,hZ⟩:∃Z,Z=1022*2^52+r:=⟨_,rfl⟩
    obtain⟨Y,hY⟩:∃Y,Y=1075*2^52+r:=⟨_,rfl⟩
    obtain⟨M,hM⟩:∃M,M=2^52+r:=⟨_,rfl⟩
    have hmul:∀w',(binOp .mul 70 (.float .f64 Z) (.float .f64 4845873199050653696)).run prog w'=.ok (.float .f64 Y) w':=fun w'=>run_float_arith w' .mul _ .f64 _ _ _ (by rw[hZ,hY];exact z0V r b3)
    have hcv:∀w',(convert 70 26 (.float .f64 Y)).run prog w'=.ok (.int .u64 (M:Int)) w':=fun w'=>run_convert_float_int w' _ _ .f64 .u64 Y (M:Int) (by kernel_rfl) underlying26 (by rw[hY,hM];exact f1a r b3)
    have htz:=f1b M (by omega) (by omega) w hE.tz
    obtain⟨c1,c2⟩:=d0V M (by omega)
    have ht:a0Z M≤53:=l0h M 53 (by omega) (by omega)
    rw[←hZ] at hfr
    rw[←hM] at HW
    have hfr:=f1D hfr
    have htz:=f1D htz
    generalize oddC M=m at *
    generalize a0Z M=t at *
    have hmin:min t 64=t:=by omega
    have hsh:((M:Nat):Int)/2^t=(m:Int):=by
     rw[c2,Int.natCast_mul,Int.natCast_pow]
     exact Int.mul_ediv_cancel _ (by have:=Nat.pow_pos (n:=t) (show 0 < 2 by omega);omega)
    obtain⟨P,hP⟩:∃P:Int,P=(E:Int) - 1022+x:=⟨_,rfl⟩
    rw[←hP] at hfr HW
    have w1:IntKind.i64.wrap (P - 53)=P - 53:=by rw[IntKind.wrap_i64];omega
    have w2:IntKind.i64.wrap (P - 53+(t:Int))=P - 53+(t:Int):=by rw[IntKind.wrap_i64];omega
    clear HV hn h0 h1 hp hfin hN b1 b2 b3 b4 q1 q2 hZ hY hM c1 c2 ht hP
    rcases o1 with o | o
    all_goals
     go_enter func152,ntmps152
     go_wp2_with (first
      | (go_at_call 153;refine hnan.out.mono ?_;rintro e w' ⟨rfl,rfl⟩)
      | (go_at_call 154;refine hinf.out.mono ?_;rintro e w' ⟨rfl,rfl⟩)
      | (go_at_call 211;refine habs.out.mono ?_;rintro e w' ⟨rfl,rfl⟩)
      | (go_at_call 210;refine hfr.out.mono ?_;rintro e w' ⟨rfl,rfl⟩)
      | (go_at_call 212;refine htz.out.mono ?_;rintro e w' ⟨rfl,rfl⟩)
      | (go_at_call 209;refine hsgn.out.mono ?_;rintro e w' ⟨rfl,rfl⟩))
     go_region
     go_wp2
     go_ret3
     exact⟨by rw[HW.out];rfl,(Below.refl _ _).drew⟩
theorem v0C (b:Nat) (hb:b < 2^64) (w:World) (hE:EnvC w):Calls prog 110 #[.float .f64 b] w fun e w'=>e=.returned (.string (bstr (b0N b)))∧Below w.heap.size w w':=by
 have hpt:=s0R b hb w hE
 have hnan:=fun w'=>g0Y b hb w'
 have hinf:=fun w'=>g0X b hb w'
 cases hn:nanC b with
 | true =>
  rw[hn] at hnan
  rw[k0G b hn] at hpt
  have HF:=f1D (fun w' (h:EnvC w')=>i0z 0 (by omega) w' h.pow)
  have HP:=f1D hpt
  have hnan:=f1D hnan
  have HW:=f1D (j0K b hn)
  generalize numL 10 0=X at *
  clear hn hpt hinf
  go_enter func110,ntmps110
  go_wp2_with (first
   | (go_at_call 152;refine HP.out.mono ?_;rintro e w1 ⟨rfl,hb1⟩;have hE1:=hE.next hb1)
   | (go_at_call 101;refine (HF.out _ hE1).mono ?_;rintro e w2 ⟨rfl,hb2⟩;have hb2:=hb1.trans (hb2.mono hb1.size);have hE2:=hE.next hb2)
   | (go_at_call 153;refine (hnan.out _).mono ?_;rintro e w' ⟨rfl,rfl⟩))
  go_ret
  exact⟨by rw[HW.out];rfl,hb2⟩
 | false =>
  rw[hn] at hnan
  have hnan:=f1D hnan
  by_cases h0:magC b=0
  ·have HW:=f1D (show b0N b=(if negC b then [45] else [])++[48] by rw[h0I b hn,h0];rfl)
   rw[d0f b hn (.inr h0)] at hpt
   rw[decide_eq_false (by rw[h0];omega)] at hinf
   have hinf:=f1D hinf
   have HF:=f1D (fun w' (h:EnvC w')=>i0z 0 (by omega) w' h.pow)
   rw[show numL 10 0=[48] from a0S 10 0 (by omega)] at HF
   have HP:=f1D hpt
   clear hpt hn h0
   cases hg:negC b
   all_goals
    rw[hg] at HP HW
    clear hg
    go_enter func110,ntmps110
    go_wp2_with (first
     | (go_at_call 152;refine HP.out.mono ?_;rintro e w1 ⟨rfl,hb1⟩;have hE1:=hE.next hb1)
     | (go_at_call 101;refine (HF.out _ hE1).mono ?_;rintro e w2 ⟨rfl,hb2⟩;have hb2:=hb1.trans (hb2.mono hb1.size);have hE2:=hE.next hb2)
     | (go_at_call 153;refine (hnan.out _).mono ?_;rintro e w' ⟨rfl,rfl⟩)
     | (go_at_call 154;refine (hinf.out _).mono ?_;rintro e w' ⟨rfl,rfl⟩))
    go_ret
    exact⟨by rw[HW.out];rfl,hb2⟩
  ·by_cases hi:magC b=2047*2^52
   ·have HW:=f1D (show b0N b=(if negC b then [45] else [])++[105,110,102] by rw[h0I b hn,hi];rfl)
    rw[d0f b hn (.inl hi)] at hpt
    rw[decide_eq_true hi] at hinf
    have hinf:=f1D hinf
    have HF:=f1D (fun w' (h:EnvC w')=>i0z 0 (by omega) w' h.pow)
    generalize numL 10 0=X at *
    have HP:=f1D hpt
    clear hpt hn h0 hi
    cases hg:negC b
    all_goals
     rw[hg] at HP HW
     clear hg
     go_enter func110,ntmps110
     go_wp2_with (first
      | (go_at_call 152;refine HP.out.mono ?_;rintro e w1 ⟨rfl,hb1⟩;have hE1:=hE.next hb1)
      | (go_at_call 101;refine (HF.out _ hE1).mono ?_;rintro e w2 ⟨rfl,hb2⟩;have hb2:=hb1.trans (hb2.mono hb1.size);have hE2:=hE.next hb2)
      | (go_at_call 153;refine (hnan.out _).mono ?_;rintro e w' ⟨rfl,rfl⟩)
      | (go_at_call 154;refine (hinf.out _).mono ?_;rintro e w' ⟨rfl,rfl⟩))
     go_ret
     exact⟨by rw[HW.out];rfl,hb2⟩
   ·obtain⟨b1,b2,b3,b4⟩:=i0y b hn h0 hi
    have hT:=show b0N b=(if negC b then [45] else [])++(numL 10 (oddC (sigC (magC b)))++112 :: intL (powC (magC b)+a0Z (sigC (magC b)))) by rw[h0I b hn,m0v _ h0 hi]
    rw[g0F b hn (by rintro (h | h);exact hi h;exact h0 h)] at hpt
    rw[decide_eq_false hi] at hinf
    have hinf:=f1D hinf
    generalize oddC (sigC (magC b))=m at *
    generalize powC (magC b)+(a0Z (sigC (magC b)):Int)=P at *
    have HF:=f1D (fun w' (h:EnvC w')=>i0z m (by omega) w' h.pow)
    have HI:=f1D (fun w' (h:EnvC w')=>z0J P (by omega) (by omega) w' h)
    have hX:=b0k 10 (by omega) 20 m (by omega)
    have hY:(intL P).length≤22:=by
     have:=b0k 10 (by omega) 20 P.natAbs (by omega)
     unfold intL
     split
     ·rw[List.length_cons];omega
     ·omega
    have hzX:=a0c (numL 10 m)
    have hzY:=a0c (intL P)
    have hm0:((m:Int) != 0)=true:=by rw[bne_iff_ne];omega
    have HP:=f1D hpt
    have HT:=f1D hT
    clear hpt hn h0 hi hT b1 b2 b3 b4
    generalize intL P=I at *
    generalize numL 10 m=X at *
    cases hg:negC b with
    | true =>
     rw[hg] at HP HT
     clear hg
     go_enter func110,ntmps110
     go_wp2_with (first
      | (go_at_call 152;refine HP.out.mono ?_;rintro e w1 ⟨rfl,hb1⟩;have hE1:=hE.next hb1)
      | (go_at_call 101;refine (HF.out _ hE1).mono ?_;rintro e w2 ⟨rfl,hb2⟩;have hb2:=hb1.trans (hb2.mono hb1.size);have hE2:=hE.next hb2)
      | (go_at_call 153;refine (hnan.out _).mono ?_;rintro e w' ⟨rfl,rfl⟩)
      | (go_at_call 154;refine (hinf.out _).mono ?_;rintro e w' ⟨rfl,rfl⟩)
      | (go_at_call 150;refine (HI.out _ hE2).mono ?_;rintro e w3 ⟨rfl,hb3⟩;have hb3:=hb2.trans (hb3.mono hb2.size)))
     go_ret
     exact⟨by rw[HT.out];show Ending.returned (.string (bstr [45]++(bstr X++(bstr [112]++bstr I))))=_;rw[a0x,a0x,a0x];rfl,hb3⟩
    | false =>
     rw[hg] at HP HT
     clear hg
     go_enter func110,ntmps110
     go_wp2_with (first
      | (go_at_call 152;refine HP.out.mono ?_;rintro e w1 ⟨rfl,hb1⟩;have hE1:=hE.next hb1)
      | (go_at_call 101;refine (HF.out _ hE1).mono ?_;rintro e w2 ⟨rfl,hb2⟩;have hb2:=hb1.trans (hb2.mono hb1.size);have hE2:=hE.next hb2)
      | (go_at_call 153;refine (hnan.out _).mono ?_;rintro e w' ⟨rfl,rfl⟩)
      | (go_at_call 154;refine (hinf.out _).mono ?_;rintro e w' ⟨rfl,rfl⟩)
      | (go_at_call 150;refine (HI.out _ hE2).mono ?_;rintro e w3 ⟨rfl,hb3⟩;have hb3:=hb2.trans (hb3.mono hb2.size)))
     go_ret
     exact⟨by rw[HT.out];show Ending.returned (.string (bstr X++(bstr [112]++bstr I)))=_;rw[a0x,a0x];rfl,hb3⟩
theorem q0p (p:Int) (w:World):Calls prog 244 #[.float .f64 0,.int .i64 p] w fun e w'=>e=.returned (.float .f64 0)∧w=w':=by
 have o:FloatKind.f64.format.order 0 0=some .eq:=by decide +kernel
 go_enter func244,ntmps244
 go_wp2
 go_ret
 exact⟨rfl,rfl⟩
def u0V (n:Nat) (p:Int) (x:Nat):Prop:=x < 2^64∧(n=0→x=0)∧∀a,FinC a→oddC (sigC a)=n→powC a+a0Z (sigC a)=p→x=a
theorem t0y (n:Nat) (p:Int) (hn:n < 2^53) (h1:-4096≤p) (h2:p≤4096) (w:World):Calls prog 208 #[.float .f64 (floatOfInt .f64 (n:Int)),.int .i64 p] w fun e w'=>∃x,e=.returned (.float .f64 x)∧u0V n p x∧w=w':=by
 have hin:∃x,u0V n p x∧Calls prog 244 #[.float .f64 (floatOfInt .f64 (n:Int)),.int .i64 p] w fun e w'=>e=.returned (.float .f64 x)∧w=w':=by
  by_cases h0:n=0
  ·subst h0
   refine⟨0,⟨by omega,fun _=>rfl,fun a hf ho _=>?_⟩,?_⟩
   ·have:=(d0V (sigC a) (by have:=h0G a hf;omega)).1
    rw[ho] at this
    exact absurd this (by omega)
   ·rw[show floatOfInt .f64 ((0:Nat):Int)=0 from c1z]
    exact q0p p w
  ·obtain⟨k,r,hk,hr,e⟩:=f1f n (by omega) hn
   refine⟨ldC k r p,⟨f1l k r p hr,fun h=>absurd h h0,fun a hf ho hp=>z0O n k r a p hk hr e hf ho hp⟩,?_⟩
   rw[d1O n k r (by omega) hk hr e]
   exact w0K k r p hk hr h1 h2 w
 obtain⟨x,hx,hc⟩:=hin
 have hc:=f1D hc
 have hx:=f1D hx
 generalize floatOfInt .f64 (n:Int)=Y at *
 go_enter func208,ntmps208
 go_wp2_with (go_at_call 244;refine hc.out.mono ?_;rintro e w' ⟨rfl,rfl⟩)
 go_ret
 exact⟨x,rfl,hx.out,rfl⟩
theorem z0G (t u:List UInt8) (h:(112:UInt8)∉t):Lib.index (t++112 :: u) [112]=t.length:=by
 induction t with
 | nil=>rfl
 | cons c t ih =>
  have hc:c≠112:=fun e=>h (by rw[e];exact List.mem_cons_self ..)
  have ih:=ih (fun hm=>h (List.mem_cons_of_mem _ hm))
  rw[List.cons_append,Lib.index,if_neg (by simp[List.isPrefixOf,Ne.symm hc]),ih,if_neg (by rw[beq_iff_eq];omega),List.length_cons]
  omega
theorem d1r (t u:List UInt8) (h:(112:UInt8)∉t):(Lib.cut (t++112 :: u) [112]).1=t∧(Lib.cut (t++112 :: u) [112]).2.1=u:=by
 unfold Lib.cut
 rw[z0G t u h,if_pos (by omega)]
 constructor
 ·show (t++112 :: u).take ((t.length:Int)).toNat=t
  rw[Int.toNat_natCast,List.take_left]
 ·show (t++112 :: u).drop (((t.length:Int)).toNat+1)=u
  rw[Int.toNat_natCast,List.drop_append]
  simp
theorem v0I (s:List UInt8):(Lib.cut s [112]).1.length≤s.length∧(Lib.cut s [112]).2.1.length≤s.length:=by
 unfold Lib.cut
 split
 ·simp;omega
 ·simp
theorem u0f (s:List UInt8) (a:Nat) (h:g0k s=some a) (hi:s≠[105,110,102]) :
  (a=0∧(pmA 9007199254740991 (Lib.cut s [112]).1).1=0)∨(FinC a∧oddC (sigC a)=(pmA 9007199254740991 (Lib.cut s [112]).1).1∧powC a+a0Z (sigC a)=(piA (Lib.cut s [112]).2.1).1):=by
 unfold g0k at h
 by_cases h0:s=[48]
 ·rw[if_pos h0] at h
  cases h
  exact .inl ⟨rfl,by rw[h0];decide⟩
 ·rw[if_neg h0,if_neg hi] at h
  obtain⟨hf,e⟩:=(m0S s a).1 h
  obtain⟨g1,-⟩:=l0J a hf
  obtain⟨o1,o2⟩:=d0V (sigC a) (by have:=h0G a hf;omega)
  have hsl:sigC a < 2^53:=by rcases g1 with ⟨_,h,_⟩ | ⟨_,h,_,_⟩<;>omega
  have hpow:-1074≤powC a∧powC a≤971:=by rcases g1 with ⟨_,_,h⟩ | ⟨_,_,h,h'⟩<;>omega
  have ht:=l0h (sigC a) 53 (h0G a hf) hsl
  have hle:oddC (sigC a)≤oddC (sigC a)*2^a0Z (sigC a):=Nat.le_mul_of_pos_right _ (Nat.pow_pos (by omega))
  rw[←o2] at hle
  obtain⟨c1,c2⟩:=d1r (numL 10 (oddC (sigC a))) (intL (powC a+a0Z (sigC a))) (fun h=>(h0C _ _ h).2.1 rfl)
  rw[←e] at c1 c2
  refine .inr ⟨hf,?_,?_⟩
  ·rw[c1,b1m _ _ (by omega)]
  ·rw[c2,d1S _ (by omega) (by omega)]
theorem l0C (s:List UInt8) (hs:s.length≤1000) (w:World) (hE:EnvD w):Calls prog 151 #[.string (bstr s)] w fun e w'=>∃x,e=.returned (.float .f64 x)∧x < 2^64∧(∀a,g0k s=some a→x=a)∧(s=[]→x=0)∧Below w.heap.size w w':=by
 by_cases hi:s=[105,110,102]
 ·subst hi
  have he:((bstr [105,110,102]).toList==[105,110,102])=true:=by rw[a0p];rfl
  have hI:=f1D (m0F w)
  generalize hS:bstr [105,110,102]=S at *
  clear hS
  go_enter func151,ntmps151
  go_wp2_with (go_at_call 81;refine hI.out.mono ?_;rintro e w' ⟨rfl,rfl⟩)
  go_ret
  exact⟨_,rfl,by omega,fun a h=>by rw[show g0k [105,110,102]=some (2047*2^52) from rfl] at h;exact Option.some.inj h,(by simp),Below.refl _ _⟩
 ·have he:((bstr s).toList==[105,110,102])=false:=by rw[a0p];exact beq_eq_false_iff_ne.2 hi
  obtain⟨m,hm⟩:=hE.most
  have hz:=a0c s
  have hcut:=fun w' (hm:w'.cell? ⟨3,0,none⟩=some (.int .i64 m))=>Tryz.strings_Cut (bstr s) (bstr [112]) m w' (by omega) hm
  obtain⟨s1,s2⟩:=v0I s
  have hR:=f1D (fun a h=>u0f s a h hi)
  have hN:=f1D (show s=[]→(pmA 9007199254740991 (Lib.cut s [112]).1).1=0 by intro h;rw[h];decide)
  have hcut:Calls prog 105 #[.string (bstr s),.string ⟨#[112]⟩] w fun e w'=>e=.returned (.tuple #[.string (bstr (Lib.cut s [112]).1),.string (bstr (Lib.cut s [112]).2.1),.bool (Lib.cut s [112]).2.2])∧Below w.heap.size w w':=by
   refine (hcut w hm).mono ?_
   rintro e w' ⟨rfl,n,rfl⟩
   refine⟨rfl,?_⟩
   clear hR hN
   induction n with
   | zero=>exact Below.refl _ _
   | succ n ih=>exact ih.drew
  have hcut:=f1D hcut
  generalize (Lib.cut s [112]).1=t at *
  generalize (Lib.cut s [112]).2.1=u at *
  generalize (Lib.cut s [112]).2.2=f at *
  have hn1:=(i0c 9007199254740991 t).1
  obtain⟨p1,p2,-⟩:=s0a u
  have hpu:=f1D (fun w' (h:EnvD w')=>a1u t (by omega) w' h)
  have hpi:=f1D (fun w' (h:EnvD w')=>a1o u (by omega) w' h)
  generalize (pmA 9007199254740991 t).1=n at *
  generalize (piA u).1=p at *
  have hld:=f1D (fun w'=>t0y n p (by omega) (by omega) (by omega) w')
  clear hs s1 s2 hn1 p1 p2 hm
  generalize bstr s=S at *
  go_enter func151,ntmps151
  go_wp2_with (first
   | (go_at_call 105;refine hcut.out.mono ?_;rintro e w1 ⟨rfl,hb1⟩;have hE1:=hE.next hb1)
   | (go_at_call 100;refine (hpu.out _ hE1).mono ?_;rintro e w2 ⟨v2,rfl,hb2⟩;have hb2:=hb1.trans (hb2.mono hb1.size);have hE2:=hE.next hb2)
   | (go_at_call 207;refine (hpi.out _ hE2).mono ?_;rintro e w3 ⟨v3,rfl,hb3⟩;have hb3:=hb2.trans (hb3.mono hb2.size))
   | (go_at_call 208;refine (hld.out _).mono ?_;rintro e w4 ⟨x,rfl,hx,rfl⟩))
  go_ret
  refine⟨x,rfl,hx.1,fun a h=>?_,fun h=>hx.2.1 (hN.out h),hb3⟩
  rcases hR.out a h with ⟨rfl,h1⟩ | ⟨h1,h2,h3⟩
  ·exact hx.2.1 h1
  ·exact hx.2.2 a h1 h2 h3
theorem v0B (s:List UInt8) (hs:s.length≤1000) (w:World) (hE:EnvD w):Calls prog 109 #[.string (bstr s)] w fun e w'=>∃x,e=.returned (.float .f64 x)∧x < 2^64∧(∀c,b0t s=some c→x=c)∧(s=[]→x=0)∧Below w.heap.size w w':=by
 have hcp:=Tryz.strings_CutPrefix (bstr s) (bstr [45]) w
 by_cases hm:∃r,s=45 :: r
 ·obtain⟨r,rfl⟩:=hm
  have hcp:Calls prog 142 #[.string (bstr (45 :: r)),.string ⟨#[45]⟩] w fun e w'=>e=.returned (.tuple #[.string (bstr r),.bool true])∧w=w':=by
   refine hcp.mono ?_
   rintro e w' ⟨rfl,rfl⟩
   exact⟨rfl,rfl⟩
  have hcp:=f1D hcp
  have hrs:=f1D (l0C r (by rw[List.length_cons] at hs;omega) w hE)
  have hco:=f1D (fun x hx w'=>w0G x hx w')
  have hP:=f1D (show b0t (45 :: r)=(g0k r).map (2^63 + ·) from rfl)
  have hne:(45 :: r)≠[]:=by simp
  generalize 45 :: r=s at *
  clear hs
  generalize bstr s=S at *
  go_enter func109,ntmps109
  go_wp2_with (first
   | (go_at_call 142;refine hcp.out.mono ?_;rintro e w' ⟨rfl,rfl⟩)
   | (go_at_call 151;refine hrs.out.mono ?_;rintro e w1 ⟨x,rfl,hx,hr,-,hb1⟩;have hr:=f1D hr)
   | (go_at_call 80;refine (hco.out x hx _).mono ?_;rintro e w' ⟨rfl,rfl⟩))
  go_ret
  refine⟨_,rfl,by have:=w0C x;omega,fun c h=>?_,fun h=>absurd h hne,hb1⟩
  rw[hP.out] at h
  obtain⟨a,ha,rfl⟩:=Option.map_eq_some_iff.1 h
  rw[hr.out a ha]
  have hle:=((h0L r a).1 ha).1
  show 2^63+magC a=2^63+a
  unfold magC
  omega
 ·have hh:Lib.hasPrefix s [45]=false∧b0t s=g0k s:=by
   cases s with
   | nil=>exact⟨rfl,rfl⟩
   | cons c r =>
    have hc:c≠45:=fun e=>hm ⟨r,by rw[e]⟩
    exact⟨by unfold Lib.hasPrefix;simp[List.isPrefixOf,Ne.symm hc],f0p c r hc⟩
  have hcp:Calls prog 142 #[.string (bstr s),.string ⟨#[45]⟩] w fun e w'=>e=.returned (.tuple #[.string (bstr s),.bool false])∧w=w':=by
   refine hcp.mono ?_
   rintro e w' ⟨rfl,rfl⟩
   have h1:Lib.trimPrefix s [45]=s:=by unfold Lib.trimPrefix;rw[hh.1];rfl
   refine⟨?_,rfl⟩
   show Ending.returned (.tuple #[.string (bstr (Lib.trimPrefix s [45])),.bool (Lib.hasPrefix s [45])])=_
   rw[h1,hh.1]
  have hcp:=f1D hcp
  have hrs:=f1D (l0C s hs w hE)
  have hP:=f1D hh.2
  clear hh hm hs
  go_enter func109,ntmps109
  go_wp2_with (first
   | (go_at_call 142;refine hcp.out.mono ?_;rintro e w' ⟨rfl,rfl⟩)
   | (go_at_call 151;refine hrs.out.mono ?_;rintro e w1 ⟨x,rfl,hx,hr,h0,hb1⟩;have hr:=f1D hr;have h0:=f1D h0))
  go_ret
  exact⟨x,rfl,hx,fun c h=>hr.out c (by rw[←hP.out];exact h),h0.out,hb1⟩
theorem s0Q (s:List UInt8) (hs:s.length≤1000) (w:World) (hE:EnvD w):Calls prog 71 #[.string (bstr s)] w fun e w'=>e=.returned (.tuple #[.float .f64 ((b0t s).getD 0),.bool (b0t s).isSome])∧Below w.heap.size w w':=by
 have hrd:=f1D (v0B s (by omega) w hE)
 have htx:=f1D (fun x hx w' (h:EnvC w')=>v0C x hx w' h)
 have heq:=f1D (fun x=>c0b (b0N x) s)
 have hpi:=f1D (f0I s)
 clear hs
 go_enter func71,ntmps71
 go_wp2_with (go_at_call 109;refine hrd.out.mono ?_;rintro e w1 ⟨x,rfl,hx,hr,h0,hb1⟩;have hr:=f1D hr;have h0:=f1D h0;refine Hid.out ?_)
 have hE1:=(hE.next hb1).toEnvC
 have htx:=f1D (htx.out x hx w1 hE1)
 have heq:=heq.out x
 by_cases ht:b0N x=s
 ·have hn:nanC x=false:=by
   cases hn:nanC x with
   | false=>rfl
   | true =>
    rw[j0K x hn] at ht
    rw[h0.out ht.symm] at hn
    exact absurd hn (by decide)
  have hp:=f1D ((hpi.out x).2 ⟨hx,hn,ht⟩)
  rw[decide_eq_true ht] at heq
  clear ht hn
  generalize bstr (b0N x)=X at *
  generalize bstr s=S at *
  refine f1D ?_
  go_wp2_with (go_at_call 110;refine htx.out.mono ?_;rintro e w2 ⟨rfl,hb2⟩)
  go_ret2
  exact⟨by rw[hp.out];rfl,hb1.trans (hb2.mono hb1.size)⟩
 ·have hp:b0t s=none:=by
   cases hp:b0t s with
   | none=>rfl
   | some c =>
    have e:=hr.out c hp
    exact absurd (e ▸ ((hpi.out c).1 hp).2.2) ht
  have hp:=f1D hp
  rw[decide_eq_false ht] at heq
  clear ht
  generalize bstr (b0N x)=X at *
  generalize bstr s=S at *
  refine f1D ?_
  go_wp2_with (go_at_call 110;refine htx.out.mono ?_;rintro e w2 ⟨rfl,hb2⟩)
  go_ret2
  exact⟨by rw[hp.out];rfl,hb1.trans (hb2.mono hb1.size)⟩
open Go Go.RowKit Go.Lib
theorem s0A (q:UInt8→Bool) (s:List UInt8) (k:Nat) (h:k < s.length):(s.drop k).all q=(q (s[k])&&(s.drop (k+1)).all q):=by
 rw[List.drop_eq_getElem_cons h,List.all_cons]
theorem t0k (p:Nat→Bool) (q:UInt8→Bool) (hb:∀c:UInt8,p c.toNat=!q c) (hh:∀x,128≤x→p x=true) (s:List UInt8):∀(f pos:Nat),s.length≤pos+f→decide (0≤idxFuncFrom p true (bstr s) f pos)=!(s.drop pos).all q:=by
 intro f
 have hz:=a0c s
 have hq:∀c:UInt8,128≤c.toNat→q c=false:=by
  intro c h
  have:=hb c
  rw[hh _ h] at this
  cases hs:q c with
  | false=>rfl
  | true=>rw[hs] at this;cases this
 induction f with
 | zero =>
  intro pos h
  rw[List.drop_eq_nil_of_le (by omega)];rfl
 | succ f ih =>
  intro pos h
  rw[idxFuncFrom]
  by_cases hp:pos < s.length
  ·rw[if_pos (by omega),s0A q s pos hp]
   have hp':pos < (bstr s).size:=by omega
   have hbp:(bstr s)[pos]'hp'=s[pos]:=rfl
   by_cases ha:(s[pos]).toNat < 128
   ·have e:=decode_ascii (bstr s) pos hp' (by rw[hbp];exact ha)
    rw[hbp] at e
    rw[e]
    show decide (0≤if p (s[pos]).toNat=true then (pos:Int) else idxFuncFrom p true (bstr s) f (pos+1))=_
    rw[hb]
    cases hs:q s[pos] with
    | false=>rw[if_pos (by rfl)];simp
    | true =>
     rw[if_neg (by simp),ih (pos+1) (by omega),Bool.true_and]
   ·have e:=(decode_high (bstr s) pos hp' (by rw[hbp];omega)).1
    rw[if_pos (hh _ e),hq _ (by omega)]
    simp
  ·rw[if_neg (by omega),List.drop_eq_nil_of_le (by omega)];rfl
theorem l0K (p:Nat→Bool) (q:UInt8→Bool) (hb:∀c:UInt8,p c.toNat=!q c) (hh:∀x,128≤x→p x=true) (s:List UInt8):decide (0≤idxFunc p true (bstr s))=!s.all q:=by
 unfold idxFunc
 exact t0k p q hb hh s _ 0 (by rw[a0c];omega)
def b0Y (a b:Nat) (x:Nat):Bool:=decide (x < a)||decide (b < x)
theorem c1b (s:List UInt8):decide (0≤idxFunc (b0Y 32 126) true (bstr s))=!s.all inkB:=by
 refine l0K _ _ (fun c=>?_) (fun x h=>?_) s
 ·unfold b0Y inkB
  rw[Bool.not_and,←decide_not,←decide_not]
  congr 1<;>exact decide_eq_decide.2 (by omega)
 ·unfold b0Y
  rw[decide_eq_true (by omega:126 < x),Bool.or_true]
theorem c1c (s:List UInt8):decide (0≤idxFunc (b0Y 97 122) true (bstr s))=!s.all lowB:=by
 refine l0K _ _ (fun c=>?_) (fun x h=>?_) s
 ·unfold b0Y lowB
  rw[Bool.not_and,←decide_not,←decide_not]
  congr 1<;>exact decide_eq_decide.2 (by omega)
 ·unfold b0Y
  rw[decide_eq_true (by omega:122 < x),Bool.or_true]
theorem r0b (c:UInt8):∀(k:Nat) (s:List UInt8),k≤s.count c→(Lib.splitB (bstr [c]) 0 k (bstr s)).length=k+1:=by
 intro k
 induction k with
 | zero=>intro s _;rfl
 | succ k ih =>
  intro s h
  have e1:Lib.indexB (bstr s) (bstr [c])=Lib.indexByte s c:=Lib.index_one s c
  rcases f0f s c with ⟨hi,hsp⟩ | ⟨i,hir,hi,hsp⟩
  ·have h2:=Lib.indexByte_none hi
   exfalso
   have hp:0 < s.count c:=by omega
   obtain⟨j,hj⟩:=List.getElem?_of_mem (List.count_pos_iff.1 hp)
   exact h2 j hj
  ·rw[Lib.splitB_hit _ _ _ _ i (by rw[e1,hi]),List.length_cons]
   have h2:=(Lib.indexByte_some hi).1
   have h3:=(Lib.indexByte_some hi).2
   have h1:(bstr [c]).size=1:=rfl
   have h0:(s.take i).count c=0:=by
    rw[List.count_eq_zero]
    intro hm
    obtain⟨j,hj⟩:=List.getElem?_of_mem hm
    have hji:j < i:=by have:=(List.getElem?_eq_some_iff.1 hj).1;rw[List.length_take] at this;omega
    refine h3 j hji ?_
    rw[List.getElem?_take,if_pos hji] at hj
    exact hj
   have hc:s.count c=(s.take i).count c+(1+(s.drop (i+1)).count c):=by
    have e:s=s.take i++c :: s.drop (i+1):=by
     have hg:s[i]=c:=(List.getElem?_eq_some_iff.1 h2).2
     conv=>lhs;rw[←List.take_append_drop i s,List.drop_eq_getElem_cons hir,hg]
    conv=>lhs;rw[e]
    rw[List.count_append,List.count_cons_self];omega
   have e2:(bstr s).extract (i+(bstr [c]).size) (bstr s).size=bstr (s.drop (i+1)):=by
    rw[h1,a0c,a0G,List.take_of_length_le (by rw[List.length_drop];omega)]
   rw[e2,ih _ (by omega)]
theorem y0g (c:UInt8):∀(k:Nat) (s:List UInt8),(Lib.splitB (bstr [c]) 0 k (bstr s)).length≤k+1:=by
 intro k
 induction k with
 | zero=>intro s;exact f1F _
 | succ k ih =>
  intro s
  have e1:Lib.indexB (bstr s) (bstr [c])=Lib.indexByte s c:=Lib.index_one s c
  rcases f0f s c with ⟨hi,hsp⟩ | ⟨i,hir,hi,hsp⟩
  ·rw[Lib.splitB_miss _ _ _ _ (by rw[e1,hi])]
   simp
  ·rw[Lib.splitB_hit _ _ _ _ i (by rw[e1,hi]),List.length_cons]
   have e2:(bstr s).extract (i+(bstr [c]).size) (bstr s).size=bstr (s.drop (i+1)):=by
    rw[show (bstr [c]).size=1 from rfl,a0c,a0G,List.take_of_length_le (by rw[List.length_drop];omega)]
   rw[e2]
   have:=ih (s.drop (i+1))
   omega
theorem p0x (c:UInt8) (s:List UInt8):(a0g c s).length=s.count c+1:=by
 rw[←k0Z c s]
 congr 1
 exact Lib.count_one c s
theorem p0w (c:UInt8):∀(k:Nat) (s:List UInt8),∀b∈Lib.splitB (bstr [c]) 0 k (bstr s),b.data.toList.length≤s.length:=by
 intro k
 have h0:∀s:List UInt8,(bstr s).data.toList=s:=fun s=>rfl
 induction k with
 | zero =>
  intro s b hb
  rw[Lib.splitB_zero,List.mem_singleton] at hb
  rw[hb,h0];exact f1F _
 | succ k ih =>
  intro s b hb
  have e1:Lib.indexB (bstr s) (bstr [c])=Lib.indexByte s c:=Lib.index_one s c
  rcases f0f s c with ⟨hi,hsp⟩ | ⟨i,hir,hi,hsp⟩
  ·rw[Lib.splitB_miss _ _ _ _ (by rw[e1,hi]),List.mem_singleton] at hb
   rw[hb,h0];exact f1F _
  ·rw[Lib.splitB_hit _ _ _ _ i (by rw[e1,hi]),List.mem_cons] at hb
   rcases hb with hb | hb
   ·rw[hb,a0G,h0,List.length_take,List.length_drop];omega
   ·have e2:(bstr s).extract (i+(bstr [c]).size) (bstr s).size=bstr (s.drop (i+1)):=by
     rw[show (bstr [c]).size=1 from rfl,a0c,a0G,List.take_of_length_le (by rw[List.length_drop];omega)]
    rw[e2] at hb
    have:=ih _ b hb
    rw[List.length_drop] at this;omega
theorem p0y (s:List UInt8):∃ps:List (List UInt8),Lib.splitB (bstr [44]) 0 (min 33 (s.length+1) - 1) (bstr s)=ps.map bstr∧c0o s=(if c0Y ps=true then some ps else none)∧(∀p∈ps,p.length≤s.length)∧ps.length≤min 33 (s.length+1):=by
 have hle:s.count 44≤s.length:=List.count_le_length
 have hlen:=y0g 44 (min 33 (s.length+1) - 1) s
 by_cases h:s.count 44≤32
 ·have e:=k0X 44 (min 33 (s.length+1) - 1) s (by omega)
  rw[e,List.length_map] at hlen
  exact⟨a0g 44 s,e,rfl,d0H 44 s,by omega⟩
 ·have h33:=r0b 44 32 s (by omega)
  rw[←show min 33 (s.length+1) - 1=32 by omega] at h33
  have hp:=p0w 44 (min 33 (s.length+1) - 1) s
  generalize Lib.splitB (bstr [44]) 0 (min 33 (s.length+1) - 1) (bstr s)=bs at *
  refine⟨bs.map (fun b=>b.data.toList),?_,?_,?_,?_⟩
  ·rw[List.map_map]
   conv=>lhs;rw[←List.map_id bs]
   exact List.map_congr_left fun b _=>by obtain⟨⟨l⟩⟩:=b;rfl
  ·have e1:c0Y (a0g 44 s)=false:=by
    unfold c0Y
    rw[p0x,decide_eq_false (by omega:¬s.count 44+1≤32),Bool.and_false];rfl
   have e2:c0Y (bs.map (fun b=>b.data.toList))=false:=by
    unfold c0Y
    rw[List.length_map,decide_eq_false (by omega:¬bs.length≤32),Bool.and_false];rfl
   unfold c0o
   rw[e1,e2];rfl
  ·intro p hq
   obtain⟨b,hb,rfl⟩:=List.mem_map.1 hq
   exact hp b hb
  ·rw[List.length_map];omega
def puX (l:List UInt8):Nat:=match Lib.parseUintB 64 l with
 | .ok v=>v
 | .range=>18446744073709551615
 | _=>0
theorem x0j:∀(l:List UInt8) (acc v:Nat),acc≤18446744073709551615→Lib.parseUintM 18446744073709551615 acc l=.ok v→v≤18446744073709551615:=by
 intro l
 induction l with
 | nil =>
  intro acc v ha h
  rw[Lib.parseUintM] at h
  injection h with h
  omega
 | cons c r ih =>
  intro acc v ha h
  rw[Lib.parseUintM] at h
  split at h
  ·split at h
   ·cases h
   ·split at h
    ·cases h
    ·exact ih _ _ (by omega) h
  ·cases h
theorem b1p (l:List UInt8):puX l < 18446744073709551616:=by
 unfold puX
 cases h:Lib.parseUintB 64 l with
 | ok v =>
  show v < _
  unfold Lib.parseUintB at h
  split at h
  ·cases h
  ·have:=x0j l 0 v (by omega) h
   omega
 | range=>show 18446744073709551615 < _;omega
 | _=>show 0 < _;omega
theorem s0Z (s:List UInt8):∀n v,c0c 10 n s=some v→n≤v:=by
 induction s with
 | nil=>intro n v h;cases h;omega
 | cons c s ih =>
  intro n v h
  rw[c0c] at h
  split at h
  ·cases h
  ·have:=ih _ _ h;omega
theorem d1u (c:UInt8) (h:0≤digI 10 c):48≤c.toNat∧c.toNat≤57∧(digI 10 c).toNat=c.toNat - 48:=by
 have hb:=m0z 10 c
 have hx:=r0u 10 c h
 have hd:∀d:Nat,d < 10→(hexD d).toNat=d+48:=by
  have hh:∀d:Fin 10,(hexD d.1).toNat=d.1+48:=by decide
  intro d hd
  exact hh ⟨d,hd⟩
 have:=hd (digI 10 c).toNat (by omega)
 rw[hx] at this
 omega
theorem q0z (s:List UInt8):∀n v,c0c 10 n s=some v→v < 18446744073709551616→Lib.parseUintM 18446744073709551615 n s=.ok v:=by
 induction s with
 | nil=>intro n v h _;cases h;rfl
 | cons c s ih =>
  intro n v h hv
  rw[c0c] at h
  split at h
  ·cases h
  ·rename_i hd
   obtain⟨h1,h2,h3⟩:=d1u c (by omega)
   have hle:=s0Z _ _ _ h
   rw[h3] at h hle
   rw[Lib.parseUintM,if_pos ⟨h1,h2⟩,if_neg (by omega),if_neg (by omega)]
   exact ih _ _ h hv
theorem c1N (n:Nat) (h:n < 18446744073709551616):puX (numL 10 n)=n:=by
 have e:Lib.parseUintB 64 (numL 10 n)=.ok n:=by
  unfold Lib.parseUintB
  rw[if_neg (f0W 10 n)]
  exact q0z _ 0 n (f0B 10 (by omega) (by omega) n) h
 unfold puX
 rw[e]
theorem w0W (s:List UInt8):a0J s=if numL 10 (puX s)=s then some (puX s) else none:=by
 by_cases h:numL 10 (puX s)=s
 ·rw[if_pos h]
  conv=>lhs;rw[←h]
  exact d0Z _ (b1p s)
 ·rw[if_neg h]
  unfold a0J
  cases hv:a0P 10 20 s with
  | none=>rfl
  | some n =>
   show (if n < 2^64 then some n else none)=none
   rw[if_neg]
   intro hn
   have e:=((c0W 10 20 (by omega) (by omega) s n).1 hv).1
   rw[←e] at h
   exact h (by rw[c1N n hn])
end Go.Proofs.YtcbilopdeiapjaaGreatDoor
namespace Go.Proofs.YtcbilopdeiapjaaGreatDoor
open Go Go.RowKit
theorem y0J (s:List UInt8) (h0:s≠[]) (h:512 < s.length):c0h s=none:=by
 unfold c0h
 rw[if_neg h0,if_neg (fun k=>by omega)]
theorem y0K (s:List UInt8) (h0:s≠[]) (h:s.all inkB=false):c0h s=none:=by
 unfold c0h
 rw[if_neg h0,if_neg (fun k=>by rw[h] at k;cases k.2.1)]
theorem r0i (s:List UInt8) (h0:s≠[]) (hl:s.length≤512) (h:s.all inkB=true):c0h s=if (a0g 32 s).all (fun p=>decide (p≠[]))=true then some (a0g 32 s) else none:=by
 unfold c0h
 rw[if_neg h0]
 by_cases hk:(a0g 32 s).all (fun p=>decide (p≠[]))=true
 ·rw[if_pos ⟨hl,h,hk⟩,if_pos hk]
 ·rw[if_neg (fun k=>hk k.2.2),if_neg hk]
theorem l0w (s:List UInt8):(bstr s).toList.isEmpty=decide (s=[]):=by
 rw[a0p]
 cases s<;>rfl
open Go Go.RowKit Go.Lib
def EnvX (w:World):Prop:=∃m,w.cell? ⟨3,0,none⟩=some (.int .i64 m)
theorem g0u {w w':World} {B b o:Nat} {v:Value} (h:w.cell? ⟨b,o,none⟩=some v) (hB:w.heap.size≤B) (hb:Below B w w'):w'.cell? ⟨b,o,none⟩=some v:=by
 obtain⟨c,e,fr,hb',_⟩:=Go.Sort.cells_of_cell? h
 rw[hb.cell (Nat.lt_of_lt_of_le (Array.getElem?_eq_some_iff.1 hb').1 hB)]
 exact h
theorem EnvX.next {w w':World} (h:EnvX w) (hb:Below w.heap.size w w'):EnvX w':=by
 obtain⟨m,hm⟩:=h
 exact⟨m,g0u hm (f1F _) hb⟩
theorem p0A (x:Nat) (w:World):Calls prog 63 #[.int .i32 x] w fun e w'=>e=.returned (.bool (b0Y 32 126 x))∧Below w.heap.size w w':=by
 by_cases h1:x < 32
 ·have a1:(x:Int) < 32:=by omega
  have HV:b0Y 32 126 x=true:=by unfold b0Y;rw[decide_eq_true h1];rfl
  rw[HV]
  clear HV
  go_enter func63,ntmps63
  go_wp2
  go_ret
  exact⟨rfl,Below.refl _ _⟩
 ·have a1:decide ((x:Int) < 32)=false:=decide_eq_false (by omega)
  have HV:b0Y 32 126 x=decide ((126:Int) < (x:Int)):=by unfold b0Y;rw[decide_eq_false h1,Bool.false_or];exact decide_eq_decide.2 (by omega)
  rw[HV]
  clear HV h1
  go_enter func63,ntmps63
  go_wp2
  go_ret
  exact⟨rfl,Below.refl _ _⟩
theorem p0z (x:Nat) (w:World):Calls prog 191 #[.int .i32 x] w fun e w'=>e=.returned (.bool (b0Y 97 122 x))∧Below w.heap.size w w':=by
 by_cases h1:x < 97
 ·have a1:(x:Int) < 97:=by omega
  have HV:b0Y 97 122 x=true:=by unfold b0Y;rw[decide_eq_true h1];rfl
  rw[HV]
  clear HV
  go_enter func191,ntmps191
  go_wp2
  go_ret
  exact⟨rfl,Below.refl _ _⟩
 ·have a1:decide ((x:Int) < 97)=false:=decide_eq_false (by omega)
  have HV:b0Y 97 122 x=decide ((122:Int) < (x:Int)):=by unfold b0Y;rw[decide_eq_false h1,Bool.false_or];exact decide_eq_decide.2 (by omega)
  rw[HV]
  clear HV h1
  go_enter func191,ntmps191
  go_wp2
  go_ret
  exact⟨rfl,Below.refl _ _⟩
theorem y0M (s:List UInt8) (hs:s.length≤100000) (w:World):Calls prog 141 #[.string (bstr s)] w fun e w'=>e=.returned (.bool (d0F s))∧Below w.heap.size w w':=by
 have hz:=a0c s
 have HV:=f1D (l0N s)
 have hcf:=fun W=>Tryz.strings_ContainsFunc_grows 191 #[] (enters_of func191 (by kernel_rfl) rfl) (b0Y 97 122) (bstr s) W (fun W' x _ _=>p0z x W')
 rw[c1c] at hcf
 have HC:=f1D hcf
 clear hcf
 generalize d0F s=V at *
 have e0:=l0w s
 by_cases h0:s=[]
 ·have HW:=f1D (show V=false by rw[HV.out,h0];rfl)
  rw[decide_eq_true h0] at e0
  clear HV h0 HC
  go_enter func141,ntmps141
  go_wp2
  go_ret
  exact⟨by rw[HW.out];rfl,Below.refl _ _⟩
 rw[decide_eq_false h0] at e0
 have hpos:1≤s.length:=List.length_pos_iff.2 h0
 by_cases h2:16 < s.length
 ·have HW:=f1D (show V=false by rw[HV.out,decide_eq_false (by omega:¬s.length≤16),Bool.and_false];rfl)
  have a2:decide ((s.length:Int)≤16)=false:=decide_eq_false (by omega)
  clear HV h0 HC
  go_enter func141,ntmps141
  go_wp2
  go_ret
  exact⟨by rw[HW.out];rfl,Below.refl _ _⟩
 have a2:(s.length:Int)≤16:=by omega
 have HW:=f1D (show V=s.all lowB by rw[HV.out,decide_eq_true hpos,decide_eq_true (show s.length≤16 by omega)];rfl)
 clear HV h0 h2 hpos
 go_enter func141,ntmps141
 go_wp2_with (go_at_call 64;refine (HC.out _).mono ?_;rintro e w' ⟨rfl,hb⟩)
 go_ret
 exact⟨by rw[HW.out];simp,hb⟩
end Go.Proofs.YtcbilopdeiapjaaGreatDoor
