import Derived.Test.YtjieebmcbpdeiaaGreatDoorRcai
import Derived.Test.YtjieebmcbpdeiaaGreatDoorRcaa
import Derived.Shelf.Spec.TrailingZeros
import Derived.Lib.AppendIntMem
import Derived.Lib.IfaceNeq
import Derived.Test.YtjieebmcbpdeiaaGreatDoorRcac
import Derived.Test.YtjieebmcbpdeiaaGreatDoorRcad
import Derived.BigRegion
namespace Go.Proofs.YtjieebmcbpdeiaaGreatDoor
set_option maxRecDepth 100000
open Go Go.RowKit
structure EnvC (w:World):Prop where
 pow:Lib.TabIs Tryz.prog w "internal/strconv.uint64pow10" .u64 Lib.pow10Tab
 tz:TabAt 3 Lib.deBruijn64tab w
structure EnvD (w:World):Prop extends EnvC w where
 most:∃m,w.cell? ⟨1,0,none⟩=some (.int .i64 m)
 synt:∃v,w.cell? ⟨6,0,none⟩=some v∧(v=.nilIface∨∃t p,v=.iface t p)
 rang:∃v,w.cell? ⟨7,0,none⟩=some v∧(v=.nilIface∨∃t p,v=.iface t p)
theorem EnvC.next {w w':World} (h:EnvC w) (hb:Below w.heap.size w w'):EnvC w' :=
 ⟨Joins.tab_stays gPow h.pow hb (Nat.le_refl _),fun j hj=>cell_later (h.tz j hj) (Nat.le_refl _) hb⟩
theorem EnvD.next {w w':World} (h:EnvD w) (hb:Below w.heap.size w w'):EnvD w':=by
 obtain⟨hC,⟨m,hm⟩,⟨v,hv,h1⟩,⟨u,hu,h2⟩⟩:=h
 exact⟨hC.next hb,⟨m,cell_later hm (Nat.le_refl _) hb⟩,⟨v,cell_later hv (Nat.le_refl _) hb,h1⟩,⟨u,cell_later hu (Nat.le_refl _) hb,h2⟩⟩
theorem toErr_at (fn s:ByteArray) (b n:Int) (hs:s.size≤281474976710656) (w:World) (hE:EnvD w) (k:Int) (hk:k=1∨k=2) :
  Calls Tryz.prog 154 #[.string fn,.string s,.int .i64 b,.int .i64 n,.iface 183 (.int .i64 k)] w (GaveAny w):=by
 rcases hk with rfl | rfl
 ·obtain⟨v,h1,h2⟩:=hE.rang
  refine (Tryz.strconv_toError_range fn s b n v w hs h1 h2).mono ?_
  rintro e w' ⟨N,rfl,-,-,hb⟩
  exact⟨_,rfl,hb⟩
 ·obtain⟨v,h1,h2⟩:=hE.synt
  refine (Tryz.strconv_toError_syntax fn s b n v w hs h1 h2).mono ?_
  rintro e w' ⟨N,rfl,-,-,hb⟩
  exact⟨_,rfl,hb⟩
theorem errV_1:errV 1=.iface 183 (.int .i64 1):=rfl
theorem errV_2:errV 2=.iface 183 (.int .i64 2):=rfl
theorem ctz_twos (f x:Nat) (h0:0 < x) (h:x < 2^f):Lib.ctzFrom f x=twosC x:=by
 induction f generalizing x with
 | zero=>rw[Nat.pow_zero] at h;omega
 | succ f ih =>
  unfold Lib.ctzFrom
  split
  ·rename_i h1;rw[twosC_odd x h1]
  ·rename_i h1
   rw[Nat.pow_succ] at h
   rw[twosC_even x (by omega) (by omega),ih (x/2) (by omega) (by omega),Nat.add_comm]
set_option maxHeartbeats 2000000 in
theorem tz_any (x:Nat) (h0:0 < x) (h:x < 2^64) (w:World) (hT:TabAt 3 Lib.deBruijn64tab w):Calls Tryz.prog 150 #[.int .u64 x] w fun e w'=>e=.returned (.int .i64 (twosC x:Int))∧w=w':=by
 obtain⟨hlow,hk⟩:=Lib.lowest_bit 64 x (by omega) h
 obtain⟨hi,htab⟩:=Lib.deBruijn64_at _ hk
 have hcell:=hT _ hi
 rw[htab] at hcell
 have key:=tz64_key x _ h (by omega) hlow
 have e:Lib.ctz 64 x=twosC x:=by unfold Lib.ctz;rw[if_neg (by omega),ctz_twos 64 x h0 h]
 rw[e] at hcell key hk hi
 have hx0:((x:Int)==0)=false:=by rw[beq_eq_false_iff_ne];omega
 obtain⟨idx,hidx⟩:∃idx,idx=2^twosC x*285870213051353865%18446744073709551616/288230376151711744:=⟨_,rfl⟩
 rw[←hidx] at hcell key hi
 generalize twosC x=k at *
 clear hlow htab e hT hidx
 go_enter Tryz.func150,Tryz.ntmps150
 go_wp2_with (simp only[key])
 go_ret
 exact⟨rfl,rfl⟩
theorem itoa_int (n:Int):Lib.itoa n=intL n:=by
 unfold Lib.itoa intL
 by_cases h:n < 0
 ·rw[if_pos h,if_pos h,decDigits_num]
 ·rw[if_neg h,if_neg h,decDigits_num,show n.toNat=n.natAbs by omega]
theorem itoa_any (n:Int) (h0:-9223372036854775808≤n) (h1:n≤9223372036854775807) (w:World) (hE:EnvC w) :
  Calls Tryz.prog 112 #[.int .i64 n] w fun e w'=>e=.returned (.string (bstr (intL n)))∧Below w.heap.size w w':=by
 refine (Tryz.strconv_Itoa n h0 h1 w hE.pow).mono ?_
 rintro e w' ⟨rfl,k,os,rfl⟩
 exact⟨by rw[itoa_int n];rfl,Lib.below_grow _ _ (Nat.le_refl _) k os⟩
theorem pm_three (mx:Nat) (l:List UInt8):(pmA mx l).1≤mx∧((pmA mx l).2=0∨(pmA mx l).2=1∨(pmA mx l).2=2):=by
 obtain⟨h1,h2⟩:=pmA_code mx l
 exact⟨h1,by rcases h2 with h | ⟨h,-⟩ | h<;>simp[h]⟩
set_option maxHeartbeats 2000000 in
theorem pu53_any (l:List UInt8) (hl:l.length≤100000) (w:World) (hE:EnvD w) :
  Calls Tryz.prog 116 #[.string (bstr l),.int .i64 10,.int .i64 53] w (GavePu (pmA 9007199254740991 l).1 w):=by
 have hi:=ipm53_any l hl w
 obtain⟨-,hc⟩:=pm_three 9007199254740991 l
 have hsz:(bstr l).size≤281474976710656:=by rw[size_bstr];omega
 have hts:=Lib.hid (fun fn w' (h:Below w.heap.size w w') k hk=>toErr_at fn (bstr l) 10 53 hsz w' (hE.next h) k hk)
 generalize (pmA 9007199254740991 l).1=n at *
 generalize (pmA 9007199254740991 l).2=c at *
 clear hE hl hsz
 rcases hc with rfl | rfl | rfl
 ·rw[show errV 0=.nilIface from rfl] at hi
  have hi:=Lib.hid hi
  go_enter Tryz.func116,Tryz.ntmps116
  go_wp2_with (go_at_call 153;refine hi.out.mono ?_;rintro e w' ⟨rfl,hb1⟩)
  go_ret2
  exact⟨_,rfl,hb1⟩
 ·rw[errV_1] at hi
  have hi:=Lib.hid hi
  go_enter Tryz.func116,Tryz.ntmps116
  go_wp2_with (first
   | (go_at_call 153;refine hi.out.mono ?_;rintro e w' ⟨rfl,hb1⟩)
   | (go_at_call 154;refine (hts.out _ _ hb1 1 (.inl rfl)).mono ?_;rintro e w2 ⟨v,rfl,hb2⟩;have hb2:=hb1.trans (hb2.mono hb1.size)))
  go_ret2
  exact⟨_,rfl,hb2⟩
 ·rw[errV_2] at hi
  have hi:=Lib.hid hi
  go_enter Tryz.func116,Tryz.ntmps116
  go_wp2_with (first
   | (go_at_call 153;refine hi.out.mono ?_;rintro e w' ⟨rfl,hb1⟩)
   | (go_at_call 154;refine (hts.out _ _ hb1 2 (.inr rfl)).mono ?_;rintro e w2 ⟨v,rfl,hb2⟩;have hb2:=hb1.trans (hb2.mono hb1.size)))
  go_ret2
  exact⟨_,rfl,hb2⟩
def piC (neg:Bool) (x:Nat×Nat):Int×Nat :=
 if x.2=2 then (0,2) else if neg then (if 2048 < x.1 then (-2048,1) else (-(x.1:Int),0)) else if 2048≤x.1 then (2047,1) else ((x.1:Int),0)
def piA (l:List UInt8):Int×Nat :=
 match l with
 | []=>(0,2)
 | c :: r=>if c=43 then piC false (pmA 4095 r) else if c=45 then piC true (pmA 4095 r) else piC false (pmA 4095 (c :: r))
theorem piC_code (g:Bool) (x:Nat×Nat):-2048≤(piC g x).1∧(piC g x).1≤2047∧((piC g x).2=0∨(piC g x).2=1∨(piC g x).2=2):=by
 unfold piC
 (repeat' split)<;>refine⟨?_,?_,?_⟩<;>simp<;>omega
theorem piA_code (l:List UInt8):-2048≤(piA l).1∧(piA l).1≤2047∧((piA l).2=0∨(piA l).2=1∨(piA l).2=2):=by
 unfold piA
 split
 ·exact⟨by decide,by decide,.inr (.inr rfl)⟩
 ·(repeat' split)<;>exact piC_code _ _
theorem num10_digit (n:Nat):∀c∈numL 10 n,48≤c.toNat:=by
 have hd:∀i:Nat,i < 10→48≤(hexD i).toNat:=by
  have h:∀i:Fin 10,48≤(hexD i.1).toNat:=by decide
  intro i hi;exact h ⟨i,hi⟩
 induction n using Nat.strongRecOn with
 | _ n ih =>
  by_cases h:n < 10
  ·rw[numL_small 10 n h]
   intro c hc
   rw[List.mem_singleton.1 hc]
   exact hd n h
  ·rw[numL_great 10 n (by omega) (by omega)]
   intro c hc
   rcases List.mem_append.1 hc with h1 | h1
   ·exact ih (n/10) (Nat.div_lt_self (by omega) (by omega)) c h1
   ·rw[List.mem_singleton.1 h1]
    exact hd _ (Nat.mod_lt _ (by omega))
theorem pi_int (p:Int) (h1:-2048≤p) (h2:p≤2047):piA (intL p)=(p,0):=by
 have hn:=pm_num 4095 p.natAbs (by omega)
 unfold intL
 by_cases h:p < 0
 ·rw[if_pos h]
  show piC true (pmA 4095 (numL 10 p.natAbs))=_
  rw[hn]
  unfold piC
  simp only[if_neg (show ¬(0:Nat)=2 by omega),if_true]
  rw[if_neg (by omega)]
  congr 1;omega
 ·rw[if_neg h]
  obtain⟨c,r,e,hc⟩:=num10_head p.natAbs
  have hc2:c≠43:=by
   intro h2
   have:=num10_digit p.natAbs c (by rw[e];exact List.mem_cons_self ..)
   rw[h2] at this
   exact absurd this (by decide)
  rw[e]
  show (if c=43 then _ else if c=45 then _ else piC false (pmA 4095 (c :: r)))=_
  rw[if_neg hc2,if_neg hc,←e,hn]
  unfold piC
  simp only[if_neg (show ¬(0:Nat)=2 by omega),Bool.false_eq_true,if_false]
  rw[if_neg (by omega)]
  congr 1;omega
theorem neq_21 (w:World):(binOp .neq 125 (.iface 183 (.int .i64 2)) (.iface 183 (.int .i64 1))).run Tryz.prog w=.ok (.bool true) w:=Lib.run_neq_iface_int w 2 1 Tryz.underlying125 (by kernel_rfl) Tryz.underlying183
theorem neq_11 (w:World):(binOp .neq 125 (.iface 183 (.int .i64 1)) (.iface 183 (.int .i64 1))).run Tryz.prog w=.ok (.bool false) w:=Lib.run_neq_iface_int w 1 1 Tryz.underlying125 (by kernel_rfl) Tryz.underlying183
set_option maxHeartbeats 4000000 in
theorem ipi_any (l:List UInt8) (hl:l.length≤100000) (w:World) :
  Calls Tryz.prog 189 #[.string (bstr l),.int .i64 10,.int .i64 12] w fun e w'=>e=.returned (.tuple #[.int .i64 (piA l).1,errV (piA l).2])∧Below w.heap.size w w':=by
 cases l with
 | nil =>
  have hne:(bstr []).toList.isEmpty=true:=by rw[bstr_toList];rfl
  go_enter Tryz.func189,Tryz.ntmps189
  go_wp2
  go_ret2
  exact⟨rfl,Below.refl _ _⟩
 | cons c r =>
  have hne:(bstr (c :: r)).toList.isEmpty=false:=by rw[bstr_toList];rfl
  have hix:∀w',(Instr.index 9 (.string (bstr (c :: r))) (.int .i64 0)).run Tryz.prog w'=.ok (.int .u8 (c.toNat:Int)) w':=fun w'=>index_bstr (c :: r) 0 (by simp) w'
  have hz:=size_bstr (c :: r)
  have hex:(bstr (c :: r)).extract 1 (r.length+1)=bstr r:=by rw[extract_bstr12,List.drop_succ_cons,List.drop_zero,List.take_of_length_le (by omega)]
  rw[List.length_cons] at hz hl
  have hlr:(0:Int)≤(r.length:Int):=by omega
  obtain⟨V,hV⟩:∃V,V=piA (c :: r):=⟨_,rfl⟩
  rw[←hV]
  have HV:=Lib.hid (hV.trans (show piA (c :: r)=if c=43 then piC false (pmA 4095 r) else if c=45 then piC true (pmA 4095 r) else piC false (pmA 4095 (c :: r)) from rfl))
  clear hV
  have e43:((c.toNat:Int)==43)=decide (c=43):=by
   rw[Bool.eq_iff_iff,beq_iff_eq,decide_eq_true_iff,show (43:Int)=((43:UInt8).toNat:Int) from rfl,Int.ofNat_inj,UInt8.toNat_inj]
  have e45:((c.toNat:Int)==45)=decide (c=45):=by
   rw[Bool.eq_iff_iff,beq_iff_eq,decide_eq_true_iff,show (45:Int)=((45:UInt8).toNat:Int) from rfl,Int.ofNat_inj,UInt8.toNat_inj]
  by_cases h1:c=43
  ·rw[decide_eq_true h1] at e43
   have HV:=Lib.hid (HV.out.trans (if_pos h1))
   clear e45 h1
   have hc:=pmA_code 4095 (r)
   have hin:=ipm12_any (r) (by omega) w
   generalize pmA 4095 (r)=x at *
   obtain⟨un,cd⟩:=x
   obtain⟨hun,hc⟩:=hc
   have hun:un≤4095:=hun
   have hw:IntKind.i64.wrap (un:Int)=(un:Int):=by rw[IntKind.wrap_i64];omega
   have hw2:IntKind.i64.wrap (-(un:Int))=-(un:Int):=by rw[IntKind.wrap_i64];omega
   rcases hc with rfl | ⟨rfl,hu⟩ | rfl
   ·have hin:Calls Tryz.prog 153 #[.string (bstr (r)),.int .i64 10,.int .i64 12] w fun e w'=>e=.returned (.tuple #[.int .u64 (un:Int),.nilIface])∧Below w.heap.size w w':=hin
    have hin:=Lib.hid hin
    by_cases hq:2048≤un
    ·have HX:=Lib.hid (HV.out.trans (show piC false (un,0)=(2047,1) by unfold piC;simp only[if_neg (show ¬(0:Nat)=2 by omega),Bool.false_eq_true,if_false];rw[if_pos hq]))
     have hq:(2048:Int)≤(un:Int):=by omega
     clear HV
     go_enter Tryz.func189,Tryz.ntmps189
     go_wp2_with (go_at_call 153;refine hin.out.mono ?_;rintro e w' ⟨rfl,hb1⟩)
     go_ret2
     exact⟨by rw[HX.out];rfl,hb1⟩
    ·have HX:=Lib.hid (HV.out.trans (show piC false (un,0)=((un:Int),0) by unfold piC;simp only[if_neg (show ¬(0:Nat)=2 by omega),Bool.false_eq_true,if_false];rw[if_neg hq]))
     have hq:(un:Int) < 2048:=by omega
     clear HV
     go_enter Tryz.func189,Tryz.ntmps189
     go_wp2_with (go_at_call 153;refine hin.out.mono ?_;rintro e w' ⟨rfl,hb1⟩)
     go_ret2
     exact⟨by rw[HX.out];rfl,hb1⟩
   ·obtain rfl:un=4095:=hu
    have hin:Calls Tryz.prog 153 #[.string (bstr (r)),.int .i64 10,.int .i64 12] w fun e w'=>e=.returned (.tuple #[.int .u64 4095,.iface 183 (.int .i64 1)])∧Below w.heap.size w w':=hin
    have hin:=Lib.hid hin
    have hq1:=neq_11
    have HX:=Lib.hid (HV.out.trans (show piC false (4095,1)=(2047,1) by rfl))
    clear HV
    go_enter Tryz.func189,Tryz.ntmps189
    go_wp2_with (go_at_call 153;refine hin.out.mono ?_;rintro e w' ⟨rfl,hb1⟩)
    go_ret2
    exact⟨by rw[HX.out];rfl,hb1⟩
   ·have hin:Calls Tryz.prog 153 #[.string (bstr (r)),.int .i64 10,.int .i64 12] w fun e w'=>e=.returned (.tuple #[.int .u64 (un:Int),.iface 183 (.int .i64 2)])∧Below w.heap.size w w':=hin
    have hin:=Lib.hid hin
    have hq2:=neq_21
    have HX:=Lib.hid (HV.out.trans (show piC false (un,2)=(0,2) by unfold piC;rw[if_pos rfl]))
    clear HV
    go_enter Tryz.func189,Tryz.ntmps189
    go_wp2_with (go_at_call 153;refine hin.out.mono ?_;rintro e w' ⟨rfl,hb1⟩)
    go_ret2
    exact⟨by rw[HX.out];rfl,hb1⟩
  ·rw[decide_eq_false h1] at e43
   by_cases h2:c=45
   ·rw[decide_eq_true h2] at e45
    have HV:=Lib.hid ((HV.out.trans (if_neg h1)).trans (if_pos h2))
    clear h1 h2
    have hc:=pmA_code 4095 (r)
    have hin:=ipm12_any (r) (by omega) w
    generalize pmA 4095 (r)=x at *
    obtain⟨un,cd⟩:=x
    obtain⟨hun,hc⟩:=hc
    have hun:un≤4095:=hun
    have hw:IntKind.i64.wrap (un:Int)=(un:Int):=by rw[IntKind.wrap_i64];omega
    have hw2:IntKind.i64.wrap (-(un:Int))=-(un:Int):=by rw[IntKind.wrap_i64];omega
    rcases hc with rfl | ⟨rfl,hu⟩ | rfl
    ·have hin:Calls Tryz.prog 153 #[.string (bstr (r)),.int .i64 10,.int .i64 12] w fun e w'=>e=.returned (.tuple #[.int .u64 (un:Int),.nilIface])∧Below w.heap.size w w':=hin
     have hin:=Lib.hid hin
     by_cases hq:2048 < un
     ·have HX:=Lib.hid (HV.out.trans (show piC true (un,0)=(-2048,1) by unfold piC;simp only[if_neg (show ¬(0:Nat)=2 by omega),if_true];rw[if_pos hq]))
      have hq:(2048:Int) < (un:Int):=by omega
      clear HV
      go_enter Tryz.func189,Tryz.ntmps189
      go_wp2_with (go_at_call 153;refine hin.out.mono ?_;rintro e w' ⟨rfl,hb1⟩)
      go_ret2
      exact⟨by rw[HX.out];rfl,hb1⟩
     ·have HX:=Lib.hid (HV.out.trans (show piC true (un,0)=(-(un:Int),0) by unfold piC;simp only[if_neg (show ¬(0:Nat)=2 by omega),if_true];rw[if_neg hq]))
      have hq:(un:Int)≤2048:=by omega
      clear HV
      go_enter Tryz.func189,Tryz.ntmps189
      go_wp2_with (go_at_call 153;refine hin.out.mono ?_;rintro e w' ⟨rfl,hb1⟩)
      go_ret2
      exact⟨by rw[HX.out];rfl,hb1⟩
    ·obtain rfl:un=4095:=hu
     have hin:Calls Tryz.prog 153 #[.string (bstr (r)),.int .i64 10,.int .i64 12] w fun e w'=>e=.returned (.tuple #[.int .u64 4095,.iface 183 (.int .i64 1)])∧Below w.heap.size w w':=hin
     have hin:=Lib.hid hin
     have hq1:=neq_11
     have HX:=Lib.hid (HV.out.trans (show piC true (4095,1)=(-2048,1) by rfl))
     clear HV
     go_enter Tryz.func189,Tryz.ntmps189
     go_wp2_with (go_at_call 153;refine hin.out.mono ?_;rintro e w' ⟨rfl,hb1⟩)
     go_ret2
     exact⟨by rw[HX.out];rfl,hb1⟩
    ·have hin:Calls Tryz.prog 153 #[.string (bstr (r)),.int .i64 10,.int .i64 12] w fun e w'=>e=.returned (.tuple #[.int .u64 (un:Int),.iface 183 (.int .i64 2)])∧Below w.heap.size w w':=hin
     have hin:=Lib.hid hin
     have hq2:=neq_21
     have HX:=Lib.hid (HV.out.trans (show piC true (un,2)=(0,2) by unfold piC;rw[if_pos rfl]))
     clear HV
     go_enter Tryz.func189,Tryz.ntmps189
     go_wp2_with (go_at_call 153;refine hin.out.mono ?_;rintro e w' ⟨rfl,hb1⟩)
     go_ret2
     exact⟨by rw[HX.out];rfl,hb1⟩
   ·rw[decide_eq_false h2] at e45
    have HV:=Lib.hid ((HV.out.trans (if_neg h1)).trans (if_neg h2))
    have hlc:(c :: r).length≤100000:=by rw[List.length_cons];omega
    generalize c :: r=L at *
    clear h1 h2 hex
    have hc:=pmA_code 4095 (L)
    have hin:=ipm12_any (L) (by omega) w
    generalize pmA 4095 (L)=x at *
    obtain⟨un,cd⟩:=x
    obtain⟨hun,hc⟩:=hc
    have hun:un≤4095:=hun
    have hw:IntKind.i64.wrap (un:Int)=(un:Int):=by rw[IntKind.wrap_i64];omega
    have hw2:IntKind.i64.wrap (-(un:Int))=-(un:Int):=by rw[IntKind.wrap_i64];omega
    rcases hc with rfl | ⟨rfl,hu⟩ | rfl
    ·have hin:Calls Tryz.prog 153 #[.string (bstr (L)),.int .i64 10,.int .i64 12] w fun e w'=>e=.returned (.tuple #[.int .u64 (un:Int),.nilIface])∧Below w.heap.size w w':=hin
     have hin:=Lib.hid hin
     by_cases hq:2048≤un
     ·have HX:=Lib.hid (HV.out.trans (show piC false (un,0)=(2047,1) by unfold piC;simp only[if_neg (show ¬(0:Nat)=2 by omega),Bool.false_eq_true,if_false];rw[if_pos hq]))
      have hq:(2048:Int)≤(un:Int):=by omega
      clear HV
      go_enter Tryz.func189,Tryz.ntmps189
      go_wp2_with (go_at_call 153;refine hin.out.mono ?_;rintro e w' ⟨rfl,hb1⟩)
      go_ret2
      exact⟨by rw[HX.out];rfl,hb1⟩
     ·have HX:=Lib.hid (HV.out.trans (show piC false (un,0)=((un:Int),0) by unfold piC;simp only[if_neg (show ¬(0:Nat)=2 by omega),Bool.false_eq_true,if_false];rw[if_neg hq]))
      have hq:(un:Int) < 2048:=by omega
      clear HV
      go_enter Tryz.func189,Tryz.ntmps189
      go_wp2_with (go_at_call 153;refine hin.out.mono ?_;rintro e w' ⟨rfl,hb1⟩)
      go_ret2
      exact⟨by rw[HX.out];rfl,hb1⟩
    ·obtain rfl:un=4095:=hu
     have hin:Calls Tryz.prog 153 #[.string (bstr (L)),.int .i64 10,.int .i64 12] w fun e w'=>e=.returned (.tuple #[.int .u64 4095,.iface 183 (.int .i64 1)])∧Below w.heap.size w w':=hin
     have hin:=Lib.hid hin
     have hq1:=neq_11
     have HX:=Lib.hid (HV.out.trans (show piC false (4095,1)=(2047,1) by rfl))
     clear HV
     go_enter Tryz.func189,Tryz.ntmps189
     go_wp2_with (go_at_call 153;refine hin.out.mono ?_;rintro e w' ⟨rfl,hb1⟩)
     go_ret2
     exact⟨by rw[HX.out];rfl,hb1⟩
    ·have hin:Calls Tryz.prog 153 #[.string (bstr (L)),.int .i64 10,.int .i64 12] w fun e w'=>e=.returned (.tuple #[.int .u64 (un:Int),.iface 183 (.int .i64 2)])∧Below w.heap.size w w':=hin
     have hin:=Lib.hid hin
     have hq2:=neq_21
     have HX:=Lib.hid (HV.out.trans (show piC false (un,2)=(0,2) by unfold piC;rw[if_pos rfl]))
     clear HV
     go_enter Tryz.func189,Tryz.ntmps189
     go_wp2_with (go_at_call 153;refine hin.out.mono ?_;rintro e w' ⟨rfl,hb1⟩)
     go_ret2
     exact⟨by rw[HX.out];rfl,hb1⟩
set_option maxHeartbeats 2000000 in
theorem pi12_any (l:List UInt8) (hl:l.length≤100000) (w:World) (hE:EnvD w) :
  Calls Tryz.prog 190 #[.string (bstr l),.int .i64 10,.int .i64 12] w fun e w'=>∃v,e=.returned (.tuple #[.int .i64 (piA l).1,v])∧Below w.heap.size w w':=by
 have hi:=ipi_any l hl w
 obtain⟨-,hc⟩:=(piA_code l).2
 have hsz:(bstr l).size≤281474976710656:=by rw[size_bstr];omega
 have hts:=Lib.hid (fun fn w' (h:Below w.heap.size w w') k hk=>toErr_at fn (bstr l) 10 12 hsz w' (hE.next h) k hk)
 generalize (piA l).1=n at *
 generalize (piA l).2=c at *
 clear hE hl hsz
 rcases hc with rfl | rfl | rfl
 ·rw[show errV 0=.nilIface from rfl] at hi
  have hi:=Lib.hid hi
  go_enter Tryz.func190,Tryz.ntmps190
  go_wp2_with (go_at_call 189;refine hi.out.mono ?_;rintro e w' ⟨rfl,hb1⟩)
  go_ret2
  exact⟨_,rfl,hb1⟩
 ·rw[errV_1] at hi
  have hi:=Lib.hid hi
  go_enter Tryz.func190,Tryz.ntmps190
  go_wp2_with (first
   | (go_at_call 189;refine hi.out.mono ?_;rintro e w' ⟨rfl,hb1⟩)
   | (go_at_call 154;refine (hts.out _ _ hb1 1 (.inl rfl)).mono ?_;rintro e w2 ⟨v,rfl,hb2⟩;have hb2:=hb1.trans (hb2.mono hb1.size)))
  go_ret2
  exact⟨_,rfl,hb2⟩
 ·rw[errV_2] at hi
  have hi:=Lib.hid hi
  go_enter Tryz.func190,Tryz.ntmps190
  go_wp2_with (first
   | (go_at_call 189;refine hi.out.mono ?_;rintro e w' ⟨rfl,hb1⟩)
   | (go_at_call 154;refine (hts.out _ _ hb1 2 (.inr rfl)).mono ?_;rintro e w2 ⟨v,rfl,hb2⟩;have hb2:=hb1.trans (hb2.mono hb1.size)))
  go_ret2
  exact⟨_,rfl,hb2⟩
theorem misnan_any (b:Nat) (hb:b < 2^64) (w:World):Calls Tryz.prog 43 #[.float .f64 b] w fun e w'=>e=.returned (.bool (nanC b))∧w=w':=by
 cases hn:nanC b with
 | true =>
  have o:=order_nan b hb hn
  go_enter Tryz.func43,Tryz.ntmps43
  go_wp2
  go_ret
  exact⟨rfl,rfl⟩
 | false =>
  have o:=order_eq b hb hn
  go_enter Tryz.func43,Tryz.ntmps43
  go_wp2
  go_ret
  exact⟨rfl,rfl⟩
theorem mabs_any (b:Nat) (hb:b < 2^64) (w:World):Calls Tryz.prog 149 #[.float .f64 b] w fun e w'=>e=.returned (.float .f64 (magC b))∧w=w':=by
 have h1:=bits_abs b hb
 generalize magC b=m at *
 go_enter Tryz.func149,Tryz.ntmps149
 go_wp2
 go_ret
 exact⟨rfl,rfl⟩
theorem mag_lt (b:Nat):magC b < 2^63:=by unfold magC;omega
theorem misinf_any (b:Nat) (hb:b < 2^64) (w:World):Calls Tryz.prog 114 #[.float .f64 b,.int .i64 0] w fun e w'=>e=.returned (.bool (decide (magC b=2047*2^52)))∧w=w':=by
 have hm:=mag_lt b
 have ha:=Lib.hid (mabs_any b hb w)
 obtain⟨V,hV⟩:∃V,V=decide (magC b=2047*2^52):=⟨_,rfl⟩
 rw[←hV]
 have HV:=Lib.hid hV
 clear hV
 generalize magC b=m at *
 rcases Nat.lt_trichotomy m (2047*2^52) with h | h | h
 ·have HW:=Lib.hid (HV.out.trans (decide_eq_false (by omega)))
  have o:FloatKind.f64.format.order m 9218868437227405311=some .lt∨FloatKind.f64.format.order m 9218868437227405311=some .eq:=by
   by_cases h2:m=9218868437227405311
   ·subst h2;exact .inr (by decide +kernel)
   ·exact .inl (order_lt m _ (by omega) (by omega) (by omega))
  clear HV hm h
  rcases o with o | o
  all_goals
   go_enter Tryz.func114,Tryz.ntmps114
   go_wp2_with (go_at_call 149;refine ha.out.mono ?_;rintro e w' ⟨rfl,rfl⟩)
   go_ret
   exact⟨by rw[HW.out];rfl,rfl⟩
 ·have HW:=Lib.hid (HV.out.trans (decide_eq_true h))
  have o:FloatKind.f64.format.order m 9218868437227405311=some .gt:=order_gt m _ (by omega) (by omega) (by omega)
  clear HV hm h
  go_enter Tryz.func114,Tryz.ntmps114
  go_wp2_with (go_at_call 149;refine ha.out.mono ?_;rintro e w' ⟨rfl,rfl⟩)
  go_ret
  exact⟨by rw[HW.out];rfl,rfl⟩
 ·have HW:=Lib.hid (HV.out.trans (decide_eq_false (by omega)))
  have hn:nanC m=true:=by unfold nanC magC;rw[decide_eq_true_iff];omega
  have o:FloatKind.f64.format.order m 9218868437227405311=none:=order_nan_left m _ (by omega) (by omega) hn
  clear HV hm h hn
  go_enter Tryz.func114,Tryz.ntmps114
  go_wp2_with (go_at_call 149;refine ha.out.mono ?_;rintro e w' ⟨rfl,rfl⟩)
  go_ret
  exact⟨by rw[HW.out];rfl,rfl⟩
theorem msign_any (b:Nat) (hb:b < 2^64) (w:World):Calls Tryz.prog 147 #[.float .f64 b] w fun e w'=>e=.returned (.bool (negC b))∧w=w':=by
 cases hn:negC b with
 | true =>
  have h:=of_decide_eq_true hn
  have h1:IntKind.i64.wrap (b:Int)=(b:Int) - 18446744073709551616:=by rw[IntKind.wrap_i64];omega
  have h2:decide ((b:Int) - 18446744073709551616 < 0)=true:=decide_eq_true (by omega)
  clear hn h
  go_enter Tryz.func147,Tryz.ntmps147
  go_wp2
  go_ret
  exact⟨rfl,rfl⟩
 | false =>
  have h:=of_decide_eq_false hn
  have h1:IntKind.i64.wrap (b:Int)=(b:Int):=by rw[IntKind.wrap_i64];omega
  clear hn h
  go_enter Tryz.func147,Tryz.ntmps147
  go_wp2
  go_ret
  exact⟨rfl,rfl⟩
theorem mcopy_any (b:Nat) (hb:b < 2^64) (w:World):Calls Tryz.prog 95 #[.float .f64 b,.float .f64 13830554455654793216] w fun e w'=>e=.returned (.float .f64 (2^63+magC b))∧w=w':=by
 have h1:=bits_abs b hb
 have hm:=mag_lt b
 generalize magC b=m at *
 have h2:bits .and .u64 13830554455654793216 9223372036854775808=9223372036854775808:=by decide +kernel
 have h3:bits .or .u64 (m:Int) 9223372036854775808=((2^63+m:Nat):Int):=by
  refine (u64_or_nat m 9223372036854775808 (by omega) (by omega)).trans ?_
  rw[Nat.or_comm,show 9223372036854775808=2^63*1 from rfl,←Nat.two_pow_add_eq_or_of_lt hm]
 generalize 2^63+m=M at *
 clear hm
 go_enter Tryz.func95,Tryz.ntmps95
 go_wp2
 go_ret
 exact⟨rfl,rfl⟩
theorem mcopy0_any (b:Nat) (hb:b < 2^63) (w:World):Calls Tryz.prog 95 #[.float .f64 0,.float .f64 b] w fun e w'=>e=.returned (.float .f64 0)∧w=w':=by
 have h1:bits .andNot .u64 0 9223372036854775808=0:=by decide +kernel
 have h2:bits .and .u64 (b:Int) 9223372036854775808=0:=by
  rw[bits_sgn b (by omega),show negC b=false by unfold negC;rw[decide_eq_false_iff_not];omega];rfl
 have h3:bits .or .u64 0 0=0:=by decide +kernel
 go_enter Tryz.func95,Tryz.ntmps95
 go_wp2
 go_ret
 exact⟨rfl,rfl⟩
theorem mnorm_great (a:Nat) (h1:2^52≤a) (h2:a < 2047*2^52) (w:World):Calls Tryz.prog 199 #[.float .f64 a] w fun e w'=>e=.returned (.tuple #[.float .f64 a,.int .i64 0])∧w=w':=by
 have ha:=mabs_any a (by omega) w
 rw[show magC a=a by unfold magC;omega] at ha
 have ha:=Lib.hid ha
 have o:FloatKind.f64.format.order a 4503599627370496=some .gt∨FloatKind.f64.format.order a 4503599627370496=some .eq:=by
  by_cases h3:a=4503599627370496
  ·subst h3;exact .inr (by decide +kernel)
  ·exact .inl (order_gt a _ (by omega) (by omega) (by omega))
 clear h1 h2
 rcases o with o | o
 all_goals
  go_enter Tryz.func199,Tryz.ntmps199
  go_wp2_with (go_at_call 149;refine ha.out.mono ?_;rintro e w' ⟨rfl,rfl⟩)
  go_ret2
  exact⟨rfl,rfl⟩
theorem mnorm_small (a k r:Nat) (h:a < 2^52) (hk:k≤52) (hr:r < 2^52) (e:a*2^k=2^52+r) (w:World):Calls Tryz.prog 199 #[.float .f64 a] w fun e w'=>e=.returned (.tuple #[.float .f64 ((53 - k)*2^52+r),.int .i64 (-52)])∧w=w':=by
 have ha:=mabs_any a (by omega) w
 rw[show magC a=a by unfold magC;omega] at ha
 have ha:=Lib.hid ha
 have o:FloatKind.f64.format.order a 4503599627370496=some .lt:=order_lt a _ (by omega) (by omega) (by omega)
 have hmul:∀w',(binOp .mul 29 (.float .f64 a) (.float .f64 4841369599423283200)).run Tryz.prog w'=.ok (.float .f64 ((53 - k)*2^52+r)) w':=fun w'=>run_float_arith w' .mul _ .f64 _ _ _ (mul_small a k r h hk hr e)
 clear h hk hr e
 generalize (53 - k)*2^52+r=M at *
 go_enter Tryz.func199,Tryz.ntmps199
 go_wp2_with (go_at_call 149;refine ha.out.mono ?_;rintro e w' ⟨rfl,rfl⟩)
 go_ret2
 exact⟨rfl,rfl⟩
theorem fin_lt (a:Nat) (h:FinC a):a < 2^63:=by have:=h.2;omega
theorem fin_plain (a:Nat) (h:FinC a):nanC a=false∧decide (magC a=2047*2^52)=false:=by
 obtain⟨h1,h2⟩:=h
 have hm:magC a=a:=by unfold magC;omega
 unfold nanC
 rw[hm]
 exact⟨decide_eq_false (by omega),decide_eq_false (by omega)⟩
def NormC (a E r:Nat) (x:Int):Prop:=(x=0∧1≤E∧E≤2046∧r < 2^52∧a=E*2^52+r)∨(∃k,x=-52∧k≤52∧E=53 - k∧r < 2^52∧a < 2^52∧a*2^k=2^52+r)
theorem norm_of (a:Nat) (h:FinC a):∃E r x,NormC a E r x:=by
 obtain⟨h1,h2⟩:=h
 by_cases hs:a < 2^52
 ·obtain⟨k,r,hk,hr,e⟩:=up_53 a h1 (by omega)
  exact⟨53 - k,r,-52,.inr ⟨k,rfl,hk,rfl,hr,hs,e⟩⟩
 ·obtain⟨E,r,e1,e2,hr,e⟩:=pack_of a (by omega) h2
  exact⟨E,r,0,.inl ⟨rfl,e1,e2,hr,e⟩⟩
theorem norm_bd (a E r:Nat) (x:Int) (h:NormC a E r x):1≤E∧E≤2046∧r < 2^52∧(x=0∨x=-52):=by
 rcases h with ⟨rfl,h1,h2,h3,-⟩ | ⟨k,rfl,hk,rfl,hr,-,-⟩
 ·exact⟨h1,h2,h3,.inl rfl⟩
 ·exact⟨by omega,by omega,hr,.inr rfl⟩
theorem norm_parts (a E r:Nat) (x:Int) (ha:FinC a) (h:NormC a E r x):oddC (2^52+r)=oddC (sigC a)∧(E:Int) - 1022+x - 53+twosC (2^52+r)=powC a+twosC (sigC a):=by
 rcases h with ⟨rfl,h1,h2,h3,rfl⟩ | ⟨k,rfl,hk,rfl,hr,hs,e⟩
 ·rw[pack_sig E r h1 h3,pack_pow E r h1 h3]
  exact⟨rfl,by omega⟩
 ·have hsig:sigC a=a:=by unfold sigC;rw[if_neg (by omega)];omega
  have hpow:powC a=-1074:=by unfold powC;rw[if_neg (by omega)]
  obtain⟨o1,o2⟩:=odd_shift a k (by have:=ha.1;omega)
  rw[←e,o1,o2,hsig,hpow]
  exact⟨rfl,by omega⟩
theorem mnorm_any (a E r:Nat) (x:Int) (ha:FinC a) (h:NormC a E r x) (w:World):Calls Tryz.prog 199 #[.float .f64 a] w fun e w'=>e=.returned (.tuple #[.float .f64 (E*2^52+r),.int .i64 x])∧w=w':=by
 rcases h with ⟨rfl,h1,h2,h3,rfl⟩ | ⟨k,rfl,hk,rfl,hr,hs,e⟩
 ·exact mnorm_great _ (by omega) (by omega) w
 ·exact mnorm_small a k r hs hk hr e w
set_option maxHeartbeats 2000000 in
theorem mfrexp_in (a E r:Nat) (x:Int) (ha:FinC a) (h:NormC a E r x) (w:World):Calls Tryz.prog 176 #[.float .f64 a] w fun e w'=>e=.returned (.tuple #[.float .f64 (1022*2^52+r),.int .i64 ((E:Int) - 1022+x)])∧w=w':=by
 obtain⟨h1,h2,hr,hx⟩:=norm_bd a E r x h
 obtain⟨p1,p2⟩:=fin_plain a ha
 have lt:=fin_lt a ha
 have hinf:=misinf_any a (by omega) w
 have hnan:=misnan_any a (by omega) w
 rw[p2] at hinf
 rw[p1] at hnan
 have hn':=mnorm_any a E r x ha h w
 have hinf:=Lib.hid hinf
 have hnan:=Lib.hid hnan
 have o:FloatKind.f64.format.order a 0=some .gt:=order_gt a 0 (by have:=ha.2;omega) (by omega) ha.1
 have e1:((E*2^52+r:Nat):Int)/4503599627370496=(E:Int):=by omega
 have e2:=bits_exp E (by omega)
 have e3:IntKind.i64.wrap (E:Int)=(E:Int):=by rw[IntKind.wrap_i64];omega
 have e4:=bits_frac (E*2^52+r) (by omega)
 rw[pack_mod E r hr] at e4
 obtain⟨Y,hY⟩:∃Y,Y=E*2^52+r:=⟨_,rfl⟩
 rw[←hY] at hn' e1 e4
 have hn:=Lib.hid hn'
 have e5:bits .or .u64 (r:Int) 4602678819172646912=((1022*2^52+r:Nat):Int):=bits_lay r 1022 hr (by omega)
 obtain⟨Z,hZ⟩:∃Z,Z=1022*2^52+r:=⟨_,rfl⟩
 rw[←hZ] at e5 ⊢
 obtain⟨D,hD⟩:∃D:Int,D=(E:Int) - 1022+x:=⟨_,rfl⟩
 rw[←hD]
 have ex:IntKind.i64.wrap ((E:Int) - 1023)=(E:Int) - 1023:=by rw[IntKind.wrap_i64];omega
 have ey:IntKind.i64.wrap ((E:Int) - 1023+1)=(E:Int) - 1023+1:=by rw[IntKind.wrap_i64];omega
 have ez:IntKind.i64.wrap (x+((E:Int) - 1023+1))=D:=by rw[IntKind.wrap_i64];omega
 clear h p1 p2 lt ha h1 h2 hr hx hD hY hZ hn'
 go_enter Tryz.func176,Tryz.ntmps176
 go_wp2_with (first
  | (go_at_call 114;refine hinf.out.mono ?_;rintro e w' ⟨rfl,rfl⟩)
  | (go_at_call 43;refine hnan.out.mono ?_;rintro e w' ⟨rfl,rfl⟩)
  | (go_at_call 199;refine hn.out.mono ?_;rintro e w' ⟨rfl,rfl⟩))
 go_ret2
 exact⟨rfl,rfl⟩
theorem mfrexp_any (a E r:Nat) (x:Int) (ha:FinC a) (h:NormC a E r x) (w:World):Calls Tryz.prog 148 #[.float .f64 a] w fun e w'=>e=.returned (.tuple #[.float .f64 (1022*2^52+r),.int .i64 ((E:Int) - 1022+x)])∧w=w':=by
 have hf:=Lib.hid (mfrexp_in a E r x ha h w)
 clear h
 go_enter Tryz.func148,Tryz.ntmps148
 go_wp2_with (go_at_call 176;refine hf.out.mono ?_;rintro e w' ⟨rfl,rfl⟩)
 go_ret2
 exact⟨rfl,rfl⟩
theorem bits_exp_i (E:Nat) (hE:E < 2048):bits .and .i64 (E:Int) 2047=(E:Int):=by
 show IntKind.i64.wrap ((BitVec.ofInt 64 (E:Int) &&& BitVec.ofInt 64 2047).toNat:Int)=_
 rw[BitVec.ofInt_natCast,BitVec.toNat_and,BitVec.toNat_ofNat,Nat.mod_eq_of_lt (by omega),show (BitVec.ofInt 64 2047).toNat=2^11 - 1 by decide,Nat.and_two_pow_sub_one_eq_mod,Nat.mod_eq_of_lt (by omega),IntKind.wrap_i64]
 omega
set_option maxHeartbeats 2000000 in
theorem mldexp_in (k r:Nat) (p:Int) (hk:k≤52) (hr:r < 2^52) (hp1:-4096≤p) (hp2:p≤4096) (w:World):Calls Tryz.prog 204 #[.float .f64 ((1075 - k)*2^52+r),.int .i64 p] w fun e w'=>e=.returned (.float .f64 (ldC k r p))∧w=w':=by
 obtain⟨E,hE⟩:∃E,E=1075 - k:=⟨_,rfl⟩
 rw[←hE]
 obtain⟨F,hF⟩:∃F,F=E*2^52+r:=⟨_,rfl⟩
 rw[←hF]
 have hfin:FinC F:=hF ▸ pack_fin E r (by omega) (by omega) hr
 obtain⟨p1,p2⟩:=fin_plain F hfin
 have lt:=fin_lt F hfin
 have hinf:=misinf_any F (by omega) w
 have hnan:=misnan_any F (by omega) w
 rw[p2] at hinf
 rw[p1] at hnan
 have hn:=Lib.hid (mnorm_great F (by omega) (by omega) w)
 have hinf:=Lib.hid hinf
 have hnan:=Lib.hid hnan
 have hcop:=Lib.hid (mcopy0_any F (by omega) w)
 have hI:=Lib.hid (finf_any w)
 have o:FloatKind.f64.format.order F 0=some .gt:=order_gt F 0 (by have:=hfin.2;omega) (by omega) hfin.1
 have e1:(F:Int)/4503599627370496=(E:Int):=by omega
 have e2:=bits_exp_i E (by omega)
 have e3:IntKind.i64.wrap (E:Int)=(E:Int):=by rw[IntKind.wrap_i64];omega
 have e4:=bits_frac F (by omega)
 rw[show F%2^52=r by omega] at e4
 obtain⟨q,hq⟩:∃q,q=p+52 - (k:Int):=⟨_,rfl⟩
 have ex:IntKind.i64.wrap ((E:Int) - 1023)=(E:Int) - 1023:=by rw[IntKind.wrap_i64];omega
 have ey:IntKind.i64.wrap (p+((E:Int) - 1023))=q:=by rw[IntKind.wrap_i64];omega
 have ep:IntKind.i64.wrap p=p:=by rw[IntKind.wrap_i64];omega
 obtain⟨V,hV⟩:∃V,V=ldC k r p:=⟨_,rfl⟩
 rw[←hV]
 unfold ldC at hV
 rw[←hq] at hV
 have HV:=Lib.hid hV
 have hqb:-5000≤q∧q≤5000:=by omega
 clear hV p1 p2 lt hfin
 by_cases c1:q < -1075
 ·have HW:=Lib.hid (HV.out.trans (if_pos c1))
  clear HV hF hE hq hk hp1 hp2 hr hqb
  go_enter Tryz.func204,Tryz.ntmps204
  go_wp2_with (first
   | (go_at_call 114;refine hinf.out.mono ?_;rintro e w' ⟨rfl,rfl⟩)
   | (go_at_call 43;refine hnan.out.mono ?_;rintro e w' ⟨rfl,rfl⟩)
   | (go_at_call 95;refine hcop.out.mono ?_;rintro e w' ⟨rfl,rfl⟩)
   | (go_at_call 199;refine hn.out.mono ?_;rintro e w' ⟨rfl,rfl⟩))
  go_ret
  exact⟨by rw[HW.out];rfl,rfl⟩
 ·have HW:=Lib.hid (HV.out.trans (if_neg c1))
  clear HV
  have c1:-1075≤q:=by omega
  by_cases c2:1023 < q
  ·have HX:=Lib.hid (HW.out.trans (if_pos c2))
   clear HW hF hE hq hk hp1 hp2 hr hqb
   go_enter Tryz.func204,Tryz.ntmps204
   go_wp2_with (first
    | (go_at_call 114;refine hinf.out.mono ?_;rintro e w' ⟨rfl,rfl⟩)
    | (go_at_call 43;refine hnan.out.mono ?_;rintro e w' ⟨rfl,rfl⟩)
    | (go_at_call 96;refine hI.out.mono ?_;rintro e w' ⟨rfl,rfl⟩)
    | (go_at_call 199;refine hn.out.mono ?_;rintro e w' ⟨rfl,rfl⟩))
   go_ret
   exact⟨by rw[HX.out];rfl,rfl⟩
  ·have HX:=Lib.hid (HW.out.trans (if_neg c2))
   clear HW
   have c2:q≤1023:=by omega
   by_cases c3:q < -1022
   ·have HY:=Lib.hid (HX.out.trans (if_pos c3))
    obtain⟨G,hG⟩:∃G,G=(q+1076).toNat:=⟨_,rfl⟩
    rw[←hG] at HY
    have f1:IntKind.i64.wrap (q+53)=q+53:=by rw[IntKind.wrap_i64];omega
    have f2:IntKind.i64.wrap (q+53+1023)=(G:Int):=by rw[IntKind.wrap_i64];omega
    have f3:IntKind.u64.wrap (G:Int)=(G:Int):=by rw[IntKind.wrap_u64];omega
    have f4:IntKind.u64.wrap ((G:Int)*4503599627370496)=(((G*2^52:Nat)):Int):=by rw[IntKind.wrap_u64];omega
    have e5:=bits_lay r G hr (by omega)
    have hml:∀w',(binOp .mul 29 (.float .f64 4368491638549381120) (.float .f64 (G*2^52+r))).run Tryz.prog w'=.ok (.float .f64 (lowC G r)) w':=fun w'=>run_float_arith w' .mul _ .f64 _ _ _ (mul_low G r (by omega) (by omega) hr)
    obtain⟨X,hX⟩:∃X,X=G*2^52:=⟨_,rfl⟩
    rw[←hX] at e5 f4
    obtain⟨Y,hY⟩:∃Y,Y=X+r:=⟨_,rfl⟩
    rw[←hX,←hY] at hml
    rw[←hY] at e5
    clear HX hF hE hq hk hp1 hp2 hqb hr hG hX hY
    go_enter Tryz.func204,Tryz.ntmps204
    go_wp2_with (first
     | (go_at_call 114;refine hinf.out.mono ?_;rintro e w' ⟨rfl,rfl⟩)
     | (go_at_call 43;refine hnan.out.mono ?_;rintro e w' ⟨rfl,rfl⟩)
     | (go_at_call 199;refine hn.out.mono ?_;rintro e w' ⟨rfl,rfl⟩))
    go_ret
    exact⟨by rw[HY.out];rfl,rfl⟩
   ·have HY:=Lib.hid (HX.out.trans (if_neg c3))
    obtain⟨G,hG⟩:∃G,G=(q+1023).toNat:=⟨_,rfl⟩
    have HY:=HY.out
    rw[←hG] at HY
    have f2:IntKind.i64.wrap (q+1023)=(G:Int):=by rw[IntKind.wrap_i64];omega
    have f3:IntKind.u64.wrap (G:Int)=(G:Int):=by rw[IntKind.wrap_u64];omega
    have f4:IntKind.u64.wrap ((G:Int)*4503599627370496)=(((G*2^52:Nat)):Int):=by rw[IntKind.wrap_u64];omega
    have e5:=bits_lay r G hr (by omega)
    have hml:∀w',(binOp .mul 29 (.float .f64 4607182418800017408) (.float .f64 (G*2^52+r))).run Tryz.prog w'=.ok (.float .f64 (G*2^52+r)) w':=fun w'=>run_float_arith w' .mul _ .f64 _ _ _ (mul_one_pack G r (by omega) (by omega) hr)
    obtain⟨X,hX⟩:∃X,X=G*2^52:=⟨_,rfl⟩
    rw[←hX] at e5 f4
    obtain⟨Y,hY⟩:∃Y,Y=X+r:=⟨_,rfl⟩
    rw[←hX,←hY] at hml HY
    rw[←hY] at e5
    have HY:=Lib.hid HY
    have c3:-1022≤q:=by omega
    clear HX hF hE hq hk hp1 hp2 hqb hr hG hX hY
    go_enter Tryz.func204,Tryz.ntmps204
    go_wp2_with (first
     | (go_at_call 114;refine hinf.out.mono ?_;rintro e w' ⟨rfl,rfl⟩)
     | (go_at_call 43;refine hnan.out.mono ?_;rintro e w' ⟨rfl,rfl⟩)
     | (go_at_call 199;refine hn.out.mono ?_;rintro e w' ⟨rfl,rfl⟩))
    go_ret
    exact⟨by rw[HY.out];rfl,rfl⟩
set_option maxHeartbeats 4000000 in
theorem cparts_any (b:Nat) (hb:b < 2^64) (w:World) (hE:EnvC w):Calls Tryz.prog 113 #[.float .f64 b] w fun e w'=>e=.returned (.tuple #[.bool (partsC b).1,.int .u64 ((partsC b).2.1:Int),.int .i64 (partsC b).2.2])∧Below w.heap.size w w':=by
 have hnan:=misnan_any b hb w
 have hinf:=misinf_any b hb w
 have hsgn:=Lib.hid (msign_any b hb w)
 obtain⟨V,hV⟩:∃V,V=partsC b:=⟨_,rfl⟩
 rw[←hV]
 have HV:=Lib.hid hV
 clear hV
 cases hn:nanC b with
 | true =>
  rw[hn] at hnan
  have hnan:=Lib.hid hnan
  have HW:=Lib.hid (HV.out.trans (parts_nan b hn))
  clear HV hn hinf hsgn
  go_enter Tryz.func113,Tryz.ntmps113
  go_wp2_with (go_at_call 43;refine hnan.out.mono ?_;rintro e w' ⟨rfl,rfl⟩)
  go_ret3
  exact⟨by rw[HW.out];rfl,Below.refl _ _⟩
 | false =>
  rw[hn] at hnan
  have hnan:=Lib.hid hnan
  by_cases h0:magC b=0
  ·have o:=order_zero b hb hn h0
   have HW:=Lib.hid (HV.out.trans (parts_edge b hn (.inr h0)))
   clear HV hn hinf h0
   generalize negC b=g at *
   go_enter Tryz.func113,Tryz.ntmps113
   go_wp2_with (first
    | (go_at_call 43;refine hnan.out.mono ?_;rintro e w' ⟨rfl,rfl⟩)
    | (go_at_call 147;refine hsgn.out.mono ?_;rintro e w' ⟨rfl,rfl⟩))
   go_ret3
   exact⟨by rw[HW.out];rfl,Below.refl _ _⟩
  ·have o1:=order_other b hb hn h0
   by_cases h1:magC b=2047*2^52
   ·rw[decide_eq_true h1] at hinf
    have hinf:=Lib.hid hinf
    have HW:=Lib.hid (HV.out.trans (parts_edge b hn (.inl h1)))
    clear HV hn h0 h1
    generalize negC b=g at *
    rcases o1 with o | o
    all_goals
     go_enter Tryz.func113,Tryz.ntmps113
     go_wp2_with (first
      | (go_at_call 43;refine hnan.out.mono ?_;rintro e w' ⟨rfl,rfl⟩)
      | (go_at_call 114;refine hinf.out.mono ?_;rintro e w' ⟨rfl,rfl⟩)
      | (go_at_call 147;refine hsgn.out.mono ?_;rintro e w' ⟨rfl,rfl⟩))
     go_ret3
     exact⟨by rw[HW.out];rfl,Below.refl _ _⟩
   ·rw[decide_eq_false h1] at hinf
    have hinf:=Lib.hid hinf
    have hp:=parts_fin b hn (by rintro (h | h);exact h1 h;exact h0 h)
    have hfin:FinC (magC b):=by
     have hl:¬2047*2^52 < magC b:=of_decide_eq_false (show decide (2047*2^52 < magC b)=false from hn)
     unfold FinC;omega
    have habs:=Lib.hid (mabs_any b hb w)
    generalize magC b=a at *
    obtain⟨E,r,x,hN⟩:=norm_of a hfin
    obtain⟨b1,b2,b3,b4⟩:=norm_bd a E r x hN
    obtain⟨q1,q2⟩:=norm_parts a E r x hfin hN
    have hfr:=mfrexp_any a E r x hfin hN w
    rw[←q1,←q2] at hp
    have HW:=Lib.hid (HV.out.trans hp)
    obtain⟨Z,hZ⟩:∃Z,Z=1022*2^52+r:=⟨_,rfl⟩
    obtain⟨Y,hY⟩:∃Y,Y=1075*2^52+r:=⟨_,rfl⟩
    obtain⟨M,hM⟩:∃M,M=2^52+r:=⟨_,rfl⟩
    have hmul:∀w',(binOp .mul 29 (.float .f64 Z) (.float .f64 4845873199050653696)).run Tryz.prog w'=.ok (.float .f64 Y) w':=fun w'=>run_float_arith w' .mul _ .f64 _ _ _ (by rw[hZ,hY];exact mul_part r b3)
    have hcv:∀w',(convert 29 22 (.float .f64 Y)).run Tryz.prog w'=.ok (.int .u64 (M:Int)) w':=fun w'=>run_convert_float_int w' _ _ .f64 .u64 Y (M:Int) (by kernel_rfl) Tryz.underlying22 (by rw[hY,hM];exact to_int r b3)
    have htz:=tz_any M (by omega) (by omega) w hE.tz
    obtain⟨c1,c2⟩:=odd_twos M (by omega)
    have ht:twosC M≤53:=twos_le M 53 (by omega) (by omega)
    rw[←hZ] at hfr
    rw[←hM] at HW
    have hfr:=Lib.hid hfr
    have htz:=Lib.hid htz
    generalize oddC M=m at *
    generalize twosC M=t at *
    have hmin:min t 64=t:=by omega
    have hsh:((M:Nat):Int)/2^t=(m:Int):=by
     rw[c2,Int.natCast_mul,Int.natCast_pow]
     exact Int.mul_ediv_cancel _ (by have:=Nat.pow_pos (n:=t) (show 0 < 2 by omega);omega)
    obtain⟨P,hP⟩:∃P:Int,P=(E:Int) - 1022+x:=⟨_,rfl⟩
    rw[←hP] at hfr HW
    have w1:IntKind.i64.wrap (P - 53)=P - 53:=by rw[IntKind.wrap_i64];omega
    have w2:IntKind.i64.wrap (P - 53+(t:Int))=P - 53+(t:Int):=by rw[IntKind.wrap_i64];omega
    clear HV hn h0 h1 hp hfin hN b1 b2 b3 b4 q1 q2 hZ hY hM c1 c2 ht hP
    rcases o1 with o | o
    all_goals
     go_enter Tryz.func113,Tryz.ntmps113
     go_wp2_with (first
      | (go_at_call 43;refine hnan.out.mono ?_;rintro e w' ⟨rfl,rfl⟩)
      | (go_at_call 114;refine hinf.out.mono ?_;rintro e w' ⟨rfl,rfl⟩)
      | (go_at_call 149;refine habs.out.mono ?_;rintro e w' ⟨rfl,rfl⟩)
      | (go_at_call 148;refine hfr.out.mono ?_;rintro e w' ⟨rfl,rfl⟩)
      | (go_at_call 150;refine htz.out.mono ?_;rintro e w' ⟨rfl,rfl⟩)
      | (go_at_call 147;refine hsgn.out.mono ?_;rintro e w' ⟨rfl,rfl⟩))
     go_region
     go_wp2
     go_ret3
     exact⟨by rw[HW.out];rfl,(Below.refl _ _).drew⟩
set_option maxHeartbeats 4000000 in
theorem ctext_any (b:Nat) (hb:b < 2^64) (w:World) (hE:EnvC w):Calls Tryz.prog 82 #[.float .f64 b] w fun e w'=>e=.returned (.string (bstr (textC b)))∧Below w.heap.size w w':=by
 have hpt:=cparts_any b hb w hE
 have hnan:=fun w'=>misnan_any b hb w'
 have hinf:=fun w'=>misinf_any b hb w'
 cases hn:nanC b with
 | true =>
  rw[hn] at hnan
  rw[parts_nan b hn] at hpt
  have HF:=Lib.hid (fun w' (h:EnvC w')=>fmt10_q 0 (by omega) w' h.pow)
  have HP:=Lib.hid hpt
  have hnan:=Lib.hid hnan
  have HW:=Lib.hid (text_nan b hn)
  generalize numL 10 0=X at *
  clear hn hpt hinf
  go_enter Tryz.func82,Tryz.ntmps82
  go_wp2_with (first
   | (go_at_call 113;refine HP.out.mono ?_;rintro e w1 ⟨rfl,hb1⟩;have hE1:=hE.next hb1)
   | (go_at_call 79;refine (HF.out _ hE1).mono ?_;rintro e w2 ⟨rfl,hb2⟩;have hb2:=hb1.trans (hb2.mono hb1.size);have hE2:=hE.next hb2)
   | (go_at_call 43;refine (hnan.out _).mono ?_;rintro e w' ⟨rfl,rfl⟩))
  go_ret
  exact⟨by rw[HW.out];rfl,hb2⟩
 | false =>
  rw[hn] at hnan
  have hnan:=Lib.hid hnan
  by_cases h0:magC b=0
  ·have HW:=Lib.hid (show textC b=(if negC b then [45] else [])++[48] by rw[text_of b hn,h0];rfl)
   rw[parts_edge b hn (.inr h0)] at hpt
   rw[decide_eq_false (by rw[h0];omega)] at hinf
   have hinf:=Lib.hid hinf
   have HF:=Lib.hid (fun w' (h:EnvC w')=>fmt10_q 0 (by omega) w' h.pow)
   rw[show numL 10 0=[48] from numL_small 10 0 (by omega)] at HF
   have HP:=Lib.hid hpt
   clear hpt hn h0
   cases hg:negC b
   all_goals
    rw[hg] at HP HW
    clear hg
    go_enter Tryz.func82,Tryz.ntmps82
    go_wp2_with (first
     | (go_at_call 113;refine HP.out.mono ?_;rintro e w1 ⟨rfl,hb1⟩;have hE1:=hE.next hb1)
     | (go_at_call 79;refine (HF.out _ hE1).mono ?_;rintro e w2 ⟨rfl,hb2⟩;have hb2:=hb1.trans (hb2.mono hb1.size);have hE2:=hE.next hb2)
     | (go_at_call 43;refine (hnan.out _).mono ?_;rintro e w' ⟨rfl,rfl⟩)
     | (go_at_call 114;refine (hinf.out _).mono ?_;rintro e w' ⟨rfl,rfl⟩))
    go_ret
    exact⟨by rw[HW.out];rfl,hb2⟩
  ·by_cases hi:magC b=2047*2^52
   ·have HW:=Lib.hid (show textC b=(if negC b then [45] else [])++[105,110,102] by rw[text_of b hn,hi];rfl)
    rw[parts_edge b hn (.inl hi)] at hpt
    rw[decide_eq_true hi] at hinf
    have hinf:=Lib.hid hinf
    have HF:=Lib.hid (fun w' (h:EnvC w')=>fmt10_q 0 (by omega) w' h.pow)
    generalize numL 10 0=X at *
    have HP:=Lib.hid hpt
    clear hpt hn h0 hi
    cases hg:negC b
    all_goals
     rw[hg] at HP HW
     clear hg
     go_enter Tryz.func82,Tryz.ntmps82
     go_wp2_with (first
      | (go_at_call 113;refine HP.out.mono ?_;rintro e w1 ⟨rfl,hb1⟩;have hE1:=hE.next hb1)
      | (go_at_call 79;refine (HF.out _ hE1).mono ?_;rintro e w2 ⟨rfl,hb2⟩;have hb2:=hb1.trans (hb2.mono hb1.size);have hE2:=hE.next hb2)
      | (go_at_call 43;refine (hnan.out _).mono ?_;rintro e w' ⟨rfl,rfl⟩)
      | (go_at_call 114;refine (hinf.out _).mono ?_;rintro e w' ⟨rfl,rfl⟩))
     go_ret
     exact⟨by rw[HW.out];rfl,hb2⟩
   ·obtain⟨b1,b2,b3,b4⟩:=fin_bounds b hn h0 hi
    have hT:=show textC b=(if negC b then [45] else [])++(numL 10 (oddC (sigC (magC b)))++112 :: intL (powC (magC b)+twosC (sigC (magC b)))) by rw[text_of b hn,body_fin _ h0 hi]
    rw[parts_fin b hn (by rintro (h | h);exact hi h;exact h0 h)] at hpt
    rw[decide_eq_false hi] at hinf
    have hinf:=Lib.hid hinf
    generalize oddC (sigC (magC b))=m at *
    generalize powC (magC b)+(twosC (sigC (magC b)):Int)=P at *
    have HF:=Lib.hid (fun w' (h:EnvC w')=>fmt10_q m (by omega) w' h.pow)
    have HI:=Lib.hid (fun w' (h:EnvC w')=>itoa_any P (by omega) (by omega) w' h)
    have hX:=numL_len 10 (by omega) 20 m (by omega)
    have hY:(intL P).length≤22:=by
     have:=numL_len 10 (by omega) 20 P.natAbs (by omega)
     unfold intL
     split
     ·rw[List.length_cons];omega
     ·omega
    have hzX:=size_bstr (numL 10 m)
    have hzY:=size_bstr (intL P)
    have hm0:((m:Int) != 0)=true:=by rw[bne_iff_ne];omega
    have HP:=Lib.hid hpt
    have HT:=Lib.hid hT
    clear hpt hn h0 hi hT b1 b2 b3 b4
    generalize intL P=I at *
    generalize numL 10 m=X at *
    cases hg:negC b with
    | true =>
     rw[hg] at HP HT
     clear hg
     go_enter Tryz.func82,Tryz.ntmps82
     go_wp2_with (first
      | (go_at_call 113;refine HP.out.mono ?_;rintro e w1 ⟨rfl,hb1⟩;have hE1:=hE.next hb1)
      | (go_at_call 79;refine (HF.out _ hE1).mono ?_;rintro e w2 ⟨rfl,hb2⟩;have hb2:=hb1.trans (hb2.mono hb1.size);have hE2:=hE.next hb2)
      | (go_at_call 43;refine (hnan.out _).mono ?_;rintro e w' ⟨rfl,rfl⟩)
      | (go_at_call 114;refine (hinf.out _).mono ?_;rintro e w' ⟨rfl,rfl⟩)
      | (go_at_call 112;refine (HI.out _ hE2).mono ?_;rintro e w3 ⟨rfl,hb3⟩;have hb3:=hb2.trans (hb3.mono hb2.size)))
     go_ret
     exact⟨by rw[HT.out];show Ending.returned (.string (bstr [45]++(bstr X++(bstr [112]++bstr I))))=_;rw[bstr_cat12,bstr_cat12,bstr_cat12];rfl,hb3⟩
    | false =>
     rw[hg] at HP HT
     clear hg
     go_enter Tryz.func82,Tryz.ntmps82
     go_wp2_with (first
      | (go_at_call 113;refine HP.out.mono ?_;rintro e w1 ⟨rfl,hb1⟩;have hE1:=hE.next hb1)
      | (go_at_call 79;refine (HF.out _ hE1).mono ?_;rintro e w2 ⟨rfl,hb2⟩;have hb2:=hb1.trans (hb2.mono hb1.size);have hE2:=hE.next hb2)
      | (go_at_call 43;refine (hnan.out _).mono ?_;rintro e w' ⟨rfl,rfl⟩)
      | (go_at_call 114;refine (hinf.out _).mono ?_;rintro e w' ⟨rfl,rfl⟩)
      | (go_at_call 112;refine (HI.out _ hE2).mono ?_;rintro e w3 ⟨rfl,hb3⟩;have hb3:=hb2.trans (hb3.mono hb2.size)))
     go_ret
     exact⟨by rw[HT.out];show Ending.returned (.string (bstr X++(bstr [112]++bstr I)))=_;rw[bstr_cat12,bstr_cat12];rfl,hb3⟩
theorem catmost_any (a b:Nat) (ha:a < 2^64) (hb:b < 2^64) (w:World) (_:EnvC w):Calls Tryz.prog 31 #[.float .f64 a,.float .f64 b] w fun e w'=>e=.returned (.bool (atMostC a b))∧Below w.heap.size w w':=by
 have ho:=order_of a b ha hb
 have e:(FloatKind.f64.format.order a b==some .lt||FloatKind.f64.format.order a b==some .eq)=atMostC a b:=by
  rw[ho]
  unfold atMostC
  cases nanC a with
  | true=>rw[if_pos (.inl rfl)];rfl
  | false =>
   cases nanC b with
   | true=>rw[if_pos (.inr rfl)];rfl
   | false =>
    rw[if_neg (by simp)]
    rcases Int.lt_trichotomy (rankC a) (rankC b) with h | h | h
    ·rw[cmp_lt h,decide_eq_true (by omega)];rfl
    ·rw[h,compare_self,decide_eq_true (by omega)];rfl
    ·rw[cmp_gt h,decide_eq_false (by omega)];rfl
 have HE:=Lib.hid e
 clear ho e
 go_enter Tryz.func31,Tryz.ntmps31
 go_wp2
 go_ret
 exact⟨by rw[←HE.out];rfl,Below.refl _ _⟩
end Go.Proofs.YtjieebmcbpdeiaaGreatDoor
