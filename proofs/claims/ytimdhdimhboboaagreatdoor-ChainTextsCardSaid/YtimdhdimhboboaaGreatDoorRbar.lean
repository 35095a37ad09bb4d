import Derived.Test.YtimdhdimhboboaaGreatDoorRbaq
import Derived.Test.YtimdhdimhboboaaGreatDoorRbab
import Derived.Test.YtimdhdimhboboaaGreatDoorRbap
import Derived.Test.YtimdhdimhboboaaGreatDoorRbah
import Derived.Test.YtimdhdimhboboaaGreatDoorRbam
import Derived.Test.YtimdhdimhboboaaGreatDoorRbaj
import Derived.Test.YtimdhdimhboboaaGreatDoorRbaf
namespace Go.Proofs.YtimdhdimhboboaaGreatDoor
set_option maxRecDepth 100000
open Go Go.RowKit
theorem w0V (c:UInt8):d0g c=(decide (97≤c.toNat∧c.toNat≤122)||decide (65≤c.toNat∧c.toNat≤90)||decide (48≤c.toNat∧c.toNat≤57)||decide (c.toNat=46)||decide (c.toNat=95)||decide (c.toNat=45)):=by
 unfold d0g
 have e:∀d:UInt8,(c==d)=decide (c.toNat=d.toNat):=by
  intro d
  rw[Bool.eq_iff_iff,beq_iff_eq,decide_eq_true_iff]
  exact UInt8.toNat_inj.symm
 rw[e 46,e 95,e 45]
 rfl
set_option maxHeartbeats 2000000 in
theorem w0M (c:UInt8) (w:World):Calls Tryz.prog 205 #[.int .u8 (c.toNat:Int)] w fun e w'=>e=.returned (.bool (d0g c))∧w=w':=by
 have HV:=Lib.hid (w0V c)
 have hbd:=c.toNat_lt
 generalize d0g c=V at *
 generalize c.toNat=n at *
 have key:∀(b:Bool),V=b→(∀K:Prop,True):=fun _ _ _=>trivial
 clear key
 rcases (show 0≤n∧n≤44∨n=45∨n=46∨n=47∨48≤n∧n≤57∨58≤n∧n≤64∨65≤n∧n≤90∨91≤n∧n≤94∨n=95∨n=96∨97≤n∧n≤122∨123≤n∧n≤255 by omega) with h | h | h | h | h | h | h | h | h | h | h | h
 ·have HW:=Lib.hid (show V=false by rw[HV.out];simp;omega)
  have a0:(n:Int) < 97:=by omega
  have a1:(n:Int)≤122:=by omega
  have a2:(n:Int) < 65:=by omega
  have a3:(n:Int)≤90:=by omega
  have a4:(n:Int) < 48:=by omega
  have a5:(n:Int)≤57:=by omega
  have a6:((n:Int)==46)=false:=by rw[beq_eq_false_iff_ne];omega
  have a7:((n:Int)==95)=false:=by rw[beq_eq_false_iff_ne];omega
  have a8:((n:Int)==45)=false:=by rw[beq_eq_false_iff_ne];omega
  clear HV h hbd
  go_enter Tryz.func205,Tryz.ntmps205
  go_wp2
  go_ret
  exact⟨by rw[HW.out];rfl,rfl⟩
 ·have HW:=Lib.hid (show V=true by rw[HV.out];simp;omega)
  have a0:(n:Int) < 97:=by omega
  have a1:(n:Int)≤122:=by omega
  have a2:(n:Int) < 65:=by omega
  have a3:(n:Int)≤90:=by omega
  have a4:(n:Int) < 48:=by omega
  have a5:(n:Int)≤57:=by omega
  have a6:((n:Int)==46)=false:=by rw[beq_eq_false_iff_ne];omega
  have a7:((n:Int)==95)=false:=by rw[beq_eq_false_iff_ne];omega
  have a8:((n:Int)==45)=true:=by rw[beq_iff_eq];omega
  clear HV h hbd
  go_enter Tryz.func205,Tryz.ntmps205
  go_wp2
  go_ret
  exact⟨by rw[HW.out];rfl,rfl⟩
 ·have HW:=Lib.hid (show V=true by rw[HV.out];simp;omega)
  have a0:(n:Int) < 97:=by omega
  have a1:(n:Int)≤122:=by omega
  have a2:(n:Int) < 65:=by omega
  have a3:(n:Int)≤90:=by omega
  have a4:(n:Int) < 48:=by omega
  have a5:(n:Int)≤57:=by omega
  have a6:((n:Int)==46)=true:=by rw[beq_iff_eq];omega
  have a7:((n:Int)==95)=false:=by rw[beq_eq_false_iff_ne];omega
  have a8:((n:Int)==45)=false:=by rw[beq_eq_false_iff_ne];omega
  clear HV h hbd
  go_enter Tryz.func205,Tryz.ntmps205
  go_wp2
  go_ret
  exact⟨by rw[HW.out];rfl,rfl⟩
 ·have HW:=Lib.hid (show V=false by rw[HV.out];simp;omega)
  have a0:(n:Int) < 97:=by omega
  have a1:(n:Int)≤122:=by omega
  have a2:(n:Int) < 65:=by omega
  have a3:(n:Int)≤90:=by omega
  have a4:(n:Int) < 48:=by omega
  have a5:(n:Int)≤57:=by omega
  have a6:((n:Int)==46)=false:=by rw[beq_eq_false_iff_ne];omega
  have a7:((n:Int)==95)=false:=by rw[beq_eq_false_iff_ne];omega
  have a8:((n:Int)==45)=false:=by rw[beq_eq_false_iff_ne];omega
  clear HV h hbd
  go_enter Tryz.func205,Tryz.ntmps205
  go_wp2
  go_ret
  exact⟨by rw[HW.out];rfl,rfl⟩
 ·have HW:=Lib.hid (show V=true by rw[HV.out];simp;omega)
  have a0:(n:Int) < 97:=by omega
  have a1:(n:Int)≤122:=by omega
  have a2:(n:Int) < 65:=by omega
  have a3:(n:Int)≤90:=by omega
  have a4:(48:Int)≤(n:Int):=by omega
  have a5:(n:Int)≤57:=by omega
  have a6:((n:Int)==46)=false:=by rw[beq_eq_false_iff_ne];omega
  have a7:((n:Int)==95)=false:=by rw[beq_eq_false_iff_ne];omega
  have a8:((n:Int)==45)=false:=by rw[beq_eq_false_iff_ne];omega
  clear HV h hbd
  go_enter Tryz.func205,Tryz.ntmps205
  go_wp2
  go_ret
  exact⟨by rw[HW.out];rfl,rfl⟩
 ·have HW:=Lib.hid (show V=false by rw[HV.out];simp;omega)
  have a0:(n:Int) < 97:=by omega
  have a1:(n:Int)≤122:=by omega
  have a2:(n:Int) < 65:=by omega
  have a3:(n:Int)≤90:=by omega
  have a4:(48:Int)≤(n:Int):=by omega
  have a5:decide ((n:Int)≤57)=false:=by exact decide_eq_false (by omega)
  have a6:((n:Int)==46)=false:=by rw[beq_eq_false_iff_ne];omega
  have a7:((n:Int)==95)=false:=by rw[beq_eq_false_iff_ne];omega
  have a8:((n:Int)==45)=false:=by rw[beq_eq_false_iff_ne];omega
  clear HV h hbd
  go_enter Tryz.func205,Tryz.ntmps205
  go_wp2
  go_ret
  exact⟨by rw[HW.out];rfl,rfl⟩
 ·have HW:=Lib.hid (show V=true by rw[HV.out];simp;omega)
  have a0:(n:Int) < 97:=by omega
  have a1:(n:Int)≤122:=by omega
  have a2:(65:Int)≤(n:Int):=by omega
  have a3:(n:Int)≤90:=by omega
  have a4:(48:Int)≤(n:Int):=by omega
  have a5:decide ((n:Int)≤57)=false:=by exact decide_eq_false (by omega)
  have a6:((n:Int)==46)=false:=by rw[beq_eq_false_iff_ne];omega
  have a7:((n:Int)==95)=false:=by rw[beq_eq_false_iff_ne];omega
  have a8:((n:Int)==45)=false:=by rw[beq_eq_false_iff_ne];omega
  clear HV h hbd
  go_enter Tryz.func205,Tryz.ntmps205
  go_wp2
  go_ret
  exact⟨by rw[HW.out];rfl,rfl⟩
 ·have HW:=Lib.hid (show V=false by rw[HV.out];simp;omega)
  have a0:(n:Int) < 97:=by omega
  have a1:(n:Int)≤122:=by omega
  have a2:(65:Int)≤(n:Int):=by omega
  have a3:decide ((n:Int)≤90)=false:=by exact decide_eq_false (by omega)
  have a4:(48:Int)≤(n:Int):=by omega
  have a5:decide ((n:Int)≤57)=false:=by exact decide_eq_false (by omega)
  have a6:((n:Int)==46)=false:=by rw[beq_eq_false_iff_ne];omega
  have a7:((n:Int)==95)=false:=by rw[beq_eq_false_iff_ne];omega
  have a8:((n:Int)==45)=false:=by rw[beq_eq_false_iff_ne];omega
  clear HV h hbd
  go_enter Tryz.func205,Tryz.ntmps205
  go_wp2
  go_ret
  exact⟨by rw[HW.out];rfl,rfl⟩
 ·have HW:=Lib.hid (show V=true by rw[HV.out];simp;omega)
  have a0:(n:Int) < 97:=by omega
  have a1:(n:Int)≤122:=by omega
  have a2:(65:Int)≤(n:Int):=by omega
  have a3:decide ((n:Int)≤90)=false:=by exact decide_eq_false (by omega)
  have a4:(48:Int)≤(n:Int):=by omega
  have a5:decide ((n:Int)≤57)=false:=by exact decide_eq_false (by omega)
  have a6:((n:Int)==46)=false:=by rw[beq_eq_false_iff_ne];omega
  have a7:((n:Int)==95)=true:=by rw[beq_iff_eq];omega
  have a8:((n:Int)==45)=false:=by rw[beq_eq_false_iff_ne];omega
  clear HV h hbd
  go_enter Tryz.func205,Tryz.ntmps205
  go_wp2
  go_ret
  exact⟨by rw[HW.out];rfl,rfl⟩
 ·have HW:=Lib.hid (show V=false by rw[HV.out];simp;omega)
  have a0:(n:Int) < 97:=by omega
  have a1:(n:Int)≤122:=by omega
  have a2:(65:Int)≤(n:Int):=by omega
  have a3:decide ((n:Int)≤90)=false:=by exact decide_eq_false (by omega)
  have a4:(48:Int)≤(n:Int):=by omega
  have a5:decide ((n:Int)≤57)=false:=by exact decide_eq_false (by omega)
  have a6:((n:Int)==46)=false:=by rw[beq_eq_false_iff_ne];omega
  have a7:((n:Int)==95)=false:=by rw[beq_eq_false_iff_ne];omega
  have a8:((n:Int)==45)=false:=by rw[beq_eq_false_iff_ne];omega
  clear HV h hbd
  go_enter Tryz.func205,Tryz.ntmps205
  go_wp2
  go_ret
  exact⟨by rw[HW.out];rfl,rfl⟩
 ·have HW:=Lib.hid (show V=true by rw[HV.out];simp;omega)
  have a0:(97:Int)≤(n:Int):=by omega
  have a1:(n:Int)≤122:=by omega
  have a2:(65:Int)≤(n:Int):=by omega
  have a3:decide ((n:Int)≤90)=false:=by exact decide_eq_false (by omega)
  have a4:(48:Int)≤(n:Int):=by omega
  have a5:decide ((n:Int)≤57)=false:=by exact decide_eq_false (by omega)
  have a6:((n:Int)==46)=false:=by rw[beq_eq_false_iff_ne];omega
  have a7:((n:Int)==95)=false:=by rw[beq_eq_false_iff_ne];omega
  have a8:((n:Int)==45)=false:=by rw[beq_eq_false_iff_ne];omega
  clear HV h hbd
  go_enter Tryz.func205,Tryz.ntmps205
  go_wp2
  go_ret
  exact⟨by rw[HW.out];rfl,rfl⟩
 ·have HW:=Lib.hid (show V=false by rw[HV.out];simp;omega)
  have a0:(97:Int)≤(n:Int):=by omega
  have a1:decide ((n:Int)≤122)=false:=by exact decide_eq_false (by omega)
  have a2:(65:Int)≤(n:Int):=by omega
  have a3:decide ((n:Int)≤90)=false:=by exact decide_eq_false (by omega)
  have a4:(48:Int)≤(n:Int):=by omega
  have a5:decide ((n:Int)≤57)=false:=by exact decide_eq_false (by omega)
  have a6:((n:Int)==46)=false:=by rw[beq_eq_false_iff_ne];omega
  have a7:((n:Int)==95)=false:=by rw[beq_eq_false_iff_ne];omega
  have a8:((n:Int)==45)=false:=by rw[beq_eq_false_iff_ne];omega
  clear HV h hbd
  go_enter Tryz.func205,Tryz.ntmps205
  go_wp2
  go_ret
  exact⟨by rw[HW.out];rfl,rfl⟩
theorem v0T (s:List UInt8):c0c s=(decide (1≤s.length)&&decide (s.length≤64)&&decide (s≠[46])&&decide (s≠[46,46])&&s.all d0g):=rfl
theorem c1l (s:List UInt8) (k:Nat) (h:k < s.length):(s.drop k).all d0g=(d0g (s.getD k 0)&&(s.drop (k+1)).all d0g):=by
 rw[List.drop_eq_getElem_cons h,List.all_cons,List.getD_eq_getElem?_getD,List.getElem?_eq_getElem h];rfl
theorem p0f (l k:List UInt8):((bstr l).toList==k)=decide (l=k):=by
 rw[a0n,Bool.eq_iff_iff,beq_iff_eq,decide_eq_true_iff]
set_option maxHeartbeats 2000000 in
theorem w0F (s:List UInt8) (hs:s.length≤100000) (w:World):Calls Tryz.prog 161 #[.string (bstr s)] w fun e w'=>e=.returned (.bool (c0c s))∧w=w':=by
 have hz:=a0f s
 have HV:=Lib.hid (v0T s)
 generalize c0c s=V at *
 by_cases h1:s.length < 1
 ·have HW:=Lib.hid (show V=false by rw[HV.out,decide_eq_false (by omega:¬1≤s.length)];rfl)
  have a1:(s.length:Int) < 1:=by omega
  clear HV
  go_enter Tryz.func161,Tryz.ntmps161
  go_wp2
  go_ret
  exact⟨by rw[HW.out];rfl,rfl⟩
 have a1:decide ((s.length:Int) < 1)=false:=decide_eq_false (by omega)
 by_cases h2:64 < s.length
 ·have HW:=Lib.hid (show V=false by rw[HV.out,decide_eq_false (by omega:¬s.length≤64),Bool.and_false];rfl)
  have a2:(64:Int) < (s.length:Int):=by omega
  clear HV
  go_enter Tryz.func161,Tryz.ntmps161
  go_wp2
  go_ret
  exact⟨by rw[HW.out];rfl,rfl⟩
 have a2:decide ((64:Int) < (s.length:Int))=false:=decide_eq_false (by omega)
 have e1:=p0f s [46]
 have e2:=p0f s [46,46]
 by_cases h3:s=[46]
 ·have HW:=Lib.hid (show V=false by rw[HV.out,decide_eq_false (fun h=>h h3:¬s≠[46]),Bool.and_false];rfl)
  rw[decide_eq_true h3] at e1
  clear HV h3 e2
  go_enter Tryz.func161,Tryz.ntmps161
  go_wp2
  go_ret
  exact⟨by rw[HW.out];rfl,rfl⟩
 rw[decide_eq_false h3] at e1
 by_cases h4:s=[46,46]
 ·have HW:=Lib.hid (show V=false by rw[HV.out,decide_eq_false (fun h=>h h4:¬s≠[46,46]),Bool.and_false];rfl)
  rw[decide_eq_true h4] at e2
  clear HV h4
  go_enter Tryz.func161,Tryz.ntmps161
  go_wp2
  go_ret
  exact⟨by rw[HW.out];rfl,rfl⟩
 rw[decide_eq_false h4] at e2
 have HW:=Lib.hid (show V=s.all d0g by rw[HV.out,decide_eq_true (show 1≤s.length by omega),decide_eq_true (show s.length≤64 by omega),decide_eq_true h3,decide_eq_true h4];rfl)
 clear HV h3 h4 h1 h2
 have hcall:=Lib.hid (fun c=>w0M c w)
 go_enter Tryz.func161,Tryz.ntmps161
 go_wp2
 clear a1 a2 e1 e2
 go_loop [3] (fun i=>∃k:Nat,k≤s.length∧i=.int .i64 k∧(s.drop k).all d0g=s.all d0g) (fun i=>s.length - (intOf i).toNat)
 case atStart=>exact⟨0,by omega,rfl,rfl⟩
 case round =>
  obtain⟨k,hk,rfl,hf⟩:=hrel
  by_cases hlt:k < s.length
  ·have hlt':(k:Int) < (s.length:Int):=by omega
   have hix:=a0Q s k hlt
   have HA:=Lib.hid (c1l s k hlt)
   have HF:=Lib.hid hf
   have hc:=hcall.out (s.getD k 0)
   have HC:=Lib.hid hc
   generalize s.getD k 0=c at *
   clear hf hc
   cases hsg:d0g c with
   | true =>
    have HN:=Lib.hid (show (s.drop (k+1)).all d0g=s.all d0g by rw[←HF.out,HA.out,hsg,Bool.true_and])
    rw[hsg] at HC
    clear HA hsg
    go_wp2_with (go_at_call 205;refine HC.out.mono ?_;rintro e w' ⟨rfl,rfl⟩)
    go_round
    case rel=>exact⟨k+1,by omega,by go_num,HN.out⟩
    case measure=>simp[intOf];omega
   | false =>
    have HN:=Lib.hid (show V=false by rw[HW.out,←HF.out,HA.out,hsg,Bool.false_and])
    rw[hsg] at HC
    clear HA hsg
    go_wp2_with (go_at_call 205;refine HC.out.mono ?_;rintro e w' ⟨rfl,rfl⟩)
    go_ret
    exact⟨by rw[HN.out];rfl,rfl⟩
  ·obtain rfl:k=s.length:=by omega
   have HN:=Lib.hid (show V=true by rw[HW.out,←hf,List.drop_length];rfl)
   clear hf
   go_wp2
   go_ret
   exact⟨by rw[HN.out];rfl,rfl⟩
set_option maxHeartbeats 2000000 in
theorem q0a (s:List UInt8) (hs:s.length≤1000) (w:World) :
  Calls Tryz.prog 160 #[.string (bstr s)] w fun e w'=>∃v,e=.returned v∧w'.ownsRow w.heap.size 9 1 v (a0h 47 s).length (a0I (a0h 47 s))∧Below w.heap.size w w':=by
 obtain⟨i0,hi,hz0,hz1,hz2⟩:=info_parts j0O
 have hz:=a0f s
 have hown0:(w.alloc (.cells #[] 9)).ownsRow w.heap.size 9 1 (.slice (some ⟨w.heap.size,0,none⟩) 0 0) 0 (a0I []):=World.ownsRow_lit w (e:=9) (size:=1) #[] 0 (Nat.le_refl _) (by unfold maxLen;omega) rfl
 have hb0:Below w.heap.size w (w.alloc (.cells #[] 9)):=(Below.refl _ w).alloc (Nat.le_refl _) _
 go_enter Tryz.func160,Tryz.ntmps160
 go_wp2
 go_loopw [3,4,5] (fun v f i wr=>∃(out:List (List UInt8)) (g k:Nat),k≤s.length+1∧g≤k∧i=.int .i64 k∧f=.int .i64 g∧wr.ownsRow w.heap.size 9 1 v out.length (a0I out)∧Below w.heap.size w wr∧out.length≤k ∧
   (k≤s.length∧out++a0h 47 (s.drop g)=a0h 47 s∧(∀c∈(s.drop g).take (k - g),c≠47)∨k=s.length+1∧out=a0h 47 s)) (fun _ _ i _=>s.length+1 - (intOf i).toNat)
 case atStart=>exact⟨[],0,0,by omega,by omega,rfl,rfl,hown0,hb0,by simp,.inl ⟨by omega,rfl,by simp⟩⟩
 case round =>
  clear hown0 hb0
  obtain⟨out,g,k,hk,hg,rfl,rfl,hown,hb,hol,hcase⟩:=hrel
  by_cases hlt:k≤s.length
  ·obtain⟨-,hsp,hno⟩:k≤s.length∧out++a0h 47 (s.drop g)=a0h 47 s∧(∀c∈(s.drop g).take (k - g),c≠47):=by
    rcases hcase with h | ⟨h,_⟩
    ·exact h
    ·omega
   have hlt':(k:Int)≤(s.length:Int):=by omega
   have hg':(g:Int)≤(k:Int):=by omega
   have hex:=a0y s g k
   have hbs:=hb.size
   have n1:out.length+1≤maxLen:=by unfold maxLen;omega
   have n2:(out.length+1)*16≤140737488355328:=by omega
   by_cases he:k=s.length
   ·have heb:((k:Int)==(s.length:Int))=true:=by rw[he];exact beq_self_eq_true _
    have HF:=Lib.hid (show out++[(s.drop g).take (k - g)]=a0h 47 s by
     have e:(s.drop g).take (k - g)=s.drop g:=by rw[List.take_of_length_le];rw[List.length_drop];omega
     rw[e] at hno ⊢
     rw[←hsp,c0S 47 _ hno])
    have HK:=Lib.hid he
    generalize (s.drop g).take (k - g)=p at *
    clear hcase hsp hno he
    have hslp:Sl (wr.alloc (.cells #[.string (bstr p)] 9)) (some ⟨wr.heap.size,0,none⟩) 1 (a0I [p]):=c0O (a0I [p]) rfl 1 rfl
    have howna:=hown.alloc (.cells #[.string (bstr p)] 9)
    have hbe:=hb.alloc hb.size (.cells #[.string (bstr p)] 9)
    go_wp2_with (at_builtin;refine a0k rfl (.tmp 23) (.tmp 28) 59 rfl w.heap.size 9 i0 _ 16 Tryz.underlying59 hi hz0 hz1 hz2 rfl _ out.length (a0I out) rfl howna (some ⟨wr.heap.size,0,none⟩) 1 1 (a0I [p]) rfl rfl hslp (d0x _) n1 n2 hbe.size ?_;intro v3 w3 hown3 hg3;have hb3:=hbe.grown hg3 hbe.size (fun j hj=>(howna.lt j hj).1);rw[←c0y] at hown3)
    go_roundw
    case rel=>exact⟨out++[p],k+1,k+1,by omega,by omega,by go_num,by go_num,by rw[List.length_append];exact hown3,hb3,by rw[List.length_append];simp;omega,.inr ⟨by rw[HK.out],HF.out⟩⟩
    case measure=>simp[intOf];omega
   ·have heb:((k:Int)==(s.length:Int))=false:=by rw[beq_eq_false_iff_ne];omega
    have hlt2:k < s.length:=by omega
    have hix:=a0Q s k hlt2
    by_cases hc:s.getD k 0=47
    ·have e2:a0h 47 (s.drop g)=(s.drop g).take (k - g) :: a0h 47 (s.drop (k+1)):=by
      conv=>lhs;rw[i0c s g k hg hlt2,hc]
      exact d0U 47 _ _ hno
     have HF:=Lib.hid (show (out++[(s.drop g).take (k - g)])++a0h 47 (s.drop (k+1))=a0h 47 s by
      rw[←hsp,e2,List.append_assoc];rfl)
     rw[hc] at hix
     generalize (s.drop g).take (k - g)=p at *
     clear hcase hsp hno hc e2
     have hslp:Sl (wr.alloc (.cells #[.string (bstr p)] 9)) (some ⟨wr.heap.size,0,none⟩) 1 (a0I [p]):=c0O (a0I [p]) rfl 1 rfl
     have howna:=hown.alloc (.cells #[.string (bstr p)] 9)
     have hbe:=hb.alloc hb.size (.cells #[.string (bstr p)] 9)
     go_wp2_with (at_builtin;refine a0k rfl (.tmp 23) (.tmp 28) 59 rfl w.heap.size 9 i0 _ 16 Tryz.underlying59 hi hz0 hz1 hz2 rfl _ out.length (a0I out) rfl howna (some ⟨wr.heap.size,0,none⟩) 1 1 (a0I [p]) rfl rfl hslp (d0x _) n1 n2 hbe.size ?_;intro v3 w3 hown3 hg3;have hb3:=hbe.grown hg3 hbe.size (fun j hj=>(howna.lt j hj).1);rw[←c0y] at hown3)
     go_roundw
     case rel=>exact⟨out++[p],k+1,k+1,by omega,by omega,by go_num,by go_num,by rw[List.length_append];exact hown3,hb3,by rw[List.length_append];simp;omega,.inl ⟨by omega,HF.out,by simp⟩⟩
     case measure=>simp[intOf];omega
    ·have HN:=Lib.hid (show ∀c∈(s.drop g).take (k+1 - g),c≠47 by
      rw[i0r s g k hg hlt2]
      intro c hcm
      rcases List.mem_append.1 hcm with h | h
      ·exact hno c h
      ·rw[List.mem_singleton.1 h];exact hc)
     have HS:=Lib.hid hsp
     have hxc:(((s.getD k 0).toNat:Int)==47)=false:=by
      rw[beq_eq_false_iff_ne]
      intro h
      exact hc (UInt8.toNat_inj.1 (by rw[show (47:UInt8).toNat=47 from rfl];omega))
     generalize s.getD k 0=y at *
     clear hcase hsp hno hc hex
     go_wp2
     go_roundw
     case rel=>exact⟨out,g,k+1,by omega,by omega,by go_num,rfl,hown,hb,by omega,.inl ⟨by omega,HS.out,HN.out⟩⟩
     case measure=>simp[intOf];omega
  ·obtain rfl:k=s.length+1:=by omega
   obtain rfl:out=a0h 47 s:=by
    rcases hcase with ⟨h,_⟩ | ⟨_,h⟩
    ·omega
    ·exact h
   have hgt:(s.length:Int) < ((s.length+1:Nat):Int):=by omega
   clear hcase
   go_wp2
   go_ret
   exact⟨_,rfl,hown,hb⟩
theorem t0n (p:List UInt8) (h:256 < p.length):b0N p=false:=by
 match p,h with
 | c :: r,h =>
  by_cases hc:c=47
  ·subst hc
   show (decide (r=[])||(decide (r.length+1≤256)&&(a0h 47 r).all c0c))=false
   rw[List.length_cons] at h
   rw[decide_eq_false (by omega:¬r.length+1≤256),decide_eq_false (by rintro rfl;simp at h)];rfl
  ·unfold b0N
   split
   ·rename_i e;exact absurd (List.cons.inj e).1 hc
   ·rfl
theorem p0S (p:List UInt8) (h:p.getD 0 0≠47):b0N p=false:=by
 unfold b0N
 split
 ·exact absurd rfl h
 ·rfl
theorem o0u (r:List UInt8) (h:r≠[]) (hl:r.length+1≤256):b0N (47 :: r)=(a0h 47 r).all c0c:=by
 show (decide (r=[])||(decide (r.length+1≤256)&&(a0h 47 r).all c0c))=_
 rw[decide_eq_false h,decide_eq_true hl];rfl
theorem x0q (x:UInt8) (r:List UInt8) (n:Nat) (h:n=r.length+1):(bstr (x :: r)).extract 1 n=bstr r:=by
 subst h
 rw[a0y,List.drop_succ_cons,List.drop_zero,Nat.add_sub_cancel,List.take_length]
theorem a1v (ps:List (List UInt8)) (k:Nat) (h:k < ps.length):(ps.drop k).all c0c=(c0c (ps.getD k [])&&(ps.drop (k+1)).all c0c):=by
 rw[List.drop_eq_getElem_cons h,List.all_cons,List.getD_eq_getElem?_getD,List.getElem?_eq_getElem h];rfl
set_option maxHeartbeats 2000000 in
theorem t0t (p:List UInt8) (hp:p.length≤100000) (w:World):Calls Tryz.prog 121 #[.string (bstr p)] w fun e w'=>e=.returned (.bool (b0N p))∧Below w.heap.size w w':=by
 have hz:=a0f p
 obtain⟨V,hV⟩:∃V,V=b0N p:=⟨_,rfl⟩
 have HV:=Lib.hid hV
 rw[←hV]
 clear hV
 have e1:=p0f p [47]
 by_cases h1:p=[47]
 ·have HW:=Lib.hid (show V=true by rw[HV.out,h1];rfl)
  rw[decide_eq_true h1] at e1
  clear HV h1
  go_enter Tryz.func121,Tryz.ntmps121
  go_wp2
  go_ret
  exact⟨by rw[HW.out];rfl,Below.refl _ _⟩
 rw[decide_eq_false h1] at e1
 by_cases h2:256 < p.length
 ·have HW:=Lib.hid (show V=false by rw[HV.out];exact t0n p h2)
  have a1:(256:Int) < (p.length:Int):=by omega
  clear HV h1
  go_enter Tryz.func121,Tryz.ntmps121
  go_wp2
  go_ret
  exact⟨by rw[HW.out];rfl,Below.refl _ _⟩
 have a1:decide ((256:Int) < (p.length:Int))=false:=decide_eq_false (by omega)
 by_cases h3:p=[]
 ·have HW:=Lib.hid (show V=false by rw[HV.out,h3];rfl)
  have a2:((p.length:Int)==0)=true:=by rw[h3];rfl
  clear HV h1 h3
  go_enter Tryz.func121,Tryz.ntmps121
  go_wp2
  go_ret
  exact⟨by rw[HW.out];rfl,Below.refl _ _⟩
 have hpos:0 < p.length:=List.length_pos_iff.2 h3
 have a2:((p.length:Int)==0)=false:=by rw[beq_eq_false_iff_ne];omega
 have hix:∀w',(Instr.index 9 (.string (bstr p)) (.int .i64 0)).run Tryz.prog w'=.ok (.int .u8 ((p.getD 0 0).toNat:Int)) w':=fun w'=>a0Q p 0 hpos w'
 by_cases h4:p.getD 0 0=47
 ·obtain⟨r,rfl⟩:∃r,p=47 :: r:=by
   cases p with
   | nil=>exact absurd rfl h3
   | cons c r=>exact⟨r,by rw[show c=47 from h4]⟩
  have hr:r≠[]:=fun h=>h1 (by rw[h])
  have hrl:r.length+1≤256:=by rw[List.length_cons] at h2;omega
  have HW:=Lib.hid (show V=(a0h 47 r).all c0c by rw[HV.out];exact o0u r hr hrl)
  rw[h4] at hix
  have a4:((47:UInt8).toNat:Int)=47:=rfl
  rw[a4] at hix
  have hex:=x0q 47 r (r.length+1) rfl
  have hcp:=Lib.hid (q0a r (by omega) w)
  have hnm:=Lib.hid (fun s (h:s∈a0h 47 r) w'=>w0F s (by have:=d0w 47 r s h;omega) w')
  have hlen:=c0T 47 r
  generalize bstr (47 :: r)=P at *
  rw[List.length_cons] at hz
  have a1:decide ((256:Int) < (r.length:Int)+1)=false:=decide_eq_false (by omega)
  have a2:((r.length:Int)+1==0)=false:=by rw[beq_eq_false_iff_ne];omega
  clear HV h1 h2 h3 h4 hr hpos a4 hp
  generalize a0h 47 r=ps at *
  go_enter Tryz.func121,Tryz.ntmps121
  go_wp2_with (go_at_call 160;refine hcp.out.mono ?_;rintro e w1 ⟨v,rfl,hown,hb1⟩;obtain⟨A,c,rfl,hpl,hsl⟩:=Sl.of_own hown;clear hpl)
  clear a1 a2 e1 hix hex hz hown hcp
  go_loop [24] (fun i=>∃k:Nat,k≤ps.length∧i=.int .i64 k∧(ps.drop k).all c0c=ps.all c0c) (fun i=>ps.length - (intOf i).toNat)
  case atStart=>exact⟨0,by omega,rfl,rfl⟩
  case round =>
   obtain⟨k,hk,rfl,hf⟩:=hrel
   by_cases hlt:k < ps.length
   ·have hlt':(k:Int) < (ps.length:Int):=by omega
    obtain⟨b,o,rfl,-,-⟩:=hsl.rd.get (i:=k) (by rw[a0B];exact hlt)
    have hix:=b0R (some ⟨b,o,none⟩) b o ps.length c k rfl hlt
    have hce:=c0z hsl k hlt
    have HA:=Lib.hid (a1v ps k hlt)
    have HF:=Lib.hid hf
    have HC:=Lib.hid (hnm.out (ps.getD k []) (by rw[List.getD_eq_getElem?_getD,List.getElem?_eq_getElem hlt];exact List.getElem_mem hlt) w1)
    generalize ps.getD k []=s at *
    clear hf
    cases hsg:c0c s with
    | true =>
     have HN:=Lib.hid (show (ps.drop (k+1)).all c0c=ps.all c0c by rw[←HF.out,HA.out,hsg,Bool.true_and])
     rw[hsg] at HC
     clear HA hsg
     go_wp2_with (go_at_call 161;refine HC.out.mono ?_;rintro e w' ⟨rfl,rfl⟩)
     go_round
     case rel=>exact⟨k+1,by omega,by go_num,HN.out⟩
     case measure=>simp[intOf];omega
    | false =>
     have HN:=Lib.hid (show V=false by rw[HW.out,←HF.out,HA.out,hsg,Bool.false_and])
     rw[hsg] at HC
     clear HA hsg
     go_wp2_with (go_at_call 161;refine HC.out.mono ?_;rintro e w' ⟨rfl,rfl⟩)
     go_ret
     exact⟨by rw[HN.out];rfl,hb1⟩
   ·obtain rfl:k=ps.length:=by omega
    have HN:=Lib.hid (show V=true by rw[HW.out,←hf,List.drop_length];rfl)
    clear hf
    go_wp2
    go_ret
    exact⟨by rw[HN.out];rfl,hb1⟩
 ·have HW:=Lib.hid (show V=false by rw[HV.out];exact p0S p h4)
  have a3:(((p.getD 0 0).toNat:Int)==47)=false:=by
   rw[beq_eq_false_iff_ne]
   intro h
   exact h4 (UInt8.toNat_inj.1 (by rw[show (47:UInt8).toNat=47 from rfl];omega))
  generalize p.getD 0 0=y at *
  clear HV h1 h2 h3 h4
  go_enter Tryz.func121,Tryz.ntmps121
  go_wp2
  go_ret
  exact⟨by rw[HW.out];rfl,Below.refl _ _⟩
def prdV (p:Prd) (A:Option Addr) (c:Nat):List Value:=[.int .i64 p.kind,.int .u64 (p.time:Int),.slice A p.names.length c,.string (bstr p.path)]++(rngV p.net++[.float .f64 p.cost])
theorem a0Z (p:Prd) (h:p.net.a.Ok) (A:Option Addr) (c:Nat):(prdV p A c).length=23:=by
 unfold prdV
 rw[List.length_append,List.length_append,a0w _ h];rfl
theorem c0F:(Tryz.prog.info? 70).map (·.size)=some 23:=by kernel_rfl
theorem k0l {w:World} {g:Nat} {t:TypeId} {p:Prd} {A:Option Addr} {c:Nat} (hn:p.net.a.Ok) (h:Row w g t (prdV p A c)) :
  w.cell? ⟨g,0,none⟩=some (.int .i64 p.kind)∧w.cell? ⟨g,1,none⟩=some (.int .u64 (p.time:Int))∧w.cell? ⟨g,2,none⟩=some (.slice A p.names.length c)∧w.cell? ⟨g,3,none⟩=some (.string (bstr p.path)) ∧
  w.rangeAt g 4 (rngV p.net)∧w.cell? ⟨g,22,none⟩=some (.float .f64 p.cost):=by
 refine⟨by rw[h.cell];rfl,by rw[h.cell];rfl,by rw[h.cell];rfl,by rw[h.cell];rfl,c0R (A:=[_,_,_,_]) (B:=rngV p.net) (C:=[.float .f64 p.cost]) h,?_⟩
 rw[h.cell]
 unfold prdV
 rw[List.getElem?_append_right (by simp),List.getElem?_append_right (by rw[a0w _ hn];simp),a0w _ hn]
 rfl
structure f0I (w:World) (p:Prd) (A:Option Addr) (c:Nat):Prop where
 ok:p.Ok
 names:Sl w A c (a0I p.names)
 lo:-9223372036854775808≤p.kind
 hi:p.kind≤9223372036854775807
 path:p.path.length≤4000
 sum:sumS p.names≤4000
theorem a1m (p:Prd) (A:Option Addr) (c:Nat) (hn:p.net.a.Ok):(prdV p A c)[0]?=some (.int .i64 p.kind)∧(prdV p A c)[1]?=some (.int .u64 (p.time:Int))∧(prdV p A c)[2]?=some (.slice A p.names.length c)∧(prdV p A c)[3]?=some (.string (bstr p.path))∧(prdV p A c)[22]?=some (.float .f64 p.cost):=by
 refine⟨rfl,rfl,rfl,rfl,?_⟩
 unfold prdV
 rw[List.getElem?_append_right (by simp),List.getElem?_append_right (by rw[a0w _ hn];simp),a0w _ hn]
 rfl
set_option maxHeartbeats 4000000 in
theorem o0G (p:Prd) (A:Option Addr) (c:Nat) (w:World) (h:f0I w p A c) :
  Calls Tryz.prog 84 #[.agg (prdV p A c).toArray] w fun e w'=>e=.returned (.tuple #[.string (bstr (a0t p).1),.string (bstr (a0t p).2)])∧Below w.heap.size w w':=by
 obtain⟨ok,hnm,hlo,hhi,hpl,hsm⟩:=h
 have hsz:=Lib.hid (show (Tryz.prog.info? 67).map (·.size)=some (rngV p.net).length by rw[a0w _ ok.net.a];exact c0f)
 have r1:Row (w.alloc (.cells (prdV p A c).toArray 70)) w.heap.size 70 (prdV p A c):=Row.new w _ _
 have hb1:Below w.heap.size w (w.alloc (.cells (prdV p A c).toArray 70)):=(Below.refl _ w).alloc (Nat.le_refl _) _
 obtain⟨x0,x1,x2,x3,x22⟩:=a1m p A c ok.net.a
 have KK:=Lib.hid (fun w' (h:Below (w.alloc (.cells (prdV p A c).toArray 70)).heap.size (w.alloc (.cells (prdV p A c).toArray 70)) w')=>k0l (p:=p) (A:=A) (c:=c) ok.net.a (r1.later h r1.lt))
 have K4:=Lib.hid ((k0l (p:=p) (A:=A) (c:=c) ok.net.a r1).2.2.2.2.1)
 obtain⟨X,hX⟩:∃X,X=prdV p A c:=⟨_,rfl⟩
 rw[←hX] at x0 x1 x2 x3 x22 r1 hb1 KK K4 ⊢
 have hs1:=hnm.later (Nat.le_refl _) hb1
 have hd:=Lib.hid (fun w'=>l0y p.time p.time w' (Nat.le_refl _) ok.time)
 have hj:=Lib.hid (p0T p.names (by omega) A c _ hs1)
 have hr:=Lib.hid (fun w'=>t0t p.path (by omega) w')
 have ht:=Lib.hid (fun w'=>k0r p.net ok.net w')
 have hf:=Lib.hid (fun w'=>n0z p.cost ok.cost w')
 clear hX r1 hnm hs1 hsm hpl
 by_cases e1:p.kind=1
 ·have HX:=Lib.hid (show a0t p=([98,101,102,111,114,101],numL 10 p.time) by unfold a0t;rw[if_pos e1])
  rw[e1] at x0
  clear KK
  go_enter Tryz.func84,Tryz.ntmps84
  go_wp2_with (first
   | (go_at_call 74;refine (hd.out _).mono ?_;rintro e w2 ⟨rfl,hq⟩;have hb2:=hb1.trans (hq.mono hb1.size)))
  go_ret2
  exact⟨by rw[HX.out];rfl,hb2⟩
 have n1:(p.kind==1)=false:=by rw[beq_eq_false_iff_ne];exact e1
 by_cases e2:p.kind=2
 ·have HX:=Lib.hid (show a0t p=([115,105,110,99,101],numL 10 p.time) by unfold a0t;rw[if_neg e1,if_pos e2])
  rw[e2] at x0
  clear KK e1 n1
  go_enter Tryz.func84,Tryz.ntmps84
  go_wp2_with (first
   | (go_at_call 74;refine (hd.out _).mono ?_;rintro e w2 ⟨rfl,hq⟩;have hb2:=hb1.trans (hq.mono hb1.size)))
  go_ret2
  exact⟨by rw[HX.out];rfl,hb2⟩
 have n2:(p.kind==2)=false:=by rw[beq_eq_false_iff_ne];exact e2
 by_cases e3:p.kind=3
 ·have HX:=Lib.hid (show a0t p=([111,112],b0L p.names) by unfold a0t;rw[if_neg e1,if_neg e2,if_pos e3])
  rw[e3] at x0
  clear KK e1 n1 e2 n2
  go_enter Tryz.func84,Tryz.ntmps84
  go_wp2_with (first
   | (go_at_call 120;refine hj.out.mono ?_;rintro e w2 ⟨rfl,rfl⟩))
  go_ret2
  exact⟨by rw[HX.out];rfl,hb1⟩
 have n3:(p.kind==3)=false:=by rw[beq_eq_false_iff_ne];exact e3
 by_cases e4:p.kind=4
 ·rw[e4] at x0
  cases hrt:b0N p.path with
  | true =>
   have HX:=Lib.hid (show a0t p=([112,97,116,104],p.path) by unfold a0t;rw[if_neg e1,if_neg e2,if_neg e3,if_pos ⟨e4,hrt⟩])
   rw[hrt] at hr
   clear e1 n1 e2 n2 e3 n3 hrt
   go_enter Tryz.func84,Tryz.ntmps84
   go_wp2_with (first
    | (go_at_call 121;refine (hr.out _).mono ?_;rintro e w2 ⟨rfl,hq⟩;have hb2:=hb1.trans (hq.mono hb1.size);have k3:=(KK.out _ hq).2.2.2.1))
   refine wp_region_noPanic ?_
   refine wp_region_held_drew (S:=fun w'=>w'=w2.drew) (by kernel_rfl) rfl (fun hHeld=>?_)
   refine rt 0 30 hHeld ?_ (hy:=by intro w hS;subst hS;go_simp;try with_reducible rfl)
   refine rt 1 31 hHeld ?_ (hy:=by intro w hS;subst hS;go_simp;try with_reducible rfl)
   refine rt 2 2 hHeld ?_ (hy:=by intro w hS;subst hS;go_simp;try with_reducible rfl)
   refine rt 3 3 hHeld ?_ (hy:=by intro w hS;subst hS;go_simp;try with_reducible rfl)
   refine wpAnyH_done (by kernel_rfl) ?_ _
   refine NoPanic.normal ?_
   go_wp2
   go_ret2
   exact⟨by rw[HX.out];rfl,hb2.drew⟩
  | false =>
   have HX:=Lib.hid (show a0t p=([],[]) by unfold a0t;rw[if_neg e1,if_neg e2,if_neg e3,if_neg (fun h=>by rw[hrt] at h;cases h.2),if_neg (by rw[e4];decide),if_neg (by rw[e4];decide)])
   rw[hrt] at hr
   clear e1 n1 e2 n2 e3 n3 hrt
   go_enter Tryz.func84,Tryz.ntmps84
   go_wp2_with (first
    | (go_at_call 121;refine (hr.out _).mono ?_;rintro e w2 ⟨rfl,hq⟩;have hb2:=hb1.trans (hq.mono hb1.size);have k0:=(KK.out _ hq).1;rw[e4] at k0))
   go_ret2
   exact⟨by rw[HX.out];rfl,hb2⟩
 have n4:(p.kind==4)=false:=by rw[beq_eq_false_iff_ne];exact e4
 by_cases e5:p.kind=5
 ·have HX:=Lib.hid (show a0t p=([110,101,116],b0t p.net) by unfold a0t;rw[if_neg e1,if_neg e2,if_neg e3,if_neg (fun h=>e4 h.1),if_pos e5])
  rw[e5] at x0
  clear KK e1 n1 e2 n2 e3 n3 e4 n4
  go_enter Tryz.func84,Tryz.ntmps84
  generalize rngV p.net=R at *
  go_wp2_with (first
   | (with_reducible refine wpList_load_mid rfl 67 (.tmp 35) rfl w.heap.size 4 rfl R _ K4.out Tryz.underlying67 rfl hsz.out ?_)
   | (go_at_call 78;refine (ht.out _).mono ?_;rintro e w2 ⟨rfl,hq⟩;have hb2:=hb1.trans (hq.mono hb1.size)))
  go_ret2
  exact⟨by rw[HX.out];rfl,hb2⟩
 have n5:(p.kind==5)=false:=by rw[beq_eq_false_iff_ne];exact e5
 by_cases e6:p.kind=6
 ·have HX:=Lib.hid (show a0t p=([99,111,115,116],b0C p.cost) by unfold a0t;rw[if_neg e1,if_neg e2,if_neg e3,if_neg (fun h=>e4 h.1),if_neg e5,if_pos e6])
  rw[e6] at x0
  clear KK e1 n1 e2 n2 e3 n3 e4 n4 e5 n5
  go_enter Tryz.func84,Tryz.ntmps84
  go_wp2_with (first
   | (go_at_call 81;refine (hf.out _).mono ?_;rintro e w2 ⟨rfl,hq⟩;have hb2:=hb1.trans (hq.mono hb1.size)))
  go_ret2
  exact⟨by rw[HX.out];rfl,hb2⟩
 have n6:(p.kind==6)=false:=by rw[beq_eq_false_iff_ne];exact e6
 have HX:=Lib.hid (show a0t p=([],[]) by unfold a0t;rw[if_neg e1,if_neg e2,if_neg e3,if_neg (fun h=>e4 h.1),if_neg e5,if_neg e6])
 clear KK e1 e2 e3 e4 e5 e6
 generalize p.kind=K at *
 go_enter Tryz.func84,Tryz.ntmps84
 go_wp2
 go_ret2
 exact⟨by rw[HX.out];rfl,hb1⟩
theorem b1H (a:Adr) (w:World):(Go.part 4 (adrV a).toArray 0).run Tryz.prog w=.ok (.bool a.v6) w:=by
 simp only[Go.part,isAgg,Sem.run_bind,run_underlying Tryz.underlying4,Result.andThen_ok,Sem.run_pure]
 rfl
theorem b1i (w:World):(isAgg 63).run Tryz.prog w=.ok true w:=by kernel_rfl
theorem z0M (w:World):(sizeOf 63).run Tryz.prog w=.ok 16 w:=by kernel_rfl
theorem a1j (a:Adr) (h:a.Ok) (w:World):(Go.part 63 (adrV a).toArray 1).run Tryz.prog w=.ok (.agg (byts a.b).toArray) w:=by
 have e:(adrV a).toArray.extract 1 17=(byts a.b).toArray:=by
  rw[List.extract_toArray]
  unfold adrV
  congr 1
  show (byts a.b).take 16=byts a.b
  exact List.take_of_length_le (by rw[a0b,h];exact Nat.le_refl _)
 simp only[Go.part,Sem.run_bind,b1i,Result.andThen_ok,if_true,z0M,Sem.run_pure]
 rw[e]
theorem q0f (d:Nat) (xs ys:List UInt8) (is:List Nat) (hx:∀i∈is,i < xs.length) (hy:∀i∈is,i < ys.length) (w:World) :
  (Op.eqItems (d+1) 5 1 (byts xs).toArray (byts ys).toArray is).run Tryz.prog w=.ok (is.all fun i=>decide (xs.getD i 0=ys.getD i 0)) w:=by
 induction is with
 | nil=>simp[Op.eqItems]
 | cons i is ih =>
  have h:=ih (fun j hj=>hx j (by simp[hj])) (fun j hj=>hy j (by simp[hj]))
  simp only[Op.eqItems,Sem.run_bind,h0L xs i (hx i (by simp)) w,h0L ys i (hy i (by simp)) w,Result.andThen_ok,run_equalIn_int w d 5 .u8 .u8 _ _ Tryz.underlying5,List.all_cons]
  generalize xs.getD i 0=a
  generalize ys.getD i 0=b
  by_cases e:a=b
  ·subst e
   simp only[BEq.rfl,Bool.not_true,Bool.false_eq_true,if_false,decide_true,Bool.true_and,h]
  ·have e':((a.toNat:Int)==(b.toNat:Int))=false:=by
    rw[beq_eq_false_iff_ne]
    intro h
    exact e (UInt8.toNat_inj.1 (by omega))
   simp only[e',e,Bool.not_false,if_true,decide_false,Bool.false_and,Sem.run_pure]
theorem a1O (a b:Adr) (ha:a.Ok) (hb:b.Ok) (w:World):(Op.equalIn 9999 65 (.agg (adrV a).toArray) (.agg (adrV b).toArray)).run Tryz.prog w=.ok (a.v6==b.v6&&decide (a.b=b.b)) w:=by
 rw[run_equalIn_struct w 9998 65 _ _ (by kernel_rfl) (by kernel_rfl)]
 obtain⟨i0,hi,_⟩:=info_parts infoByte
 have h16:(Op.equalIn 9998 63 (.agg (byts a.b).toArray) (.agg (byts b.b).toArray)).run Tryz.prog w=.ok (decide (a.b=b.b)) w:=by
  rw[run_equalIn_array w 9997 _ _ Tryz.underlying63 hi,k0X,q0f 9996 a.b b.b (List.range 16) (fun i h=>by rw[ha];simpa using h) (fun i h=>by rw[hb];simpa using h) w]
  have:=q0w a.b b.b (by rw[ha,hb])
  rw[ha] at this
  rw[this]
 have hb4:=run_equalIn_bool' (P:=Tryz.prog) w 9997 4 a.v6 b.v6 Tryz.underlying4
 cases hv:(a.v6==b.v6)<;>cases hd:decide (a.b=b.b)<;>rw[hv] at hb4<;>rw[hd] at h16 <;>
  simp[Program.fieldsOf,Tryz.underlying65,Op.eqFields,Sem.run_bind,b1H,a1j a ha,a1j b hb,hb4,h16]
theorem w0v (r:Rng) (h:r.a.Ok) (w:World):(Go.part 65 (rngV r).toArray 0).run Tryz.prog w=.ok (.agg (adrV r.a).toArray) w:=by
 have e:(rngV r).toArray.extract 0 17=(adrV r.a).toArray:=by
  rw[List.extract_toArray]
  congr 1
  unfold rngV
  show (adrV r.a++[Value.int .i64 r.n]).take 17=adrV r.a
  exact List.take_left' (a0l h)
 have h1:(isAgg 65).run Tryz.prog w=.ok true w:=by kernel_rfl
 have h2:(sizeOf 65).run Tryz.prog w=.ok 17 w:=by kernel_rfl
 simp only[Go.part,Sem.run_bind,h1,Result.andThen_ok,if_true,h2,Sem.run_pure]
 rw[e]
theorem w0w (r:Rng) (h:r.a.Ok) (w:World):(Go.part 3 (rngV r).toArray 17).run Tryz.prog w=.ok (.int .i64 r.n) w:=by
 have e:(rngV r).toArray[17]?=some (.int .i64 r.n):=by
  rw[List.getElem?_toArray]
  unfold rngV
  rw[List.getElem?_append_right (by rw[a0l h];exact Nat.le_refl _),a0l h];rfl
 simp only[Go.part,isAgg,Sem.run_bind,run_underlying Tryz.underlying3,Result.andThen_ok,Sem.run_pure]
 rw[if_neg (by decide),e];rfl
theorem a1b (a b:Rng) (ha:a.a.Ok) (hb:b.a.Ok) (w:World):(Op.equalIn 10000 67 (.agg (rngV a).toArray) (.agg (rngV b).toArray)).run Tryz.prog w=.ok ((a.a.v6==b.a.v6&&decide (a.a.b=b.a.b))&&a.n==b.n) w:=by
 rw[run_equalIn_struct w 9999 67 _ _ (by kernel_rfl) (by kernel_rfl)]
 have h1:=a1O a.a b.a ha hb w
 have h2:=run_equalIn_int (P:=Tryz.prog) w 9998 3 .i64 .i64 a.n b.n Tryz.underlying3
 cases hv:(a.a.v6==b.a.v6&&decide (a.a.b=b.a.b))<;>cases hd:(a.n==b.n)<;>rw[hv] at h1<;>rw[hd] at h2 <;>
  simp[Program.fieldsOf,Tryz.underlying67,Op.eqFields,Sem.run_bind,w0v a ha,w0v b hb,w0w a ha,w0w b hb,h1,h2]
theorem a0L {P:Program} {ops:Array Oper} {Q:Exit→Act→World→Prop} {a:Act} {w:World} {rest:List Oper} {d:Option Nat} {op:Op} {t:TypeId} {pos:String} {af:Array Edge} {g:Option (Nat×Bool)}
  (hw:Region.wanted ⟨d,op,t,pos,af,g⟩ (yielded ops a.tmps)=true) (h:wpList P ops Q (⟨d,op,t,pos,af,none⟩ :: rest) a w):wpList P ops Q (⟨d,op,t,pos,af,g⟩ :: rest) a w:=by
 unfold wpList at h ⊢
 rw[if_pos hw]
 rw[if_pos (show Region.wanted ⟨d,op,t,pos,af,none⟩ (yielded ops a.tmps)=true from rfl)] at h
 exact h
theorem i0v (s:List UInt8):(bstr s).toList.isEmpty=decide (s=[]):=by
 rw[a0n]
 cases s<;>rfl
set_option maxHeartbeats 16000000 in
theorem w0I (p:Prd) (A:Option Addr) (c:Nat) (w:World) (h:f0I w p A c) :
  Calls Tryz.prog 85 #[.agg (prdV p A c).toArray] w fun e w'=>e=.returned (.bool (h0J p))∧Below w.heap.size w w':=by
 obtain⟨ok,hnm,hlo,hhi,hpl,hsum⟩:=h
 have hsz:=Lib.hid (show (Tryz.prog.info? 67).map (·.size)=some (rngV p.net).length by rw[a0w _ ok.net.a];exact c0f)
 have r1:Row (w.alloc (.cells (prdV p A c).toArray 70)) w.heap.size 70 (prdV p A c):=Row.new w _ _
 have hb1:Below w.heap.size w (w.alloc (.cells (prdV p A c).toArray 70)):=(Below.refl _ w).alloc (Nat.le_refl _) _
 obtain⟨x0,x1,x2,x3,x22⟩:=a1m p A c ok.net.a
 have K4:=Lib.hid ((k0l (p:=p) (A:=A) (c:=c) ok.net.a r1).2.2.2.2.1)
 obtain⟨X,hX⟩:∃X,X=prdV p A c:=⟨_,rfl⟩
 rw[←hX] at x0 x1 x2 x3 x22 r1 hb1 K4 ⊢
 have a4:=(fun w'=>show (Op.equalIn 10000 67 (.agg (rngV p.net).toArray) (.agg #[.bool false,.int .u8 0,.int .u8 0,.int .u8 0,.int .u8 0,.int .u8 0,.int .u8 0,.int .u8 0,.int .u8 0,.int .u8 0,.int .u8 0,.int .u8 0,.int .u8 0,.int .u8 0,.int .u8 0,.int .u8 0,.int .u8 0,.int .i64 0])).run Tryz.prog w'=.ok (t0x p.net a0P) w' from a1b p.net a0P ok.net.a b0P.a w')
 have hsm:=fun w'=>v0d p.cost 0 w'
 have HV:=Lib.hid (show h0J p=((decide (p.kind=1)||decide (p.kind=2)||decide (p.time=0))&&(decide (p.kind=3)||decide (p.names=[]))&&(decide (p.kind=4)||decide (p.path=[]))&&(decide (p.kind=5)||t0x p.net a0P)&&(decide (p.kind=6)||decide (p.cost=0))) from rfl)
 have a1:((p.time:Int)==0)=decide (p.time=0):=by rw[Bool.eq_iff_iff];simp
 have a2:((p.names.length:Int)==0)=decide (p.names=[]):=by rw[Bool.eq_iff_iff];simp
 have a3:=i0v p.path
 clear hX r1 hnm hsum hpl
 generalize h0J p=V at *
 generalize decide (p.time=0)=b1 at *
 generalize decide (p.names=[])=b2 at *
 generalize decide (p.path=[])=b3 at *
 generalize t0x p.net a0P=b4 at *
 generalize decide (p.cost=0)=b5 at *
 generalize rngV p.net=R at *
 generalize p.names.length=N at *
 generalize p.kind=K at *
 replace hsm:=Lib.hid hsm
 by_cases e1:K=1
 ·subst e1
  have HX:=HV
  cases b2
  ·go_enter Tryz.func85,Tryz.ntmps85
   go_wp2
   go_ret
   exact⟨by rw[HX.out];rfl,hb1⟩
  cases b3
  ·go_enter Tryz.func85,Tryz.ntmps85
   go_wp2
   go_ret
   exact⟨by rw[HX.out];rfl,hb1⟩
  cases b4
  ·go_enter Tryz.func85,Tryz.ntmps85
   go_wp2_with (first | (with_reducible refine a0L (d:=some 43) ?_ ?_;kernel_rfl;with_reducible refine wpList_load_mid rfl 67 (.tmp 42) rfl w.heap.size 4 rfl R _ K4.out Tryz.underlying67 rfl hsz.out ?_))
   go_ret
   exact⟨by rw[HX.out];rfl,hb1⟩
  cases b5
  ·go_enter Tryz.func85,Tryz.ntmps85
   go_wp2_with (first | (with_reducible refine a0L (d:=some 43) ?_ ?_;kernel_rfl;with_reducible refine wpList_load_mid rfl 67 (.tmp 42) rfl w.heap.size 4 rfl R _ K4.out Tryz.underlying67 rfl hsz.out ?_) | (go_at_call 122;refine (hsm.out _).mono ?_;rintro e w' ⟨rfl,rfl⟩))
   go_ret
   exact⟨by rw[HX.out];rfl,hb1⟩
  go_enter Tryz.func85,Tryz.ntmps85
  go_wp2_with (first | (with_reducible refine a0L (d:=some 43) ?_ ?_;kernel_rfl;with_reducible refine wpList_load_mid rfl 67 (.tmp 42) rfl w.heap.size 4 rfl R _ K4.out Tryz.underlying67 rfl hsz.out ?_) | (go_at_call 122;refine (hsm.out _).mono ?_;rintro e w' ⟨rfl,rfl⟩))
  go_ret
  exact⟨by rw[HX.out];rfl,hb1⟩
 by_cases e2:K=2
 ·subst e2
  have HX:=HV
  cases b2
  ·go_enter Tryz.func85,Tryz.ntmps85
   go_wp2
   go_ret
   exact⟨by rw[HX.out];rfl,hb1⟩
  cases b3
  ·go_enter Tryz.func85,Tryz.ntmps85
   go_wp2
   go_ret
   exact⟨by rw[HX.out];rfl,hb1⟩
  cases b4
  ·go_enter Tryz.func85,Tryz.ntmps85
   go_wp2_with (first | (with_reducible refine a0L (d:=some 43) ?_ ?_;kernel_rfl;with_reducible refine wpList_load_mid rfl 67 (.tmp 42) rfl w.heap.size 4 rfl R _ K4.out Tryz.underlying67 rfl hsz.out ?_))
   go_ret
   exact⟨by rw[HX.out];rfl,hb1⟩
  cases b5
  ·go_enter Tryz.func85,Tryz.ntmps85
   go_wp2_with (first | (with_reducible refine a0L (d:=some 43) ?_ ?_;kernel_rfl;with_reducible refine wpList_load_mid rfl 67 (.tmp 42) rfl w.heap.size 4 rfl R _ K4.out Tryz.underlying67 rfl hsz.out ?_) | (go_at_call 122;refine (hsm.out _).mono ?_;rintro e w' ⟨rfl,rfl⟩))
   go_ret
   exact⟨by rw[HX.out];rfl,hb1⟩
  go_enter Tryz.func85,Tryz.ntmps85
  go_wp2_with (first | (with_reducible refine a0L (d:=some 43) ?_ ?_;kernel_rfl;with_reducible refine wpList_load_mid rfl 67 (.tmp 42) rfl w.heap.size 4 rfl R _ K4.out Tryz.underlying67 rfl hsz.out ?_) | (go_at_call 122;refine (hsm.out _).mono ?_;rintro e w' ⟨rfl,rfl⟩))
  go_ret
  exact⟨by rw[HX.out];rfl,hb1⟩
 by_cases e3:K=3
 ·subst e3
  have HX:=HV
  cases b1
  ·go_enter Tryz.func85,Tryz.ntmps85
   go_wp2
   go_ret
   exact⟨by rw[HX.out];rfl,hb1⟩
  cases b3
  ·go_enter Tryz.func85,Tryz.ntmps85
   go_wp2
   go_ret
   exact⟨by rw[HX.out];rfl,hb1⟩
  cases b4
  ·go_enter Tryz.func85,Tryz.ntmps85
   go_wp2_with (first | (with_reducible refine a0L (d:=some 43) ?_ ?_;kernel_rfl;with_reducible refine wpList_load_mid rfl 67 (.tmp 42) rfl w.heap.size 4 rfl R _ K4.out Tryz.underlying67 rfl hsz.out ?_))
   go_ret
   exact⟨by rw[HX.out];rfl,hb1⟩
  cases b5
  ·go_enter Tryz.func85,Tryz.ntmps85
   go_wp2_with (first | (with_reducible refine a0L (d:=some 43) ?_ ?_;kernel_rfl;with_reducible refine wpList_load_mid rfl 67 (.tmp 42) rfl w.heap.size 4 rfl R _ K4.out Tryz.underlying67 rfl hsz.out ?_) | (go_at_call 122;refine (hsm.out _).mono ?_;rintro e w' ⟨rfl,rfl⟩))
   go_ret
   exact⟨by rw[HX.out];rfl,hb1⟩
  go_enter Tryz.func85,Tryz.ntmps85
  go_wp2_with (first | (with_reducible refine a0L (d:=some 43) ?_ ?_;kernel_rfl;with_reducible refine wpList_load_mid rfl 67 (.tmp 42) rfl w.heap.size 4 rfl R _ K4.out Tryz.underlying67 rfl hsz.out ?_) | (go_at_call 122;refine (hsm.out _).mono ?_;rintro e w' ⟨rfl,rfl⟩))
  go_ret
  exact⟨by rw[HX.out];rfl,hb1⟩
 by_cases e4:K=4
 ·subst e4
  have HX:=HV
  cases b1
  ·go_enter Tryz.func85,Tryz.ntmps85
   go_wp2
   go_ret
   exact⟨by rw[HX.out];rfl,hb1⟩
  cases b2
  ·go_enter Tryz.func85,Tryz.ntmps85
   go_wp2
   go_ret
   exact⟨by rw[HX.out];rfl,hb1⟩
  cases b4
  ·go_enter Tryz.func85,Tryz.ntmps85
   go_wp2_with (first | (with_reducible refine a0L (d:=some 43) ?_ ?_;kernel_rfl;with_reducible refine wpList_load_mid rfl 67 (.tmp 42) rfl w.heap.size 4 rfl R _ K4.out Tryz.underlying67 rfl hsz.out ?_))
   go_ret
   exact⟨by rw[HX.out];rfl,hb1⟩
  cases b5
  ·go_enter Tryz.func85,Tryz.ntmps85
   go_wp2_with (first | (with_reducible refine a0L (d:=some 43) ?_ ?_;kernel_rfl;with_reducible refine wpList_load_mid rfl 67 (.tmp 42) rfl w.heap.size 4 rfl R _ K4.out Tryz.underlying67 rfl hsz.out ?_) | (go_at_call 122;refine (hsm.out _).mono ?_;rintro e w' ⟨rfl,rfl⟩))
   go_ret
   exact⟨by rw[HX.out];rfl,hb1⟩
  go_enter Tryz.func85,Tryz.ntmps85
  go_wp2_with (first | (with_reducible refine a0L (d:=some 43) ?_ ?_;kernel_rfl;with_reducible refine wpList_load_mid rfl 67 (.tmp 42) rfl w.heap.size 4 rfl R _ K4.out Tryz.underlying67 rfl hsz.out ?_) | (go_at_call 122;refine (hsm.out _).mono ?_;rintro e w' ⟨rfl,rfl⟩))
  go_ret
  exact⟨by rw[HX.out];rfl,hb1⟩
 by_cases e5:K=5
 ·subst e5
  have HX:=HV
  cases b1
  ·go_enter Tryz.func85,Tryz.ntmps85
   go_wp2
   go_ret
   exact⟨by rw[HX.out];rfl,hb1⟩
  cases b2
  ·go_enter Tryz.func85,Tryz.ntmps85
   go_wp2
   go_ret
   exact⟨by rw[HX.out];rfl,hb1⟩
  cases b3
  ·go_enter Tryz.func85,Tryz.ntmps85
   go_wp2
   go_ret
   exact⟨by rw[HX.out];rfl,hb1⟩
  cases b5
  ·go_enter Tryz.func85,Tryz.ntmps85
   go_wp2_with (first | (with_reducible refine a0L (d:=some 43) ?_ ?_;kernel_rfl;with_reducible refine wpList_load_mid rfl 67 (.tmp 42) rfl w.heap.size 4 rfl R _ K4.out Tryz.underlying67 rfl hsz.out ?_) | (go_at_call 122;refine (hsm.out _).mono ?_;rintro e w' ⟨rfl,rfl⟩))
   go_ret
   exact⟨by rw[HX.out];rfl,hb1⟩
  go_enter Tryz.func85,Tryz.ntmps85
  go_wp2_with (first | (with_reducible refine a0L (d:=some 43) ?_ ?_;kernel_rfl;with_reducible refine wpList_load_mid rfl 67 (.tmp 42) rfl w.heap.size 4 rfl R _ K4.out Tryz.underlying67 rfl hsz.out ?_) | (go_at_call 122;refine (hsm.out _).mono ?_;rintro e w' ⟨rfl,rfl⟩))
  go_ret
  exact⟨by rw[HX.out];rfl,hb1⟩
 by_cases e6:K=6
 ·subst e6
  have HX:=HV
  cases b1
  ·go_enter Tryz.func85,Tryz.ntmps85
   go_wp2
   go_ret
   exact⟨by rw[HX.out];rfl,hb1⟩
  cases b2
  ·go_enter Tryz.func85,Tryz.ntmps85
   go_wp2
   go_ret
   exact⟨by rw[HX.out];rfl,hb1⟩
  cases b3
  ·go_enter Tryz.func85,Tryz.ntmps85
   go_wp2
   go_ret
   exact⟨by rw[HX.out];rfl,hb1⟩
  cases b4
  ·go_enter Tryz.func85,Tryz.ntmps85
   go_wp2_with (first | (with_reducible refine a0L (d:=some 43) ?_ ?_;kernel_rfl;with_reducible refine wpList_load_mid rfl 67 (.tmp 42) rfl w.heap.size 4 rfl R _ K4.out Tryz.underlying67 rfl hsz.out ?_))
   go_ret
   exact⟨by rw[HX.out];rfl,hb1⟩
  go_enter Tryz.func85,Tryz.ntmps85
  go_wp2_with (first | (with_reducible refine a0L (d:=some 43) ?_ ?_;kernel_rfl;with_reducible refine wpList_load_mid rfl 67 (.tmp 42) rfl w.heap.size 4 rfl R _ K4.out Tryz.underlying67 rfl hsz.out ?_))
  go_ret
  exact⟨by rw[HX.out];rfl,hb1⟩
 have m1:(K==1)=false:=beq_eq_false_iff_ne.2 e1
 have m2:(K==2)=false:=beq_eq_false_iff_ne.2 e2
 have m3:(K==3)=false:=beq_eq_false_iff_ne.2 e3
 have m4:(K==4)=false:=beq_eq_false_iff_ne.2 e4
 have m5:(K==5)=false:=beq_eq_false_iff_ne.2 e5
 have m6:(K==6)=false:=beq_eq_false_iff_ne.2 e6
 have HX:=Lib.hid (show V=(b1&&b2&&b3&&b4&&b5) by rw[HV.out,decide_eq_false e1,decide_eq_false e2,decide_eq_false e3,decide_eq_false e4,decide_eq_false e5,decide_eq_false e6];rfl)
 clear HV e1 e2 e3 e4 e5 e6
 cases b1
 ·go_enter Tryz.func85,Tryz.ntmps85
  go_wp2
  go_ret
  exact⟨by rw[HX.out];rfl,hb1⟩
 cases b2
 ·go_enter Tryz.func85,Tryz.ntmps85
  go_wp2
  go_ret
  exact⟨by rw[HX.out];rfl,hb1⟩
 cases b3
 ·go_enter Tryz.func85,Tryz.ntmps85
  go_wp2
  go_ret
  exact⟨by rw[HX.out];rfl,hb1⟩
 cases b4
 ·go_enter Tryz.func85,Tryz.ntmps85
  go_wp2_with (first | (with_reducible refine a0L (d:=some 43) ?_ ?_;kernel_rfl;with_reducible refine wpList_load_mid rfl 67 (.tmp 42) rfl w.heap.size 4 rfl R _ K4.out Tryz.underlying67 rfl hsz.out ?_))
  go_ret
  exact⟨by rw[HX.out];rfl,hb1⟩
 cases b5
 ·go_enter Tryz.func85,Tryz.ntmps85
  go_wp2_with (first | (with_reducible refine a0L (d:=some 43) ?_ ?_;kernel_rfl;with_reducible refine wpList_load_mid rfl 67 (.tmp 42) rfl w.heap.size 4 rfl R _ K4.out Tryz.underlying67 rfl hsz.out ?_) | (go_at_call 122;refine (hsm.out _).mono ?_;rintro e w' ⟨rfl,rfl⟩))
  go_ret
  exact⟨by rw[HX.out];rfl,hb1⟩
 go_enter Tryz.func85,Tryz.ntmps85
 go_wp2_with (first | (with_reducible refine a0L (d:=some 43) ?_ ?_;kernel_rfl;with_reducible refine wpList_load_mid rfl 67 (.tmp 42) rfl w.heap.size 4 rfl R _ K4.out Tryz.underlying67 rfl hsz.out ?_) | (go_at_call 122;refine (hsm.out _).mono ?_;rintro e w' ⟨rfl,rfl⟩))
 go_ret
 exact⟨by rw[HX.out];rfl,hb1⟩
end Go.Proofs.YtimdhdimhboboaaGreatDoor
