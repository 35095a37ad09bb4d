import Derived.Test.YtjieebmcbpdeiaaGreatDoorRcad
import Derived.Test.YtjieebmcbpdeiaaGreatDoorRcaa
import Derived.Test.YtjieebmcbpdeiaaGreatDoorRcaf
import Derived.Laws.Runes
import Derived.Laws.RangeAny
import Derived.Test.YtjieebmcbpdeiaaGreatDoorRcag
import Derived.Lib.AppendStr
import Derived.Test.YtjieebmcbpdeiaaGreatDoorRcae
import Derived.Test.YtjieebmcbpdeiaaGreatDoorRcai
import Derived.Test.YtjieebmcbpdeiaaGreatDoorRcaj
import Derived.Test.YtjieebmcbpdeiaaGreatDoorRcak
namespace Go.Proofs.YtjieebmcbpdeiaaGreatDoor
set_option maxRecDepth 100000
open Go Go.RowKit Go.Lib
theorem bstr_is' (l k:List UInt8):((bstr l).toList==k)=decide (l=k):=by
 rw[bstr_toList,Bool.eq_iff_iff,beq_iff_eq,decide_eq_true_iff]
def strangeN (x:Nat):Bool:=!(decide (97≤x)&&decide (x≤122))&&!(decide (65≤x)&&decide (x≤90))&&!(decide (48≤x)&&decide (x≤57))&&decide (x≠46)&&decide (x≠95)&&decide (x≠45)
theorem strange_byte (c:UInt8):strangeN c.toNat=!signB c:=by
 unfold strangeN signB
 have e:∀d:UInt8,(c==d)=decide (c.toNat=d.toNat):=by
  intro d
  rw[Bool.eq_iff_iff,beq_iff_eq,decide_eq_true_iff]
  exact UInt8.toNat_inj.symm
 rw[e 46,e 95,e 45,show (decide ((97:UInt8)≤c∧c≤122))=(decide (97≤c.toNat)&&decide (c.toNat≤122)) from by rw[Bool.decide_and];rfl,
  show (decide ((65:UInt8)≤c∧c≤90))=(decide (65≤c.toNat)&&decide (c.toNat≤90)) from by rw[Bool.decide_and];rfl,
  show (decide ((48:UInt8)≤c∧c≤57))=(decide (48≤c.toNat)&&decide (c.toNat≤57)) from by rw[Bool.decide_and];rfl]
 show _=!(_||decide (c.toNat=46)||decide (c.toNat=95)||decide (c.toNat=45))
 simp only[Bool.not_or,decide_not,Bool.not_and]
theorem strange_high (x:Nat) (h:128≤x):strangeN x=true:=by
 unfold strangeN
 rw[decide_eq_false (by omega:¬x≤122),decide_eq_false (by omega:¬x≤90),decide_eq_false (by omega:¬x≤57),decide_eq_true (by omega:x≠46),decide_eq_true (by omega:x≠95),decide_eq_true (by omega:x≠45)]
 simp
theorem sign_high (c:UInt8) (h:128≤c.toNat):signB c=false:=by
 have:=strange_byte c
 rw[strange_high _ h] at this
 cases hs:signB c with
 | false=>rfl
 | true=>rw[hs] at this;cases this
theorem all_from (s:List UInt8) (k:Nat) (h:k < s.length):(s.drop k).all signB=(signB (s[k])&&(s.drop (k+1)).all signB):=by
 rw[List.drop_eq_getElem_cons h,List.all_cons]
theorem idx_from (s:List UInt8):∀(f pos:Nat),s.length≤pos+f→decide (0≤idxFuncFrom strangeN true (bstr s) f pos)=!(s.drop pos).all signB:=by
 intro f
 have hz:=size_bstr s
 induction f with
 | zero =>
  intro pos h
  rw[List.drop_eq_nil_of_le (by omega)];rfl
 | succ f ih =>
  intro pos h
  rw[idxFuncFrom]
  by_cases hp:pos < s.length
  ·rw[if_pos (by omega),all_from s pos hp]
   have hp':pos < (bstr s).size:=by omega
   have hb:(bstr s)[pos]'hp'=s[pos]:=rfl
   by_cases ha:(s[pos]).toNat < 128
   ·have e:=decode_ascii (bstr s) pos hp' (by rw[hb];exact ha)
    rw[hb] at e
    rw[e]
    show decide (0≤if strangeN (s[pos]).toNat=true then (pos:Int) else idxFuncFrom strangeN true (bstr s) f (pos+1))=_
    rw[strange_byte]
    cases hs:signB s[pos] with
    | false=>rw[if_pos (by rfl)];simp
    | true =>
     rw[if_neg (by simp),ih (pos+1) (by omega),Bool.true_and]
   ·have e:=(decode_high (bstr s) pos hp' (by rw[hb];omega)).1
    rw[if_pos (strange_high _ e),sign_high _ (by omega)]
    simp
  ·rw[if_neg (by omega),List.drop_eq_nil_of_le (by omega)];rfl
theorem idx_sign (s:List UInt8):decide (0≤idxFunc strangeN true (bstr s))=!s.all signB:=by
 unfold idxFunc
 exact idx_from s _ 0 (by rw[size_bstr];omega)
theorem from_any (x:Nat) (a b:Int) (B:Nat) (w:World) (hc:w.cell? ⟨B,0,none⟩=some (.int .i32 x)) :
  Calls Tryz.prog 134 #[.int .i32 a,.int .i32 b,.pointer (some ⟨B,0,none⟩)] w fun e w'=>e=.returned (.bool (decide (a≤(x:Int))&&decide ((x:Int)≤b)))∧w=w':=by
 by_cases h1:a≤(x:Int)
 ·rw[decide_eq_true h1,Bool.true_and]
  go_enter Tryz.func134,Tryz.ntmps134
  go_wp2
  go_ret
  exact⟨rfl,rfl⟩
 ·have h1':decide (a≤(x:Int))=false:=decide_eq_false h1
  rw[h1',Bool.false_and]
  go_enter Tryz.func134,Tryz.ntmps134
  go_wp2
  go_ret
  exact⟨rfl,rfl⟩
theorem cast_range (x a b:Nat):(decide ((a:Int)≤(x:Int))&&decide ((x:Int)≤(b:Int)))=(decide (a≤x)&&decide (x≤b)):=by
 rw[show decide ((a:Int)≤(x:Int))=decide (a≤x) from decide_eq_decide.2 (by omega),show decide ((x:Int)≤(b:Int))=decide (x≤b) from decide_eq_decide.2 (by omega)]
set_option maxHeartbeats 2000000 in
theorem strange_any (x:Nat) (w:World) :
  Calls Tryz.prog 133 #[.int .i32 x] w fun e w'=>e=.returned (.bool (strangeN x))∧Below w.heap.size w w':=by
 have HV:=Lib.hid (show strangeN x=(!(decide (97≤x)&&decide (x≤122))&&!(decide (65≤x)&&decide (x≤90))&&!(decide (48≤x)&&decide (x≤57))&&decide (x≠46)&&decide (x≠95)&&decide (x≠45)) from rfl)
 generalize strangeN x=V at *
 have c1:=fun W hc=>cast_range x 97 122 ▸ from_any x 97 122 w.heap.size W hc
 have c2:=fun W hc=>cast_range x 65 90 ▸ from_any x 65 90 w.heap.size W hc
 have c3:=fun W hc=>cast_range x 48 57 ▸ from_any x 48 57 w.heap.size W hc
 have hcell:(w.alloc (.cells #[.int .i32 (x:Int)] 21)).cell? ⟨w.heap.size,0,none⟩=some (.int .i32 (x:Int)):=(Row.new w 21 [.int .i32 (x:Int)]).cell 0
 replace c1:=c1 _ hcell
 replace c2:=c2 _ hcell
 replace c3:=c3 _ hcell
 generalize (decide (97≤x)&&decide (x≤122))=b1 at *
 generalize (decide (65≤x)&&decide (x≤90))=b2 at *
 generalize (decide (48≤x)&&decide (x≤57))=b3 at *
 have C1:=Lib.hid c1
 have C2:=Lib.hid c2
 have C3:=Lib.hid c3
 clear c1 c2 c3
 have hb:Below w.heap.size w (w.alloc (.cells #[.int .i32 (x:Int)] 21)):=(Below.refl _ w).alloc (Nat.le_refl _) _
 have tok1:True:=trivial
 have tok2:True:=trivial
 cases b1 with
 | true =>
  have HW:=Lib.hid (show V=false by rw[HV.out];rfl)
  clear HV
  go_enter Tryz.func133,Tryz.ntmps133
  go_wp2_with (go_at_call 134;have _t:=tok1;refine C1.out.mono ?_;rintro e w' ⟨rfl,rfl⟩;clear tok1)
  go_ret
  exact⟨by rw[HW.out];rfl,hb⟩
 | false =>
  cases b2 with
  | true =>
   have HW:=Lib.hid (show V=false by rw[HV.out];rfl)
   clear HV
   go_enter Tryz.func133,Tryz.ntmps133
   go_wp2_with (first
    | (go_at_call 134;have _t:=tok1;refine C1.out.mono ?_;rintro e w' ⟨rfl,rfl⟩;clear tok1)
    | (go_at_call 134;have _t:=tok2;refine C2.out.mono ?_;rintro e w' ⟨rfl,rfl⟩;clear tok2))
   go_ret
   exact⟨by rw[HW.out];rfl,hb⟩
  | false =>
   cases b3 with
   | true =>
    have HW:=Lib.hid (show V=false by rw[HV.out];rfl)
    clear HV
    go_enter Tryz.func133,Tryz.ntmps133
    go_wp2_with (first
     | (go_at_call 134;have _t:=tok1;refine C1.out.mono ?_;rintro e w' ⟨rfl,rfl⟩;clear tok1)
     | (go_at_call 134;have _t:=tok2;refine C2.out.mono ?_;rintro e w' ⟨rfl,rfl⟩;clear tok2)
     | (go_at_call 134;refine C3.out.mono ?_;rintro e w' ⟨rfl,rfl⟩))
    go_ret
    exact⟨by rw[HW.out];rfl,hb⟩
   | false =>
    have HW:=Lib.hid (show V=(decide (x≠46)&&decide (x≠95)&&decide (x≠45)) by rw[HV.out];rfl)
    have n1:((x:Int) != 46)=decide (x≠46):=by rw[Bool.eq_iff_iff,bne_iff_ne,decide_eq_true_iff];omega
    have n2:((x:Int) != 95)=decide (x≠95):=by rw[Bool.eq_iff_iff,bne_iff_ne,decide_eq_true_iff];omega
    have n3:((x:Int) != 45)=decide (x≠45):=by rw[Bool.eq_iff_iff,bne_iff_ne,decide_eq_true_iff];omega
    generalize decide (x≠46)=D1 at *
    generalize decide (x≠95)=D2 at *
    generalize decide (x≠45)=D3 at *
    clear HV
    cases D1 with
    | false =>
     have HX:=Lib.hid (show V=false by rw[HW.out];rfl)
     clear HW
     go_enter Tryz.func133,Tryz.ntmps133
     go_wp2_with (first
      | (go_at_call 134;have _t:=tok1;refine C1.out.mono ?_;rintro e w' ⟨rfl,rfl⟩;clear tok1)
      | (go_at_call 134;have _t:=tok2;refine C2.out.mono ?_;rintro e w' ⟨rfl,rfl⟩;clear tok2)
      | (go_at_call 134;refine C3.out.mono ?_;rintro e w' ⟨rfl,rfl⟩))
     go_ret
     exact⟨by rw[HX.out];rfl,hb⟩
    | true =>
     cases D2 with
     | false =>
      have HX:=Lib.hid (show V=false by rw[HW.out];rfl)
      clear HW
      go_enter Tryz.func133,Tryz.ntmps133
      go_wp2_with (first
       | (go_at_call 134;have _t:=tok1;refine C1.out.mono ?_;rintro e w' ⟨rfl,rfl⟩;clear tok1)
       | (go_at_call 134;have _t:=tok2;refine C2.out.mono ?_;rintro e w' ⟨rfl,rfl⟩;clear tok2)
       | (go_at_call 134;refine C3.out.mono ?_;rintro e w' ⟨rfl,rfl⟩))
      go_ret
      exact⟨by rw[HX.out];rfl,hb⟩
     | true =>
      have HX:=Lib.hid (show V=D3 by rw[HW.out];rfl)
      clear HW
      go_enter Tryz.func133,Tryz.ntmps133
      go_wp2_with (first
       | (go_at_call 134;have _t:=tok1;refine C1.out.mono ?_;rintro e w' ⟨rfl,rfl⟩;clear tok1)
       | (go_at_call 134;have _t:=tok2;refine C2.out.mono ?_;rintro e w' ⟨rfl,rfl⟩;clear tok2)
       | (go_at_call 134;refine C3.out.mono ?_;rintro e w' ⟨rfl,rfl⟩))
      go_ret
      exact⟨by rw[HX.out];rfl,hb⟩
set_option maxHeartbeats 2000000 in
theorem isname_any (s:List UInt8) (w:World):Calls Tryz.prog 103 #[.string (bstr s)] w fun e w'=>e=.returned (.bool (nameL s))∧Below w.heap.size w w':=by
 have hz:=size_bstr s
 have HV:=Lib.hid (show nameL s=(decide (1≤s.length)&&decide (s.length≤64)&&decide (s≠[46])&&decide (s≠[46,46])&&s.all signB) from rfl)
 have hcf:=fun W=>Tryz.strings_ContainsFunc_grows 133 #[] (enters_of Tryz.func133 (by kernel_rfl) rfl) strangeN (bstr s) W (fun W' x _ _=>strange_any x W')
 rw[idx_sign] at hcf
 have HC:=Lib.hid hcf
 clear hcf
 generalize nameL s=V at *
 have e0:(bstr s).toList.isEmpty=decide (s=[]):=by rw[bstr_toList];cases s<;>rfl
 have e1:=bstr_is' s [46]
 have e2:=bstr_is' s [46,46]
 by_cases h0:s=[]
 ·have HW:=Lib.hid (show V=false by rw[HV.out,h0];rfl)
  rw[decide_eq_true h0] at e0
  clear HV h0 e1 e2
  go_enter Tryz.func103,Tryz.ntmps103
  go_wp2
  go_ret
  exact⟨by rw[HW.out];rfl,Below.refl _ _⟩
 rw[decide_eq_false h0] at e0
 have hpos:1≤s.length:=List.length_pos_iff.2 h0
 by_cases h2:64 < s.length
 ·have HW:=Lib.hid (show V=false by rw[HV.out,decide_eq_false (by omega:¬s.length≤64),Bool.and_false];rfl)
  have a2:decide ((s.length:Int)≤64)=false:=decide_eq_false (by omega)
  clear HV h0 e1 e2
  go_enter Tryz.func103,Tryz.ntmps103
  go_wp2
  go_ret
  exact⟨by rw[HW.out];rfl,Below.refl _ _⟩
 have a2:(s.length:Int)≤64:=by omega
 by_cases h3:s=[46]
 ·have HW:=Lib.hid (show V=false by rw[HV.out,decide_eq_false (fun h=>h h3:¬s≠[46]),Bool.and_false];rfl)
  rw[decide_eq_true h3] at e1
  clear HV h0 h3 e2
  go_enter Tryz.func103,Tryz.ntmps103
  go_wp2
  go_ret
  exact⟨by rw[HW.out];rfl,Below.refl _ _⟩
 rw[decide_eq_false h3] at e1
 by_cases h4:s=[46,46]
 ·have HW:=Lib.hid (show V=false by rw[HV.out,decide_eq_false (fun h=>h h4:¬s≠[46,46]),Bool.and_false];rfl)
  rw[decide_eq_true h4] at e2
  clear HV h0 h3 h4
  go_enter Tryz.func103,Tryz.ntmps103
  go_wp2
  go_ret
  exact⟨by rw[HW.out];rfl,Below.refl _ _⟩
 rw[decide_eq_false h4] at e2
 have HW:=Lib.hid (show V=s.all signB by rw[HV.out,decide_eq_true hpos,decide_eq_true (show s.length≤64 by omega),decide_eq_true h3,decide_eq_true h4];rfl)
 clear HV h0 h2 h3 h4 hpos
 go_enter Tryz.func103,Tryz.ntmps103
 go_wp2_with (go_at_call 74;refine (HC.out _).mono ?_;rintro e w' ⟨rfl,hb⟩)
 go_ret
 exact⟨by rw[HW.out];rfl,hb⟩
end Go.Proofs.YtjieebmcbpdeiaaGreatDoor
namespace Go.Proofs.YtjieebmcbpdeiaaGreatDoor
set_option maxRecDepth 100000
open Go Go.RowKit Go.Lib
theorem own_take {w:World} {base t n c:Nat} {A:Option Addr} {xs:List Value} (h:w.ownsRow base t 1 (.slice A n c) n xs) (k:Nat) (hk:k≤n) (hA:A≠none):w.ownsRow base t 1 (.slice A k c) k (xs.take k):=by
 obtain⟨hl,h | ⟨g,cap,cur,e,hg,hb,hc,hm,hs,ht⟩⟩:=h
 ·exact absurd (by injection h.1) hA
 ·cases e
  refine⟨by rw[List.length_take,hl];omega,.inr ⟨g,c,cur,rfl,hg,hb,Nat.le_trans hk hc,hm,hs,?_⟩⟩
  rw[←ht,List.take_take]
  congr 1
  omega
theorem own_keeps {w w':World} {base t n:Nat} {v:Value} {xs:List Value} (h:w.ownsRow base t 1 v n xs) (hg:w.grownBy w' v.ownBlock):KeepsOthers w w':=by
 refine KeepsOthers.of_grownBy hg fun j o e ho=>?_
 obtain⟨-,h | ⟨g,cap,cur,rfl,-,hb,-⟩⟩:=h
 ·rw[h.1] at e;cases e
 ·have e:g=j:=by simpa [Value.ownBlock] using e
  subst e
  rw[hb] at ho;cases ho;rfl
theorem cut_own (A:Option Addr) (c n k:Nat) (hA:A≠none) (hk:k≤c) (w:World):(Instr.sliceAt 81 (.slice A n c) none (some (.int .i64 (k:Int))) none).run Tryz.prog w=.ok (.slice A k c) w:=by
 cases A with
 | none=>exact absurd rfl hA
 | some a =>
  have h2:(k:Int)≤(c:Int):=by omega
  clear hA hk
  go_simp
theorem last_at (a b:List UInt8) (hb:∀x∈b,x≠47) (k:Nat) (h1:a.length < k) (h2:k < (a++47 :: b).length):(a++47 :: b).getD k 0≠47:=by
 rw[List.length_append,List.length_cons] at h2
 rw[List.getD_eq_getElem?_getD,List.getElem?_append_right (by omega)]
 obtain⟨m,hm⟩:∃m,k - a.length=m+1:=⟨k - a.length - 1,by omega⟩
 rw[hm,List.getElem?_cons_succ,List.getElem?_eq_getElem (by omega)]
 exact hb _ (List.getElem_mem _)
set_option maxHeartbeats 2000000 in
theorem alast_any (X a b:List UInt8) (hX:X=a++47 :: b) (hb:∀x∈b,x≠47) (hl:X.length≤1000000) (A:Option Addr) (c:Nat) (w:World) (hs:Sl w A c (byts X)) :
  Calls Tryz.prog 102 #[.slice A X.length c,.int .u8 47] w fun e w'=>e=.returned (.int .i64 a.length)∧w=w':=by
 have h:Calls Tryz.prog 132 #[.slice A X.length c,.int .u8 47] w fun e w'=>e=.returned (.int .i64 a.length)∧w=w':=by
  have hL:=Lib.hid (show ∀k,a.length < k→k < X.length→X.getD k 0≠47 from fun k h1 h2=>by subst hX;exact last_at a b hb k h1 h2)
  have hE:=Lib.hid (show X.getD a.length 0=47 by rw[hX,List.getD_eq_getElem?_getD,List.getElem?_append_right (Nat.le_refl _),Nat.sub_self];rfl)
  have hlt:a.length < X.length:=by rw[hX,List.length_append,List.length_cons];omega
  clear hb hX
  obtain⟨n,hn⟩:∃n,n=X.length - 1:=⟨_,rfl⟩
  have hw0:IntKind.i64.wrap ((X.length:Int) - 1)=(n:Int):=by rw[IntKind.wrap_i64];omega
  have HN:=Lib.hid hn
  clear hn
  go_enter Tryz.func132,Tryz.ntmps132
  go_wp2
  go_loop [5] (fun i=>∃k:Nat,a.length≤k∧k < X.length∧i=.int .i64 k) (fun i=>(intOf i).toNat)
  case atStart=>exact⟨n,by have:=HN.out;omega,by have:=HN.out;omega,rfl⟩
  case round =>
   obtain⟨k,hk1,hk2,rfl⟩:=hrel
   have h0:(0:Int)≤(k:Int):=by omega
   obtain⟨b',o,hA,-,hce⟩:=hs.rd.get (i:=k) (by rw[length_byts];exact hk2)
   have hix:=index_bytes A b' o X.length c k hA hk2
   rw[get_byts X k hk2] at hce
   by_cases he:k=a.length
   ·subst he
    rw[hE.out] at hce
    have hce':w.cell? ⟨b',o+a.length,none⟩=some (.int .u8 47):=hce
    clear hce
    go_wp2
    go_ret
    exact⟨rfl,rfl⟩
   ·have hne:=hL.out k (by omega) hk2
    have hne':(((X.getD k 0).toNat:Int)==47)=false:=by
     rw[beq_eq_false_iff_ne]
     intro h
     exact hne (UInt8.toNat_inj.1 (by rw[show (47:UInt8).toNat=47 from rfl];omega))
    generalize X.getD k 0=y at *
    have hw1:IntKind.i64.wrap ((k:Int) - 1)=(k:Int) - 1:=by rw[IntKind.wrap_i64];omega
    clear hne
    go_wp2
    go_round
    case rel=>exact⟨k - 1,by omega,by omega,by congr 1;omega⟩
    case measure=>simp[intOf];omega
 clear hX hb
 go_enter Tryz.func102,Tryz.ntmps102
 go_wp2_with (go_at_call 132;refine h.mono ?_;rintro e w' ⟨rfl,rfl⟩)
 go_ret
 exact⟨rfl,rfl⟩
theorem infoU8:(Tryz.prog.info? 5).map (fun i=>(i.zero,i.size,i.bytes))=some (some (.int .u8 0),1,1):=by kernel_rfl
def GaveAlong (base:Nat) (r:Option (List (List UInt8))) (W:World) (e:Ending) (w':World):Prop :=
 (match r with
  | none=>e=.returned (.tuple #[.slice none 0 0,.bool false])
  | some k=>∃v',e=.returned (.tuple #[v',.bool true])∧w'.ownsRow base 5 1 v' (flatP k).length (byts (flatP k)))∧KeepsOthers W w'∧Below base W w'
set_option maxHeartbeats 4000000 in
theorem along_any (l:List (List UInt8)) (hl:∀w∈l,nameL w=true) (x:List UInt8) (hx:x.length≤1000) (W:World) (base:Nat) (v:Value) (hown:W.ownsRow base 5 1 v (flatP l).length (byts (flatP l))) (hbase:base≤W.heap.size) (hlen:(flatP l).length≤1000000) :
  Calls Tryz.prog 60 #[v,.string (bstr x)] W (GaveAlong base (alongL l x) W):=by
 have hz:=size_bstr x
 obtain⟨A,c,rfl,hpl,hsl⟩:=Sl.of_own hown
 clear hpl
 have hroom:=hsl.room
 rw[length_byts] at hroom
 have hkp:=own_keeps hown (World.grownBy.refl W _)
 have e0:(bstr x).toList.isEmpty=decide (x=[]):=by rw[bstr_toList];cases x<;>rfl
 have e1:=bstr_is' x [46]
 have e2:=bstr_is' x [46,46]
 have HA:=Lib.hid (show alongL l x=if x=[]∨x=[46] then some l else if x=[46,46] then (if l=[] then none else some l.dropLast) else if nameL x then some (l++[x]) else none from rfl)
 generalize hr:alongL l x=r at *
 clear hr
 by_cases c0:x=[]
 ·have HR:=Lib.hid (show r=some l by rw[HA.out,if_pos (.inl c0)])
  rw[decide_eq_true c0] at e0
  clear HA c0 e1 e2
  go_enter Tryz.func60,Tryz.ntmps60
  go_wp2
  go_ret2
  rw[HR.out]
  exact⟨⟨_,rfl,hown⟩,KeepsOthers.refl _,Below.refl _ _⟩
 rw[decide_eq_false c0] at e0
 by_cases c1:x=[46]
 ·have HR:=Lib.hid (show r=some l by rw[HA.out,if_pos (.inr c1)])
  rw[decide_eq_true c1] at e1
  clear HA c0 c1 e2
  go_enter Tryz.func60,Tryz.ntmps60
  go_wp2
  go_ret2
  rw[HR.out]
  exact⟨⟨_,rfl,hown⟩,KeepsOthers.refl _,Below.refl _ _⟩
 rw[decide_eq_false c1] at e1
 have HA2:=Lib.hid (HA.out.trans (if_neg (by rintro (h | h);exact c0 h;exact c1 h)))
 clear HA c0 c1
 have hn:=fun w'=>isname_any x w'
 by_cases c2:x=[46,46]
 ·rw[decide_eq_true c2] at e2
  by_cases c3:l=[]
  ·have HR:=Lib.hid (show r=none by rw[HA2.out,if_pos c2,if_pos c3])
   have a3:((flatP l).length:Int)≤0:=by rw[c3];exact Int.le_refl _
   rw[show nameL x=false by rw[c2];rfl] at hn
   have HC:=Lib.hid hn
   clear HA2 c2 c3 hn
   go_enter Tryz.func60,Tryz.ntmps60
   go_wp2_with (go_at_call 103;refine (HC.out _).mono ?_;rintro e w' ⟨rfl,hb⟩)
   go_ret2
   rw[HR.out]
   exact⟨rfl,KeepsOthers.of_grownBy (grown_of_below hb none) (fun j o e=>by cases e),hb.mono hbase⟩
  ·have HR:=Lib.hid (show r=some l.dropLast by rw[HA2.out,if_pos c2,if_neg c3])
   have hF:=flatP_last l c3
   have hb:∀y∈l.getLast c3,y≠47:=name_47 _ (hl _ (List.getLast_mem c3))
   have hla:=fun w' h=>alast_any (flatP l) _ _ hF hb hlen A c w' h
   have HLA:=Lib.hid (hla W hsl)
   have a3:(0:Int) < ((flatP l).length:Int):=by rw[hF,List.length_append,List.length_cons];omega
   have hAn:A≠none:=by
    rintro rfl
    have:=hsl.bare rfl
    omega
   have hk1:(flatP l.dropLast).length≤(flatP l).length:=by rw[hF,List.length_append];omega
   have hct:=cut_own A c (flatP l).length (flatP l.dropLast).length hAn (by omega)
   have hot:=own_take hown (flatP l.dropLast).length hk1 hAn
   rw[show (byts (flatP l)).take (flatP l.dropLast).length=byts (flatP l.dropLast) by unfold byts;rw[←List.map_take,hF,List.take_left'];rfl] at hot
   clear HA2 c2 hn hF hb hla hk1 hAn hroom hlen hl
   obtain⟨m,hm⟩:∃m,m=(flatP l.dropLast).length:=⟨_,rfl⟩
   rw[←hm] at HLA hct hot
   have HM:=Lib.hid hm
   clear hm
   generalize (flatP l).length=n at *
   go_enter Tryz.func60,Tryz.ntmps60
   go_wp2_with (go_at_call 102;refine HLA.out.mono ?_;rintro e w' ⟨rfl,rfl⟩)
   go_ret2
   rw[HR.out]
   exact⟨⟨_,rfl,HM.out ▸ hot⟩,KeepsOthers.refl _,Below.refl _ _⟩
 ·rw[decide_eq_false c2] at e2
  cases c3:nameL x with
  | false =>
   have HR:=Lib.hid (show r=none by rw[HA2.out,if_neg c2,c3];rfl)
   rw[c3] at hn
   have HC:=Lib.hid hn
   clear HA2 c2 c3 hn
   go_enter Tryz.func60,Tryz.ntmps60
   go_wp2_with (go_at_call 103;refine (HC.out _).mono ?_;rintro e w' ⟨rfl,hb⟩)
   go_ret2
   rw[HR.out]
   exact⟨rfl,KeepsOthers.of_grownBy (grown_of_below hb none) (fun j o e=>by cases e),hb.mono hbase⟩
  | true =>
   have HR:=Lib.hid (show r=some (l++[x]) by rw[HA2.out,if_neg c2,if_pos c3])
   have HF:=Lib.hid (show flatP (l++[x])=flatP l++47 :: x by rw[flatP_app,flatP_one])
   rw[c3] at hn
   have HC:=Lib.hid hn
   clear HA2 c2 c3 hn hl
   obtain⟨i0,hi,hz0,hz1,hz2⟩:=info_parts infoU8
   have n1:(flatP l).length+1≤maxLen:=by unfold maxLen;omega
   have n2:((flatP l).length+1)*1≤140737488355328:=by omega
   have n3:(flatP l).length+1+(bstr x).size≤maxLen:=by unfold maxLen;omega
   have n4:(flatP l).length+1+(bstr x).size≤140737488355328:=by omega
   generalize flatP l=M at *
   go_enter Tryz.func60,Tryz.ntmps60
   have tok:=trivial
   go_wp2_with (first
    | (go_at_call 103;refine (HC.out _).mono ?_;rintro e w1 ⟨rfl,hb⟩;have howna:=(own_later hown hb (Nat.le_refl _)).alloc (.cells #[.int .u8 47] 5);have hslp:Sl (w1.alloc (.cells #[.int .u8 47] 5)) (some ⟨w1.heap.size,0,none⟩) 1 (byts [47]):=sl_made (byts [47]) rfl 1 rfl;have hbe:Below base W (w1.alloc (.cells #[.int .u8 47] 5)):=(hb.mono hbase).alloc (Nat.le_trans hbase hb.size) _)
    | (at_builtin;have _t:=tok;refine wpList_append_sl rfl (.tmp 29) (.tmp 30) 81 rfl base 5 i0 _ 1 Tryz.underlying81 hi hz0 hz1 hz2 rfl _ M.length (byts M) rfl howna (some ⟨w1.heap.size,0,none⟩) 1 1 (byts [47]) rfl rfl hslp (byts_one _) n1 n2 (Nat.le_trans hbase hbe.size) ?_;intro v3 w3 hown3 hg3;have hb3:=hbe.grown hg3 (Nat.le_trans hbase hbe.size) (fun j hj=>(howna.lt j hj).1);clear tok)
    | (at_builtin;refine wpList_append_own_string _ rfl (.tmp 31) (.tmp 32) 81 9 rfl base 5 i0 Tryz.underlying81 Tryz.underlying9 hi hz0 hz1 hz2 v3 (M.length+1) (byts M++byts [47]) rfl hown3 (bstr x) rfl n3 n4 (Nat.le_trans hbase hb3.size) ?_;intro v4 w4 hown4 hg4 _;have hb4:=hb3.grown hg4 (Nat.le_trans hbase hb3.size) (fun j hj=>(hown3.lt j hj).1)))
   go_ret2
   have e:byts M++byts [47]++strCells (bstr x)=byts (M++47 :: x):=by
    rw[List.append_assoc,byts_append];rfl
   have e2:M.length+1+(bstr x).size=(M++47 :: x).length:=by rw[List.length_append,List.length_cons,size_bstr];omega
   rw[e,e2] at hown4
   rw[HR.out]
   refine⟨⟨_,rfl,by rw[HF.out];exact hown4⟩,?_,hb4⟩
   exact (((KeepsOthers.of_grownBy (grown_of_below hb none) (fun j o e=>by cases e)).trans (KeepsOthers.alloc _ _)).trans (own_keeps howna hg3)).trans (own_keeps hown3 hg4)
end Go.Proofs.YtjieebmcbpdeiaaGreatDoor
namespace Go.Proofs.YtjieebmcbpdeiaaGreatDoor
set_option maxRecDepth 100000
open Go Go.RowKit
attribute [local go_sem] Oper.semAt_some
theorem cut_yes (r:List UInt8) (w:World):Calls Tryz.prog 58 #[.string (bstr (47 :: r)),.string ⟨#[47]⟩] w fun e w'=>e=.returned (.tuple #[.string (bstr r),.bool true])∧w=w':=by
 refine (Tryz.strings_CutPrefix _ _ _).mono ?_
 rintro e w' ⟨rfl,rfl⟩
 refine⟨?_,rfl⟩
 have h:Lib.hasPrefix (bstr (47 :: r)).data.toList [47]=true:=by
  show List.isPrefixOf [47] (47 :: r)=true
  simp[List.isPrefixOf]
 show Ending.returned (.tuple #[.string ⟨(Lib.trimPrefix (bstr (47 :: r)).data.toList [47]).toArray⟩,.bool (Lib.hasPrefix (bstr (47 :: r)).data.toList [47])])=_
 unfold Lib.trimPrefix
 rw[h,if_pos rfl]
 rfl
theorem cut_no (s:List UInt8) (hs:s.getD 0 0≠47) (w:World):Calls Tryz.prog 58 #[.string (bstr s),.string ⟨#[47]⟩] w fun e w'=>e=.returned (.tuple #[.string (bstr s),.bool false])∧w=w':=by
 refine (Tryz.strings_CutPrefix _ _ _).mono ?_
 rintro e w' ⟨rfl,rfl⟩
 refine⟨?_,rfl⟩
 have h:Lib.hasPrefix (bstr s).data.toList [47]=false:=by
  show List.isPrefixOf [47] s=false
  cases s with
  | nil=>rfl
  | cons c r =>
   have hc:c≠47:=hs
   simp[List.isPrefixOf]
   exact fun h=>hc h.symm
 show Ending.returned (.tuple #[.string ⟨(Lib.trimPrefix (bstr s).data.toList [47]).toArray⟩,.bool (Lib.hasPrefix (bstr s).data.toList [47])])=_
 unfold Lib.trimPrefix
 rw[h,if_neg (by simp)]
theorem results_boxes {fn:Func} {p q:Tmp} (h:fn.results=#[.cell p 9,.cell q 4]) (tmps:Array Value) (w:World) (b c:Nat) (v x:Value)
  (hp:tmps.getD p undef=.pointer (some ⟨b,0,none⟩)) (hq:tmps.getD q undef=.pointer (some ⟨c,0,none⟩)) (hv:Boxed w b 9 v) (hx:Boxed w c 4 x) :
  (results fn tmps).run Tryz.prog w=.ok (.tuple #[v,x]) w:=by
 have hp':tmps[p]?.getD undef=.pointer (some ⟨b,0,none⟩):=by simpa using hp
 have hq':tmps[q]?.getD undef=.pointer (some ⟨c,0,none⟩):=by simpa using hq
 have h1:=hv.cell
 have h2:=hx.cell
 simp[results,h,hp',hq',asAddr]
 go_simp
theorem along_size (l k:List (List UInt8)) (w:List UInt8) (h:alongL l w=some k):k.length≤l.length+1:=by
 unfold alongL at h
 split at h
 ·cases h;omega
 ·split at h
  ·split at h
   ·cases h
   ·cases h;rw[List.length_dropLast];omega
  ·split at h
   ·cases h;rw[List.length_append];simp
   ·cases h
theorem heap_set_other (W:World) (b:Nat) (v:Value) (j:Nat) (h:j≠b):(W.setCell ⟨b,0,none⟩ v).heap[j]?=W.heap[j]?:=Below.heap_setCell W ⟨b,0,none⟩ v j h
theorem below_set {a W:World} {B b:Nat} (h:Below B a W) (hB:B≤W.heap.size) (hb:B≤b) (v:Value):Below B a (W.setCell ⟨b,0,none⟩ v) :=
 h.grown (grownBy_setCell' W b v) hB (fun k e=>by cases e;exact hb)
def NormI (w:World) (lo:Nat) (ps:List (List UInt8)) (m:Nat) (W:World):Prop :=
 (∃l v,(∀x∈l,nameL x=true)∧l.length≤m∧goN l (ps.drop m)=goN [] ps∧Boxed W (w.heap.size+1+1+1) 81 v∧W.ownsRow lo 5 1 v (flatP l).length (byts (flatP l))) ∧
  Boxed W (w.heap.size+1+1) 4 (.bool true)∧Boxed W w.heap.size 9 (.string { data:=#[] })∧Boxed W (w.heap.size+1) 4 (.bool false)∧Below w.heap.size w W∧lo≤W.heap.size
def NormX (w:World) (lo:Nat) (ps:List (List UInt8)) (c:Code) (W:World):Prop :=
 (c=.ret∧goN [] ps=none)∧Boxed W w.heap.size 9 (.string { data:=#[] })∧Boxed W (w.heap.size+1) 4 (.bool false)∧Below w.heap.size w W∧lo≤W.heap.size
theorem NormI.calm {w:World} {lo m own:Nat} {ps:List (List UInt8)} (hown:own < lo) (h1:w.heap.size+1+1+1 < own) {X Y:World} {r:Nat} (h:NormI w lo ps m X) (hg:X.grownBy Y (some r)) (hr:r=own∨(lo≤r∧∃o:Obj,X.heap[r]?=some o∧o.isCells=false)):NormI w lo ps m Y:=by
 obtain⟨⟨l,v,hn,hl,hgo,hv,ho⟩,hb2,hb0,hb1,hB,hlo⟩:=h
 refine⟨⟨l,v,hn,hl,hgo,box_calm hv hg hr (by omega),own_calm ho hg hr hown⟩,box_calm hb2 hg hr (by omega),box_calm hb0 hg hr (by omega),box_calm hb1 hg hr (by omega),hB.grown hg hB.size fun k e=>?_,Nat.le_trans hlo hg.size⟩
 cases e
 rcases hr with rfl | ⟨h,-⟩<;>omega
theorem NormX.calm {w:World} {lo own:Nat} {c:Code} {ps:List (List UInt8)} (hown:own < lo) (h1:w.heap.size+1+1+1 < own) {X Y:World} {r:Nat} (h:NormX w lo ps c X) (hg:X.grownBy Y (some r)) (hr:r=own∨(lo≤r∧∃o:Obj,X.heap[r]?=some o∧o.isCells=false)):NormX w lo ps c Y:=by
 obtain⟨hc,hb0,hb1,hB,hlo⟩:=h
 refine⟨hc,box_calm hb0 hg hr (by omega),box_calm hb1 hg hr (by omega),hB.grown hg hB.size fun k e=>?_,Nat.le_trans hlo hg.size⟩
 cases e
 rcases hr with rfl | ⟨h,-⟩<;>omega
set_option maxHeartbeats 4000000 in
theorem pnormal_any (s:List UInt8) (hs:s.length≤1000) (w:World):Calls Tryz.prog 28 #[.string (bstr s)] w fun e w'=>e=.returned (.tuple #[.string (bstr ((normL s).getD [])),.bool (normL s).isSome])∧Below w.heap.size w w':=by
 have hz:=size_bstr s
 obtain⟨V,hV⟩:∃V,V=normL s:=⟨_,rfl⟩
 have HV:=Lib.hid hV
 rw[←hV]
 clear hV
 refine (callsIn_wide (n:=9)).1 ?_
 refine callsIn_of_wp_marks Tryz.func28 rfl trivial ?_ rfl
 simp only[Tryz.ntmps28,List.size_toArray,List.length_cons,List.length_nil,Nat.reduceAdd,Nat.reduceSub,Array.replicate_succ,Array.replicate_zero,List.push_toArray,List.append_toArray,List.nil_append,List.cons_append]
 by_cases h4:s.getD 0 0=47
 ·obtain⟨r,rfl⟩:∃r,s=47 :: r:=by
   cases s with
   | nil=>cases h4
   | cons c r=>exact⟨r,by rw[show c=47 from h4]⟩
  rw[List.length_cons] at hz hs
  have hct:=Lib.hid (fun w'=>cut_yes r w')
  have hsq:=Lib.hid (fun w'=>splitSeq_any r 47 w')
  generalize bstr (47 :: r)=P at *
  gi_wp2_with (first
   | (refine⟨trivial,?_⟩;gi_at_call 58;refine (callsIn_wide.2 (hct.out _)).mono ?_;rintro e w1 ⟨rfl,rfl⟩)
   | (refine⟨trivial,?_⟩;gi_at_call 59;refine (callsIn_wide.2 (hsq.out _)).mono ?_;rintro e w2 ⟨rfl,hbox,hb2,hz2⟩))
  rw[World.size_alloc,World.size_alloc,World.size_alloc,World.size_alloc] at hbox hz2 hb2
  have e1:(w.alloc (.cells #[.string { data:=#[] }] 9)).heap.size=w.heap.size+1:=World.size_alloc _ _
  have e2:((w.alloc (.cells #[.string { data:=#[] }] 9)).alloc (.cells #[.bool false] 4)).heap.size=w.heap.size+1+1:=by rw[World.size_alloc,e1]
  have e3:(((w.alloc (.cells #[.string { data:=#[] }] 9)).alloc (.cells #[.bool false] 4)).alloc (.cells #[.bool true] 4)).heap.size=w.heap.size+1+1+1:=by rw[World.size_alloc,e2]
  have b0:=Boxed.new w 9 (.string { data:=#[] })
  have b1:=Boxed.new (w.alloc (.cells #[.string { data:=#[] }] 9)) 4 (.bool false)
  have b2:=Boxed.new ((w.alloc (.cells #[.string { data:=#[] }] 9)).alloc (.cells #[.bool false] 4)) 4 (.bool true)
  have b3:=Boxed.new (((w.alloc (.cells #[.string { data:=#[] }] 9)).alloc (.cells #[.bool false] 4)).alloc (.cells #[.bool true] 4)) 81 (.slice none 0 0)
  rw[e1] at b1
  rw[e2] at b2
  rw[e3] at b3
  have bx0:Boxed w2 w.heap.size 9 (.string { data:=#[] }):=(hb2.block _ (by omega)).trans (((b0.alloc _).alloc _).alloc _)
  have bx1:Boxed w2 (w.heap.size+1) 4 (.bool false):=(hb2.block _ (by omega)).trans ((b1.alloc _).alloc _)
  have bx2:Boxed w2 (w.heap.size+1+1) 4 (.bool true):=(hb2.block _ (by omega)).trans (b2.alloc _)
  have bx3:Boxed w2 (w.heap.size+1+1+1) 81 (.slice none 0 0):=(hb2.block _ (by omega)).trans b3
  have hB2:Below w.heap.size w w2:=(((((Below.refl _ w).alloc (Nat.le_refl _) _).alloc (by rw[e1];omega) _).alloc (by rw[e2];omega) _).alloc (by rw[e3];omega) _).trans (hb2.mono (by omega))
  clear hb2 b0 b1 b2 b3 e1 e2 e3 hct
  have hsize:(piecesV r 47).length=(splitL 47 r).length:=by unfold piecesV;rw[List.length_map]
  obtain⟨ps,hps⟩:∃ps,ps=splitL 47 r:=⟨_,rfl⟩
  have HN1:=Lib.hid (show goN [] ps=none→V=none from fun h=>HV.out.trans (normL_none r (by rw[←hps];exact h)))
  have HN2:=Lib.hid (show ∀l,goN [] ps=some l→V=if (joinP l).length≤256 then some (joinP l) else none from fun l h=>HV.out.trans (normL_some r l (by rw[←hps];exact h)))
  have hpl:∀p∈ps,p.length≤1000:=fun p hp=>Nat.le_trans (splitL_piece 47 r p (by rw[←hps];exact hp)) (by omega)
  have hpn:ps.length≤1000:=by have:=splitL_len 47 r;rw[←hps] at this;omega
  clear HV h4
  have hgives:=splitSeq_gives 8 (by omega) (w.heap.size+1+1+1+1) r 47 (by omega) w2 hbox (by omega)
  refine wpIn_rangeList rfl (by omega) (gf:=129) rfl trivial (enters_of Tryz.func129 (by kernel_rfl) rfl) hgives (by omega) SeqKeep.trans
   (fun W l o' hl k h1 h2=>World.putObj_heap_other (by omega)) (Below.refl _ _) (fun v hv=>by
    unfold piecesV at hv
    obtain⟨p,-,rfl⟩:=List.mem_map.1 hv
    rfl)
   (fun k W=>NormI w w2.heap.size ps k W) (fun c k W=>NormX w w2.heap.size ps c W)
   (fun k X Y r h hg hr=>h.calm (by omega) (by omega) hg hr) (fun c k X Y r h hg hr=>h.calm (by omega) (by omega) hg hr)
   ⟨⟨[],_,fun _ h=>by (cases h),Nat.le_refl _,rfl,bx3,World.ownsRow_nil _ _ _ _⟩,bx2,bx0,bx1,hB2,Nat.le_refl _⟩
   (fun k=>{ tmps:=#[.string P,undef,.pointer (some ⟨w.heap.size,0,none⟩),.pointer (some ⟨w.heap.size+1,0,none⟩),.string (bstr r),.pointer (some ⟨w.heap.size+1+1,0,none⟩),.pointer (some ⟨w.heap.size+1+1+1,0,none⟩),.string (bstr (ps.getD k [])),
     .tuple #[.string (bstr r),.bool true],.string P,.tuple #[.string (bstr r),.bool true],.string (bstr r),.bool true,.bool true,.bool false,.string (bstr r),
     .func (.func 129) #[] #[.pointer (some ⟨w.heap.size+1+1+1+1+1,0,none⟩),.pointer (some ⟨w.heap.size+1+1+1+1,0,none⟩),.pointer (some ⟨w.heap.size+1+1+1+1+2,0,none⟩)],
     .string (bstr (ps.getD k [])),undef,undef,undef,undef,undef,undef,undef,undef,undef,undef,undef,undef,undef,undef,undef,undef],defers:=[] }) ?assign ?body ?done ?stop
  case assign =>
   intro l k v W K hv hK
   have hv:v=#[.string (bstr (ps.getD k []))]:=by
    unfold piecesV at hv
    rw[←hps,List.getElem?_map] at hv
    rw[List.getD_eq_getElem?_getD]
    cases hq:ps[k]? with
    | none=>rw[hq] at hv;cases hv
    | some q=>rw[hq] at hv;cases hv;rfl
   subst hv
   clear hps
   gi_wp2
   exact hK
  case body =>
   rintro lo k W hk ⟨⟨l,v,hn,hl,hgo,hv,ho⟩,hx2,hx0,hx1,hB,hlo⟩
   have hkp:k < ps.length:=by rw[hps,←hsize];exact hk
   clear hps hsize hk hgives hbox hsq bx0 bx1 bx2 bx3 hB2
   obtain⟨A,c,rfl,-,-⟩:=Sl.of_own ho
   have hc3:=hv.cell
   have hx64:=hpl (ps.getD k []) (by rw[List.getD_eq_getElem?_getD,List.getElem?_eq_getElem hkp];exact List.getElem_mem hkp)
   have hfl:=flatP_le l (fun y hy=>nameL_len y (hn y hy))
   have hal:=along_any l hn (ps.getD k []) hx64 W w2.heap.size (.slice A (flatP l).length c) ho hlo (by omega)
   have hgo2:=hgo.symm.trans (goN_at l ps k hkp)
   generalize hy:ps.getD k []=x at *
   clear hy hpl
   cases hak:alongL l x with
   | none =>
    rw[hak] at hal hgo2
    have HA:=Lib.hid hal
    have HG:=Lib.hid hgo2
    clear hal hgo2 hak hgo hn ho hfl
    generalize (flatP l).length=n at *
    gi_wp2_with (refine⟨trivial,?_⟩;gi_at_call 60;refine (CallsIn.inRound lo (callsIn_wide.2 HA.out)).mono ?_;rintro e W2 ⟨rfl,hk2,hb2⟩;have hv2:Boxed W2 (w.heap.size+1+1+1) 81 (.slice A n c):=(hb2.block _ (by omega)).trans hv;have hc2:=hv2.cell;have hf2:=hv2.frozen;have hx2':Boxed W2 (w.heap.size+1+1) 4 (.bool true):=(hb2.block _ (by omega)).trans hx2;have hd2:=hx2'.cell;have hg2:=hx2'.frozen;have hx0':Boxed W2 w.heap.size 9 (.string { data:=#[] }):=(hb2.block _ (by omega)).trans hx0;have hx1':Boxed W2 (w.heap.size+1) 4 (.bool false):=(hb2.block _ (by omega)).trans hx1;have hp0:=hx0'.cell;have hp1:=hx1'.cell;have hq0:=hx0'.frozen;have hq1:=hx1'.frozen)
    have s2:=hb2.size
    have hBW:Below w.heap.size w W2:=hB.trans (hb2.mono (by omega))
    refine⟨((((hk2.trans (KeepsOthers.setCell _ _ _)).trans (KeepsOthers.setCell _ _ _)).trans (KeepsOthers.setCell _ _ _)).trans (KeepsOthers.setCell _ _ _)),⟨rfl,HG.out⟩,?_,?_,?_,?_⟩
    ·exact ((((hx0'.kept (grownBy_setCell' _ _ _) (by simp<;>omega)).kept (grownBy_setCell' _ _ _) (by simp<;>omega)).set _).kept (grownBy_setCell' _ _ _) (by simp<;>omega))
    ·exact ((((hx1'.kept (grownBy_setCell' _ _ _) (by simp<;>omega)).kept (grownBy_setCell' _ _ _) (by simp<;>omega)).kept (grownBy_setCell' _ _ _) (by simp<;>omega)).set _)
    ·exact below_set (below_set (below_set (below_set hBW (by omega) (by omega) _) (by simp;omega) (by omega) _) (by simp;omega) (by omega) _) (by simp;omega) (by omega) _
    ·simp;omega
   | some l' =>
    rw[hak] at hal hgo2
    have HA:=Lib.hid hal
    have HG:=Lib.hid hgo2
    have hn':=along_names l l' x hn hak
    have hl':l'.length≤k+1:=by
     have:=along_size l l' x hak
     omega
    clear hal hgo2 hak hgo hn ho hfl
    generalize (flatP l).length=n at *
    gi_wp2_with (refine⟨trivial,?_⟩;gi_at_call 60;refine (CallsIn.inRound lo (callsIn_wide.2 HA.out)).mono ?_;rintro e W2 ⟨⟨v',rfl,ho2⟩,hk2,hb2⟩;obtain⟨A',c',rfl,-,-⟩:=Sl.of_own ho2;have hv2:Boxed W2 (w.heap.size+1+1+1) 81 (.slice A n c):=(hb2.block _ (by omega)).trans hv;have hc2:=hv2.cell;have hf2:=hv2.frozen;have hx2':Boxed W2 (w.heap.size+1+1) 4 (.bool true):=(hb2.block _ (by omega)).trans hx2;have hd2:=hx2'.cell;have hg2:=hx2'.frozen;have hx0':Boxed W2 w.heap.size 9 (.string { data:=#[] }):=(hb2.block _ (by omega)).trans hx0;have hx1':Boxed W2 (w.heap.size+1) 4 (.bool false):=(hb2.block _ (by omega)).trans hx1)
    have s2:=hb2.size
    have hBW:Below w.heap.size w W2:=hB.trans (hb2.mono (by omega))
    refine⟨(hk2.trans (KeepsOthers.setCell _ _ _)).trans (KeepsOthers.setCell _ _ _),fun j h1 h2=>?_,⟨l',.slice A' (flatP l').length c',hn',hl',HG.out.symm,?_,?_⟩,?_,?_,?_,?_,?_⟩
    ·exact ((heap_set_other _ _ _ j (by omega)).trans (heap_set_other _ _ _ j (by omega))).trans (hb2.block j (by omega))
    ·exact (hv2.set _).kept (grownBy_setCell' _ _ _) (by simp<;>omega)
    ·have h3:=ho2.kept (grownBy_setCell' W2 (w.heap.size+1+1+1) (.slice A' (flatP l').length c')) (.inr (hv2.not_row (by decide) ho2).symm)
     have hx3:Boxed (W2.setCell ⟨w.heap.size+1+1+1,0,none⟩ (.slice A' (flatP l').length c')) (w.heap.size+1+1) 4 (.bool true):=hx2'.kept (grownBy_setCell' _ _ _) (by simp<;>omega)
     exact h3.kept (grownBy_setCell' _ _ _) (.inr (hx3.not_row (by decide) h3).symm)
    ·exact (hx2'.kept (grownBy_setCell' _ _ _) (by simp<;>omega)).set _
    ·exact (hx0'.kept (grownBy_setCell' _ _ _) (by simp<;>omega)).kept (grownBy_setCell' _ _ _) (by simp<;>omega)
    ·exact (hx1'.kept (grownBy_setCell' _ _ _) (by simp<;>omega)).kept (grownBy_setCell' _ _ _) (by simp<;>omega)
    ·exact below_set (below_set hBW (by omega) (by omega) _) (by simp;omega) (by omega) _
    ·simp;omega
  case done =>
   rintro D W hD ⟨⟨l,v,hn,hl,hgo,hv,ho⟩,hx2,hx0,hx1,hB,hlo⟩ hK
   rw[hsize,←hps] at hl hgo
   have hgl:goN [] ps=some l:=by rw[←hgo,List.drop_length];rfl
   have HF:=Lib.hid (HN2.out l hgl)
   have hfl:=flatP_le l (fun y hy=>nameL_len y (hn y hy))
   obtain⟨A,c,rfl,-,hsl⟩:=Sl.of_own ho
   have hc3:=hv.cell
   have hp0:=hx0.cell
   have hp1:=hx1.cell
   have hq0:=hx0.frozen
   have hq1:=hx1.frozen
   have HC:=Lib.hid (joinP_flat l)
   have HE:=Lib.hid (flatP_eq_nil l)
   clear hps hsize hgives hbox hsq bx0 bx1 bx2 bx3 hB2 hgo hgl HN1 HN2 hpl hn
   have fin:∀S T:Value,((W.setCell ⟨w.heap.size,0,none⟩ S).setCell ⟨w.heap.size+1,0,none⟩ T).heap[D]?=some (.deferred (some [])) ∧
     Boxed (((W.setCell ⟨w.heap.size,0,none⟩ S).setCell ⟨w.heap.size+1,0,none⟩ T).putObj D (.deferred none)) w.heap.size 9 S ∧
     Boxed (((W.setCell ⟨w.heap.size,0,none⟩ S).setCell ⟨w.heap.size+1,0,none⟩ T).putObj D (.deferred none)) (w.heap.size+1) 4 T ∧
     Below w.heap.size w (((W.setCell ⟨w.heap.size,0,none⟩ S).setCell ⟨w.heap.size+1,0,none⟩ T).putObj D (.deferred none)):=by
    intro S T
    have hK3:((W.setCell ⟨w.heap.size,0,none⟩ S).setCell ⟨w.heap.size+1,0,none⟩ T).heap[D]?=some (.deferred (some [])) :=
     ((heap_set_other _ _ _ D (by omega)).trans (heap_set_other _ _ _ D (by omega))).trans hK
    refine⟨hK3,?_,?_,?_⟩
    ·exact (World.putObj_heap_other (by omega)).trans ((hx0.set S).kept (grownBy_setCell' _ _ _) (by simp<;>omega))
    ·exact (World.putObj_heap_other (by omega)).trans ((hx1.kept (grownBy_setCell' _ _ _) (by simp<;>omega)).set T)
    ·exact (below_set (below_set hB (by omega) (by omega) S) (by simp;omega) (by omega) T).trans (belowK_b (w:=w) (Nat.le_refl _) _ D _ _ (by omega) hK3 rfl rfl)
   have HFin:=Lib.hid fin
   clear fin
   by_cases h256:256 < (flatP l).length
   ·have hlt:(256:Int) < ((flatP l).length:Int):=by omega
    have hl0:¬l=[]:=fun h=>by rw[(HE.out).2 h] at h256;simp at h256
    have hn2:¬(flatP l).length≤256:=by omega
    have HV:=Lib.hid (show V=none by rw[HF.out,HC.out,if_neg hl0,if_neg hn2])
    clear HF HC HE h256 hl0 hn2
    gi_wp2
    obtain⟨hK3,hy0,hy1,hB3⟩:=HFin.out (.string { data:=#[] }) (.bool false)
    refine⟨by simp,.inl ⟨_,_,rfl,run_takeDeferred hK3,?_⟩⟩
    exact⟨_,results_boxes rfl _ _ _ _ _ _ rfl rfl hy0 hy1,by rw[HV.out];rfl,hB3⟩
   ·have hle:((flatP l).length:Int)≤256:=by omega
    by_cases hle0:l=[]
    ·have HV:=Lib.hid (show V=some [47] by rw[HF.out,hle0];rfl)
     have h0:(((flatP l).length:Int)==0)=true:=by rw[hle0];rfl
     clear HF HC HE h256 hle0
     gi_wp2
     obtain⟨hK3,hy0,hy1,hB3⟩:=HFin.out (.string { data:=#[47] }) (.bool true)
     refine⟨by simp,.inl ⟨_,_,rfl,run_takeDeferred hK3,?_⟩⟩
     exact⟨_,results_boxes rfl _ _ _ _ _ _ rfl rfl hy0 hy1,by rw[HV.out];rfl,hB3⟩
    ·have hne:flatP l≠[]:=fun h=>hle0 ((HE.out).1 h)
     have HV:=Lib.hid (show V=some (flatP l) by rw[HF.out,HC.out,if_neg hle0,if_pos (by omega)])
     have h0:(((flatP l).length:Int)==0)=false:=by
      rw[beq_eq_false_iff_ne]
      have:=List.length_pos_iff.2 hne
      omega
     have hcv:=conv_bytes hsl _ rfl
     clear HF HC HE h256 hle0 hne
     gi_wp2
     obtain⟨hK3,hy0,hy1,hB3⟩:=HFin.out (.string (bstr (flatP l))) (.bool true)
     refine⟨by simp,.inl ⟨_,_,rfl,run_takeDeferred hK3,?_⟩⟩
     exact⟨_,results_boxes rfl _ _ _ _ _ _ rfl rfl hy0 hy1,by rw[HV.out];rfl,hB3⟩
  case stop =>
   rintro D k c W hD hk ⟨⟨rfl,hno⟩,hx0,hx1,hB,hlo⟩ hK
   have HV:=Lib.hid (HN1.out hno)
   clear hps hsize hk hgives hbox hsq bx0 bx1 bx2 bx3 hB2 hpl HN1 HN2 hno
   gi_wp2
   refine⟨by simp,.inl ⟨_,_,rfl,run_takeDeferred hK,?_⟩⟩
   refine⟨_,results_boxes rfl _ _ _ _ _ _ rfl rfl ((World.putObj_heap_other (by omega)).trans hx0) ((World.putObj_heap_other (by omega)).trans hx1),by rw[HV.out];rfl,hB.trans (belowK_b (w:=w) (Nat.le_refl _) W D _ _ (by omega) hK rfl rfl)⟩
 ·have HW:=Lib.hid (show V=none by rw[HV.out];exact normL_head s h4)
  have hct:=Lib.hid (fun w'=>cut_no s h4 w')
  clear HV h4
  generalize bstr s=P at *
  gi_wp2_with (refine⟨trivial,?_⟩;gi_at_call 58;refine (callsIn_wide.2 (hct.out _)).mono ?_;rintro e w1 ⟨rfl,rfl⟩)
  have e1:(w.alloc (.cells #[.string { data:=#[] }] 9)).heap.size=w.heap.size+1:=World.size_alloc _ _
  have e2:((w.alloc (.cells #[.string { data:=#[] }] 9)).alloc (.cells #[.bool false] 4)).heap.size=w.heap.size+1+1:=by rw[World.size_alloc,e1]
  have b0:=Boxed.new w 9 (.string { data:=#[] })
  have b1:=Boxed.new (w.alloc (.cells #[.string { data:=#[] }] 9)) 4 (.bool false)
  rw[e1] at b1
  refine⟨_,results_boxes rfl _ _ _ _ _ _ rfl rfl ((b0.alloc _).alloc _) (b1.alloc _),?_,?_⟩
  ·rw[HW.out];rfl
  ·exact (((Below.refl _ w).alloc (Nat.le_refl _) _).alloc (by rw[e1];omega) _).alloc (by rw[e2];omega) _
def EnvP (w:World):Prop:=∃m,w.cell? ⟨1,0,none⟩=some (.int .i64 m)
theorem EnvP.later {w w':World} {B:Nat} (h:EnvP w) (hB:w.heap.size≤B) (hb:Below B w w'):EnvP w':=by
 obtain⟨m,hm⟩:=h
 refine⟨m,?_⟩
 obtain⟨c,e,fr,hb',_⟩:=Go.Sort.cells_of_cell? hm
 rw[hb.cell (Nat.lt_of_lt_of_le (Array.getElem?_eq_some_iff.1 hb').1 hB)]
 exact hm
theorem EnvP.next {w w':World} (h:EnvP w) (hb:Below w.heap.size w w'):EnvP w':=h.later (Nat.le_refl _) hb
theorem sl_none (w:World):Sl w none 0 (strsV []):=⟨.inl (by simp[strsV]),by simp[strsV],fun _=>rfl⟩
theorem psplit_any (s:List UInt8) (hs:s.length≤1000) (w:World) (hE:EnvP w):Calls Tryz.prog 85 #[.string (bstr s),.string ⟨#[47]⟩] w fun e w'=>∃A c,e=.returned (.slice A (splitL 47 s).length c)∧Sl w' A c (strsV (splitL 47 s))∧Below w.heap.size w w':=by
 obtain⟨m,hm⟩:=hE
 refine (Tryz.strings_Split (bstr s) (bstr [47]) m w (by rw[size_bstr];omega) hm (Nat.le_refl 1)).mono ?_
 rintro e w' ⟨rfl,rfl⟩
 rw[split_sign 47 s,split_count 47 s]
 refine⟨_,_,rfl,sl_made (t:=9) (strsV (splitL 47 s)) ?_ _ (length_strsV _),(Below.refl _ w).alloc (Nat.le_refl _) _⟩
 unfold strsV
 rw[List.map_map];rfl
set_option maxHeartbeats 2000000 in
theorem pright_any (p:List UInt8) (hp:p.length≤1000) (w:World):Calls Tryz.prog 61 #[.string (bstr p)] w fun e w'=>e=.returned (.bool (rightL p))∧Below w.heap.size w w':=by
 have hn:=pnormal_any p hp w
 have hr:=right_norm p
 cases hv:normL p with
 | none =>
  rw[hv] at hn hr
  have HN:=Lib.hid hn
  have HR:=Lib.hid (show rightL p=false by rw[hr];rfl)
  clear hn hr hv
  go_enter Tryz.func61,Tryz.ntmps61
  go_wp2_with (go_at_call 28;refine HN.out.mono ?_;rintro e w1 ⟨rfl,hb1⟩)
  go_ret
  exact⟨by rw[HR.out];rfl,hb1⟩
 | some x =>
  rw[hv] at hn hr
  have HN:=Lib.hid hn
  have HR:=Lib.hid (show rightL p=decide (x=p) by rw[hr];simp)
  have he:=bstr_beq x p
  clear hn hr hv
  go_enter Tryz.func61,Tryz.ntmps61
  go_wp2_with (go_at_call 28;refine HN.out.mono ?_;rintro e w1 ⟨rfl,hb1⟩)
  go_ret
  exact⟨by rw[HR.out];rfl,hb1⟩
set_option maxHeartbeats 2000000 in
theorem pnames_any (p:List UInt8) (hp:p.length≤1000) (w:World) (hE:EnvP w):Calls Tryz.prog 62 #[.string (bstr p)] w fun e w'=>∃A c,e=.returned (.slice A (namesL p).length c)∧Sl w' A c (strsV (namesL p))∧Below w.heap.size w w':=by
 have hz:=size_bstr p
 have hrt:=pright_any p hp w
 have e1:=bstr_is p [47]
 by_cases h1:p=[47]
 ·have HN:=Lib.hid (namesL_off p (.inr h1))
  rw[decide_eq_true h1] at e1
  clear hrt h1
  go_enter Tryz.func62,Tryz.ntmps62
  go_wp2
  go_ret
  exact⟨none,0,by rw[HN.out];rfl,by rw[HN.out];exact sl_none w,Below.refl _ _⟩
 rw[decide_eq_false h1] at e1
 cases h:rightL p with
 | false =>
  rw[h] at hrt
  have HN:=Lib.hid (namesL_off p (.inl h))
  have HR:=Lib.hid hrt
  clear h hrt h1
  go_enter Tryz.func62,Tryz.ntmps62
  go_wp2_with (go_at_call 61;refine HR.out.mono ?_;rintro e w1 ⟨rfl,hb1⟩)
  go_ret
  exact⟨none,0,by rw[HN.out];rfl,by rw[HN.out];exact sl_none w1,hb1⟩
 | true =>
  rw[h] at hrt
  have HR:=Lib.hid hrt
  obtain⟨r,rfl⟩:=right_head p h
  have HN:=Lib.hid (namesL_right _ r h rfl (fun e=>h1 (by rw[e])))
  have hex:=tail_bstr 47 r (r.length+1) rfl
  rw[List.length_cons] at hz hp
  have hcp:=Lib.hid (fun w' hE=>psplit_any r (by omega) w' hE)
  generalize bstr (47 :: r)=P at *
  clear h h1 hrt
  go_enter Tryz.func62,Tryz.ntmps62
  go_wp2_with (first
   | (go_at_call 61;refine HR.out.mono ?_;rintro e w1 ⟨rfl,hb1⟩)
   | (go_at_call 85;refine (hcp.out _ (hE.next hb1)).mono ?_;rintro e w2 ⟨A,c,rfl,hsl,hb2⟩))
  go_ret
  exact⟨A,c,by rw[HN.out];rfl,by rw[HN.out];exact hsl,hb1.trans (hb2.mono hb1.size)⟩
def EnvQ (w:World):Prop:=EnvD w
theorem EnvQ.next {w w':World} (h:EnvQ w) (hb:Below w.heap.size w w'):EnvQ w':=EnvD.next h hb
theorem EnvQ.d {w:World} (h:EnvQ w):EnvD w:=h
theorem EnvQ.c {w:World} (h:EnvQ w):EnvC w:=EnvD.toEnvC h
theorem EnvQ.x {w:World} (h:EnvQ w):EnvX w:=EnvD.most h
theorem EnvQ.p {w:World} (h:EnvQ w):EnvP w:=EnvD.most h
theorem EnvQ.n {w:World} (h:EnvQ w):EnvN w:=⟨EnvD.most h,(EnvD.toEnvC h).pow,EnvD.synt h,EnvD.rang h⟩
theorem EnvQ.a {w:World} (h:EnvQ w):Env w:=⟨EnvD.most h,(EnvD.toEnvC h).pow,(EnvD.toEnvC h).tz 15 (by decide),EnvD.synt h,EnvD.rang h⟩
set_option maxHeartbeats 4000000 in
theorem ptold_any (p:Prd) (A:Option Addr) (c:Nat) (w:World) (h:PrdAt w p A c) (hE:EnvQ w) :
  Calls Tryz.prog 49 #[.agg (prdV p A c).toArray] w fun e w'=>e=.returned (.tuple #[.string (bstr (toldP p).1),.string (bstr (toldP p).2)])∧Below w.heap.size w w':=by
 obtain⟨ok,hnm,hlo,hhi,hpl,hsm⟩:=h
 have hsz:=Lib.hid (show (Tryz.prog.info? 28).map (·.size)=some (rngV p.net).length by rw[length_rngV' _ ok.net.a];exact size_rng)
 have r1:Row (w.alloc (.cells (prdV p A c).toArray 31)) w.heap.size 31 (prdV p A c):=Row.new w _ _
 have hb1:Below w.heap.size w (w.alloc (.cells (prdV p A c).toArray 31)):=(Below.refl _ w).alloc (Nat.le_refl _) _
 obtain⟨w1,hw1⟩:∃w1,w1=w.alloc (.cells (prdV p A c).toArray 31):=⟨_,rfl⟩
 rw[←hw1] at r1 hb1
 obtain⟨k0,k1,k2,k3,k4,k5⟩:=prd_cells ok.net.a r1
 have K4:=Lib.hid k4
 have HW:=Lib.hid hw1
 have hs1:=hnm.later (Nat.le_refl _) hb1
 have hE1:=hE.next hb1
 have hd:=Lib.hid (fmt10_any p.time (by have:=ok.time;omega) w1 hE1.a)
 have hj:=Lib.hid (xjoin_any p.names (by omega) A c w1 hs1 hE1.x)
 have ht:=Lib.hid (atext13_any p.net ok.net w1 hE1.a)
 have hf:=Lib.hid (ctext_any p.cost ok.cost w1 hE1.c)
 clear k4 hw1 r1 hnm hs1 hsm hpl hE hE1
 generalize prdV p A c=X at *
 have tok:True:=trivial
 by_cases e1:p.kind=1
 ·have HX:=Lib.hid (show toldP p=([98,101,102,111,114,101],numL 10 p.time) by unfold toldP;rw[if_pos e1])
  rw[e1] at k0
  clear e1
  go_enter Tryz.func49,Tryz.ntmps49
  go_wp2_with (first
   | (have _t:=tok;rw[←HW.out];clear tok)
   | (go_at_call 79;refine hd.out.mono ?_;rintro e w2 ⟨rfl,hq⟩;have hb2:=hb1.trans (hq.mono hb1.size)))
  go_ret2
  exact⟨by rw[HX.out];rfl,hb2⟩
 have n1:(p.kind==1)=false:=by rw[beq_eq_false_iff_ne];exact e1
 by_cases e2:p.kind=2
 ·have HX:=Lib.hid (show toldP p=([115,105,110,99,101],numL 10 p.time) by unfold toldP;rw[if_neg e1,if_pos e2])
  rw[e2] at k0
  clear e1 n1 e2
  go_enter Tryz.func49,Tryz.ntmps49
  go_wp2_with (first
   | (have _t:=tok;rw[←HW.out];clear tok)
   | (go_at_call 79;refine hd.out.mono ?_;rintro e w2 ⟨rfl,hq⟩;have hb2:=hb1.trans (hq.mono hb1.size)))
  go_ret2
  exact⟨by rw[HX.out];rfl,hb2⟩
 have n2:(p.kind==2)=false:=by rw[beq_eq_false_iff_ne];exact e2
 by_cases e3:p.kind=3
 ·have HX:=Lib.hid (show toldP p=([111,112],joinL16 p.names) by unfold toldP;rw[if_neg e1,if_neg e2,if_pos e3])
  rw[e3] at k0
  clear e1 n1 e2 n2 e3
  go_enter Tryz.func49,Tryz.ntmps49
  go_wp2_with (first
   | (have _t:=tok;rw[←HW.out];clear tok)
   | (go_at_call 80;refine hj.out.mono ?_;rintro e w2 ⟨rfl,hq⟩;have hb2:=hb1.trans (hq.mono hb1.size)))
  go_ret2
  exact⟨by rw[HX.out];rfl,hb2⟩
 have n3:(p.kind==3)=false:=by rw[beq_eq_false_iff_ne];exact e3
 by_cases e4:p.kind=4
 ·have HX:=Lib.hid (show toldP p=([112,97,116,104],p.path) by unfold toldP;rw[if_neg e1,if_neg e2,if_neg e3,if_pos e4])
  rw[e4] at k0
  clear e1 n1 e2 n2 e3 n3 e4
  go_enter Tryz.func49,Tryz.ntmps49
  go_wp2_with (first
   | (have _t:=tok;rw[←HW.out];clear tok))
  refine wp_region_noPanic ?_
  refine wp_region_held_drew (S:=fun w'=>w'=w1.drew) (by kernel_rfl) rfl (fun hHeld=>?_)
  refine rtake 0 _ (some 23) _ rfl rfl (by kernel_rfl) (by kernel_rfl) (by kernel_rfl) (fun _ _ _ h=>h) (by rfl) hHeld (by intro w hS;subst hS;go_simp;try with_reducible rfl) ?_
  try (first | (rw[put_some];dsimp only[List.set]) | rw[put_none])
  refine rtake 1 _ (some 24) _ rfl rfl (by kernel_rfl) (by kernel_rfl) (by kernel_rfl) (fun _ _ _ h=>h) (by rfl) hHeld (by intro w hS;subst hS;go_simp;try with_reducible rfl) ?_
  try (first | (rw[put_some];dsimp only[List.set]) | rw[put_none])
  refine rtake 2 _ (some 2) _ rfl rfl (by kernel_rfl) (by kernel_rfl) (by kernel_rfl) (fun _ _ _ h=>h) (by rfl) hHeld (by intro w hS;subst hS;go_simp;try with_reducible rfl) ?_
  try (first | (rw[put_some];dsimp only[List.set]) | rw[put_none])
  refine rtake 3 _ (some 3) _ rfl rfl (by kernel_rfl) (by kernel_rfl) (by kernel_rfl) (fun _ _ _ h=>h) (by rfl) hHeld (by intro w hS;subst hS;go_simp;try with_reducible rfl) ?_
  try (first | (rw[put_some];dsimp only[List.set]) | rw[put_none])
  refine wpAnyH_done (by kernel_rfl) ?_ _
  refine NoPanic.normal ?_
  go_wp2
  go_ret2
  exact⟨by rw[HX.out];rfl,hb1.drew⟩
 have n4:(p.kind==4)=false:=by rw[beq_eq_false_iff_ne];exact e4
 by_cases e5:p.kind=5
 ·have HX:=Lib.hid (show toldP p=([110,101,116],textR p.net) by unfold toldP;rw[if_neg e1,if_neg e2,if_neg e3,if_neg e4,if_pos e5])
  rw[e5] at k0
  clear e1 n1 e2 n2 e3 n3 e4 n4 e5
  go_enter Tryz.func49,Tryz.ntmps49
  generalize rngV p.net=R at *
  go_wp2_with (first
   | (have _t:=tok;rw[←HW.out];clear tok)
   | (with_reducible refine wpList_load_mid rfl 28 (.tmp 27) rfl w.heap.size 4 rfl R _ K4.out Tryz.underlying28 rfl hsz.out ?_)
   | (go_at_call 81;refine ht.out.mono ?_;rintro e w2 ⟨rfl,hq⟩;have hb2:=hb1.trans (hq.mono hb1.size)))
  go_ret2
  exact⟨by rw[HX.out];rfl,hb2⟩
 have n5:(p.kind==5)=false:=by rw[beq_eq_false_iff_ne];exact e5
 by_cases e6:p.kind=6
 ·have HX:=Lib.hid (show toldP p=([99,111,115,116],textC p.cost) by unfold toldP;rw[if_neg e1,if_neg e2,if_neg e3,if_neg e4,if_neg e5,if_pos e6])
  rw[e6] at k0
  clear e1 n1 e2 n2 e3 n3 e4 n4 e5 n5 e6
  go_enter Tryz.func49,Tryz.ntmps49
  go_wp2_with (first
   | (have _t:=tok;rw[←HW.out];clear tok)
   | (go_at_call 82;refine hf.out.mono ?_;rintro e w2 ⟨rfl,hq⟩;have hb2:=hb1.trans (hq.mono hb1.size)))
  go_ret2
  exact⟨by rw[HX.out];rfl,hb2⟩
 have n6:(p.kind==6)=false:=by rw[beq_eq_false_iff_ne];exact e6
 have HX:=Lib.hid (show toldP p=([],[]) by unfold toldP;rw[if_neg e1,if_neg e2,if_neg e3,if_neg e4,if_neg e5,if_neg e6])
 clear e1 e2 e3 e4 e5 e6
 generalize p.kind=K at *
 go_enter Tryz.func49,Tryz.ntmps49
 go_wp2_with (first
  | (have _t:=tok;rw[←HW.out];clear tok))
 go_ret2
 exact⟨by rw[HX.out];rfl,hb1⟩
end Go.Proofs.YtjieebmcbpdeiaaGreatDoor
