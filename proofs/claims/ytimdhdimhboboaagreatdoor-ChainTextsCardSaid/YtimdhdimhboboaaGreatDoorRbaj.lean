import Derived.Test.YtimdhdimhboboaaGreatDoorRbai
import Derived.Test.YtimdhdimhboboaaGreatDoorRbaf
import Derived.Test.YtimdhdimhboboaaGreatDoorRbah
namespace Go.Proofs.YtimdhdimhboboaaGreatDoor
set_option maxRecDepth 100000
open Go Go.RowKit
set_option maxHeartbeats 2000000 in
theorem l0C (s:List UInt8) (x:UInt8) (hs:s.length≤1000) (w:World) :
  Calls Tryz.prog 152 #[.string (bstr s),.int .u8 (x.toNat:Int)] w fun e w'=>∃v,e=.returned v∧w'.ownsRow w.heap.size 9 1 v (a0h x s).length (a0I (a0h x s))∧Below w.heap.size w w':=by
 obtain⟨i0,hi,hz0,hz1,hz2⟩:=info_parts j0O
 have hz:=a0f s
 have hown0:(w.alloc (.cells #[] 9)).ownsRow w.heap.size 9 1 (.slice (some ⟨w.heap.size,0,none⟩) 0 0) 0 (a0I []):=World.ownsRow_lit w (e:=9) (size:=1) #[] 0 (Nat.le_refl _) (by unfold maxLen;omega) rfl
 have hb0:Below w.heap.size w (w.alloc (.cells #[] 9)):=(Below.refl _ w).alloc (Nat.le_refl _) _
 go_enter Tryz.func152,Tryz.ntmps152
 go_wp2
 go_loopw [5,6,7] (fun v f i wr=>∃(out:List (List UInt8)) (g k:Nat),k≤s.length+1∧g≤k∧i=.int .i64 k∧f=.int .i64 g∧wr.ownsRow w.heap.size 9 1 v out.length (a0I out)∧Below w.heap.size w wr∧out.length≤k ∧
   (k≤s.length∧out++a0h x (s.drop g)=a0h x s∧(∀c∈(s.drop g).take (k - g),c≠x)∨k=s.length+1∧out=a0h x s)) (fun _ _ i _=>s.length+1 - (intOf i).toNat)
 case atStart=>exact⟨[],0,0,by omega,by omega,rfl,rfl,hown0,hb0,by simp,.inl ⟨by omega,rfl,by simp⟩⟩
 case round =>
  clear hown0 hb0
  obtain⟨out,g,k,hk,hg,rfl,rfl,hown,hb,hol,hcase⟩:=hrel
  by_cases hlt:k≤s.length
  ·obtain⟨-,hsp,hno⟩:k≤s.length∧out++a0h x (s.drop g)=a0h x s∧(∀c∈(s.drop g).take (k - g),c≠x):=by
    rcases hcase with h | ⟨h,_⟩
    ·exact h
    ·omega
   have hlt':(k:Int)≤(s.length:Int):=by omega
   have hg':(g:Int)≤(k:Int):=by omega
   have hex:=a0y s g k
   have hbs:=hb.size
   have n1:out.length+1≤maxLen:=by unfold maxLen;omega
   have n2:(out.length+1)*16≤140737488355328:=by omega
   by_cases he:k=s.length
   ·have heb:((k:Int)==(s.length:Int))=true:=by rw[he];exact beq_self_eq_true _
    have HF:=Lib.hid (show out++[(s.drop g).take (k - g)]=a0h x s by
     have e:(s.drop g).take (k - g)=s.drop g:=by rw[List.take_of_length_le];rw[List.length_drop];omega
     rw[e] at hno ⊢
     rw[←hsp,c0S x _ hno])
    have HK:=Lib.hid he
    generalize (s.drop g).take (k - g)=p at *
    clear hcase hsp hno he
    have hslp:Sl (wr.alloc (.cells #[.string (bstr p)] 9)) (some ⟨wr.heap.size,0,none⟩) 1 (a0I [p]):=c0O (a0I [p]) rfl 1 rfl
    have howna:=hown.alloc (.cells #[.string (bstr p)] 9)
    have hbe:=hb.alloc hb.size (.cells #[.string (bstr p)] 9)
    go_wp2_with (at_builtin;refine a0k rfl (.tmp 26) (.tmp 31) 59 rfl w.heap.size 9 i0 _ 16 Tryz.underlying59 hi hz0 hz1 hz2 rfl _ out.length (a0I out) rfl howna (some ⟨wr.heap.size,0,none⟩) 1 1 (a0I [p]) rfl rfl hslp (d0x _) n1 n2 hbe.size ?_;intro v3 w3 hown3 hg3;have hb3:=hbe.grown hg3 hbe.size (fun j hj=>(howna.lt j hj).1);rw[←c0y] at hown3)
    go_roundw
    case rel=>exact⟨out++[p],k+1,k+1,by omega,by omega,by go_num,by go_num,by rw[List.length_append];exact hown3,hb3,by rw[List.length_append];simp;omega,.inr ⟨by rw[HK.out],HF.out⟩⟩
    case measure=>simp[intOf];omega
   ·have heb:((k:Int)==(s.length:Int))=false:=by rw[beq_eq_false_iff_ne];omega
    have hlt2:k < s.length:=by omega
    have hix:=a0Q s k hlt2
    by_cases hc:s.getD k 0=x
    ·have e2:a0h x (s.drop g)=(s.drop g).take (k - g) :: a0h x (s.drop (k+1)):=by
      conv=>lhs;rw[i0c s g k hg hlt2,hc]
      exact d0U x _ _ hno
     have HF:=Lib.hid (show (out++[(s.drop g).take (k - g)])++a0h x (s.drop (k+1))=a0h x s by
      rw[←hsp,e2,List.append_assoc];rfl)
     rw[hc] at hix
     generalize (s.drop g).take (k - g)=p at *
     clear hcase hsp hno hc e2
     have hslp:Sl (wr.alloc (.cells #[.string (bstr p)] 9)) (some ⟨wr.heap.size,0,none⟩) 1 (a0I [p]):=c0O (a0I [p]) rfl 1 rfl
     have howna:=hown.alloc (.cells #[.string (bstr p)] 9)
     have hbe:=hb.alloc hb.size (.cells #[.string (bstr p)] 9)
     go_wp2_with (at_builtin;refine a0k rfl (.tmp 26) (.tmp 31) 59 rfl w.heap.size 9 i0 _ 16 Tryz.underlying59 hi hz0 hz1 hz2 rfl _ out.length (a0I out) rfl howna (some ⟨wr.heap.size,0,none⟩) 1 1 (a0I [p]) rfl rfl hslp (d0x _) n1 n2 hbe.size ?_;intro v3 w3 hown3 hg3;have hb3:=hbe.grown hg3 hbe.size (fun j hj=>(howna.lt j hj).1);rw[←c0y] at hown3)
     go_roundw
     case rel=>exact⟨out++[p],k+1,k+1,by omega,by omega,by go_num,by go_num,by rw[List.length_append];exact hown3,hb3,by rw[List.length_append];simp;omega,.inl ⟨by omega,HF.out,by simp⟩⟩
     case measure=>simp[intOf];omega
    ·have HN:=Lib.hid (show ∀c∈(s.drop g).take (k+1 - g),c≠x by
      rw[i0r s g k hg hlt2]
      intro c hcm
      rcases List.mem_append.1 hcm with h | h
      ·exact hno c h
      ·rw[List.mem_singleton.1 h];exact hc)
     have HS:=Lib.hid hsp
     have hxc:(((s.getD k 0).toNat:Int)==(x.toNat:Int))=false:=by
      rw[beq_eq_false_iff_ne]
      intro h
      exact hc (UInt8.toNat_inj.1 (by omega))
     generalize s.getD k 0=y at *
     clear hcase hsp hno hc hex
     go_wp2
     go_roundw
     case rel=>exact⟨out,g,k+1,by omega,by omega,by go_num,rfl,hown,hb,by omega,.inl ⟨by omega,HS.out,HN.out⟩⟩
     case measure=>simp[intOf];omega
  ·obtain rfl:k=s.length+1:=by omega
   obtain rfl:out=a0h x s:=by
    rcases hcase with ⟨h,_⟩ | ⟨_,h⟩
    ·omega
    ·exact h
   have hgt:(s.length:Int) < ((s.length+1:Nat):Int):=by omega
   clear hcase
   go_wp2
   go_ret
   exact⟨_,rfl,hown,hb⟩
def goL (b dg most:Nat):List (List UInt8)→Option (List Nat)
 | []=>some []
 | p :: ps=>match a0M b dg p with
  | none=>none
  | some n=>if most < n then none else (goL b dg most ps).map (n :: ·)
def a0v (b dg most:Nat) (x:UInt8) (s:List UInt8):Option (List Nat):=if s=[] then some [] else goL b dg most (a0h x s)
theorem a1g (b dg most k:Nat) (ps:List (List UInt8)) (h:k < ps.length):goL b dg most (ps.drop k)=match a0M b dg (ps.getD k []) with
  | none=>none
  | some n=>if most < n then none else (goL b dg most (ps.drop (k+1))).map (n :: ·):=by
 rw[List.drop_eq_getElem_cons h,goL,List.getD_eq_getElem?_getD,List.getElem?_eq_getElem h];rfl
def h0a (o:Option (List Nat)) (base:Nat) (v:Value) (w:World):Prop:=match o with
 | none=>v=.tuple #[.slice none 0 0,.bool false]
 | some l=>∃u,v=.tuple #[u,.bool true]∧w.ownsRow base 3 1 u l.length (b0i l)
theorem h0a.none {o:Option (List Nat)} {base:Nat} {w:World} (h:o=none):h0a o base (.tuple #[.slice none 0 0,.bool false]) w:=by subst h;rfl
theorem h0a.some {o:Option (List Nat)} {base:Nat} {w:World} {u:Value} {l:List Nat} (h:o=some l) (hu:w.ownsRow base 3 1 u l.length (b0i l)):h0a o base (.tuple #[u,.bool true]) w:=by subst h;exact⟨u,rfl,hu⟩
set_option maxHeartbeats 2000000 in
theorem f0q (s:List UInt8) (hs:s.length≤1000) (w:World) :
  Calls Tryz.prog 111 #[.string (bstr s),.int .u8 46,.int .i64 10,.int .i64 3,.int .i64 255] w fun e w'=>∃v,e=.returned v∧h0a (a0v 10 3 255 46 s) w.heap.size v w'∧Below w.heap.size w w':=by
 obtain⟨i0,hi,hz0,hz1,hz2⟩:=info_parts h0B
 have hown0:(w.alloc (.cells #[] 3)).ownsRow w.heap.size 3 1 (.slice (some ⟨w.heap.size,0,none⟩) 0 0) 0 (b0i []):=World.ownsRow_lit w (e:=3) (size:=1) #[] 0 (Nat.le_refl _) (by unfold maxLen;omega) rfl
 have hb0:Below w.heap.size w (w.alloc (.cells #[] 3)):=(Below.refl _ w).alloc (Nat.le_refl _) _
 by_cases h0:s=[]
 ·subst h0
  have hne:(bstr []).toList.isEmpty=true:=by rw[a0n];rfl
  generalize bstr []=S at *
  go_enter Tryz.func111,Tryz.ntmps111
  go_wp2
  go_ret2
  exact⟨_,rfl,h0a.some rfl hown0,hb0⟩
 ·have HN:=Lib.hid (show a0v 10 3 255 46 s=goL 10 3 255 (a0h 46 s) by unfold a0v;rw[if_neg h0])
  have hne:(bstr s).toList.isEmpty=false:=by
   rw[a0n]
   cases s with
   | nil=>exact absurd rfl h0
   | cons _ _=>rfl
  have hsp:=Lib.hid (fun w'=>l0C s 46 hs w')
  have hpl:=c0T 46 s
  have hp0:0 < (a0h 46 s).length:=List.length_pos_iff.2 (f0b _ _)
  generalize a0h 46 s=ps at *
  generalize bstr s=S at *
  go_enter Tryz.func111,Tryz.ntmps111
  go_wp2_with (go_at_call 152;refine (hsp.out _).mono ?_;rintro e w2 ⟨vp,rfl,hownp,hb2⟩;obtain⟨A,c,rfl,-,hsl⟩:=Sl.of_own hownp;have hb2:=hb0.trans (hb2.mono hb0.size);clear hownp hown0 hb0)
  go_loopw [12,24] (fun v i wr=>∃(k:Nat) (ns:List Nat),k≤ps.length∧i=.int .i64 k∧h0X wr w2.heap.size 3 v k (b0i ns)∧ns.length=k∧goL 10 3 255 ps=(goL 10 3 255 (ps.drop k)).map (ns++·)∧Below w2.heap.size w2 wr) (fun _ i _=>ps.length - (intOf i).toNat)
  case atStart=>exact⟨0,[],by omega,rfl,h0X.lit _ _ _ _,rfl,by rw[List.drop_zero];simp,Below.refl _ _⟩
  case round =>
   obtain⟨k,ns,hk,rfl,hbg,hnl,hgo,hbr⟩:=hrel
   by_cases hlt:k < ps.length
   ·have hlt':(k:Int) < (ps.length:Int):=by omega
    obtain⟨b,o,hA,-,-⟩:=hsl.rd.get (i:=k) (by rw[a0B];exact hlt)
    have hix:=b0R A b o ps.length c k hA hlt
    have hce:=c0z (by rw[hA] at hsl;exact hsl.later (Nat.le_refl _) hbr) k hlt
    have HG:=Lib.hid hgo
    have HA:=Lib.hid (a1g 10 3 255 k ps hlt)
    have hv:=Lib.hid (fun w'=>o0D (ps.getD k []) 3 (by omega) w')
    generalize ps.getD k []=p at *
    clear hA
    cases hval:a0M 10 3 p with
    | none =>
     have HR:=Lib.hid (show a0v 10 3 255 46 s=none by rw[HN.out,HG.out,HA.out,hval];rfl)
     rw[hval,show optI none=-1 from rfl] at hv
     clear hgo HG HA hbg hval
     go_wp2_with (go_at_call 153;refine (hv.out _).mono ?_;rintro e w3 ⟨rfl,hb3⟩)
     go_ret2
     exact⟨_,rfl,h0a.none HR.out,(hb2.trans (hbr.mono hb2.size)).trans (hb3.mono (hb2.trans (hbr.mono hb2.size)).size)⟩
    | some n =>
     rw[hval,show optI (some n)=(n:Int) from rfl] at hv
     by_cases hm:255 < n
     ·have HR:=Lib.hid (show a0v 10 3 255 46 s=none by rw[HN.out,HG.out,HA.out,hval];simp[hm])
      have hm':(255:Int) < (n:Int):=by omega
      clear hgo HG HA hbg hval hm
      go_wp2_with (go_at_call 153;refine (hv.out _).mono ?_;rintro e w3 ⟨rfl,hb3⟩)
      go_ret2
      exact⟨_,rfl,h0a.none HR.out,(hb2.trans (hbr.mono hb2.size)).trans (hb3.mono (hb2.trans (hbr.mono hb2.size)).size)⟩
     ·have HG2:=Lib.hid (show goL 10 3 255 ps=(goL 10 3 255 (ps.drop (k+1))).map ((ns++[n])++·) by
       rw[HG.out,HA.out,hval]
       simp only[if_neg hm,Option.map_map]
       congr 1
       funext t
       simp)
      have hm':(n:Int)≤(255:Int):=by omega
      have hmw:IntKind.i64.wrap (n:Int)=(n:Int):=by rw[IntKind.wrap_i64];omega
      have n1:k+1≤maxLen:=by unfold maxLen;omega
      have n2:(k+1)*8≤140737488355328:=by omega
      clear hgo HG HA hval hm
      go_wp2_with (first
       | (go_at_call 153;refine (hv.out _).mono ?_;rintro e w3 ⟨rfl,hb3⟩;have hbg3:=hbg.later hb3 (Nat.le_refl _);have hb3:=hbr.trans (hb3.mono hbr.size);have hsl4:Sl (w3.alloc (.cells #[.int .i64 (n:Int)] 3)) (some ⟨w3.heap.size,0,none⟩) 1 (b0i [n]):=c0O (b0i [n]) rfl 1 rfl;have hbg4:=hbg3.later ((Below.refl w3.heap.size w3).alloc (Nat.le_refl _) (.cells #[.int .i64 (n:Int)] 3)) (Nat.le_refl _);have hb4:=hb3.alloc hb3.size (.cells #[.int .i64 (n:Int)] 3))
       | (at_builtin;refine f0c rfl (.tmp 39) (.tmp 41) 158 rfl w2.heap.size 3 i0 _ 8 Tryz.underlying158 hi hz0 hz1 hz2 rfl _ k (b0i ns) rfl hbg4 (some ⟨w3.heap.size,0,none⟩) 1 1 (b0i [n]) rfl rfl (by decide) hsl4 (g0n _) n1 n2 hb4.size ?_;intro v5 w5 hown5 hb5;rw[←d0t] at hown5))
      go_roundw
      case rel=>exact⟨k+1,ns++[n],by omega,by go_num,.inr hown5,by rw[List.length_append,hnl];rfl,HG2.out,hb4.trans hb5⟩
      case measure=>simp[intOf];omega
   ·obtain rfl:k=ps.length:=by omega
    have HR:=Lib.hid (show a0v 10 3 255 46 s=some ns by rw[HN.out,hgo,List.drop_length];simp[goL])
    have hown:=(show ∀v,h0X wr w2.heap.size 3 v ps.length (b0i ns)→wr.ownsRow w.heap.size 3 1 v ns.length (b0i ns) from fun v hbg=>by
     rcases hbg with ⟨_,h,_⟩ | h
     ·omega
     ·rw[hnl];exact a0K h hb2.size) _ hbg
    clear hbg hgo
    go_wp2
    go_ret2
    exact⟨_,rfl,h0a.some HR.out hown,hb2.trans (hbr.mono hb2.size)⟩
set_option maxHeartbeats 2000000 in
theorem f0r (s:List UInt8) (hs:s.length≤1000) (w:World) :
  Calls Tryz.prog 111 #[.string (bstr s),.int .u8 58,.int .i64 16,.int .i64 4,.int .i64 65535] w fun e w'=>∃v,e=.returned v∧h0a (a0v 16 4 65535 58 s) w.heap.size v w'∧Below w.heap.size w w':=by
 obtain⟨i0,hi,hz0,hz1,hz2⟩:=info_parts h0B
 have hown0:(w.alloc (.cells #[] 3)).ownsRow w.heap.size 3 1 (.slice (some ⟨w.heap.size,0,none⟩) 0 0) 0 (b0i []):=World.ownsRow_lit w (e:=3) (size:=1) #[] 0 (Nat.le_refl _) (by unfold maxLen;omega) rfl
 have hb0:Below w.heap.size w (w.alloc (.cells #[] 3)):=(Below.refl _ w).alloc (Nat.le_refl _) _
 by_cases h0:s=[]
 ·subst h0
  have hne:(bstr []).toList.isEmpty=true:=by rw[a0n];rfl
  generalize bstr []=S at *
  go_enter Tryz.func111,Tryz.ntmps111
  go_wp2
  go_ret2
  exact⟨_,rfl,h0a.some rfl hown0,hb0⟩
 ·have HN:=Lib.hid (show a0v 16 4 65535 58 s=goL 16 4 65535 (a0h 58 s) by unfold a0v;rw[if_neg h0])
  have hne:(bstr s).toList.isEmpty=false:=by
   rw[a0n]
   cases s with
   | nil=>exact absurd rfl h0
   | cons _ _=>rfl
  have hsp:=Lib.hid (fun w'=>l0C s 58 hs w')
  have hpl:=c0T 58 s
  have hp0:0 < (a0h 58 s).length:=List.length_pos_iff.2 (f0b _ _)
  generalize a0h 58 s=ps at *
  generalize bstr s=S at *
  go_enter Tryz.func111,Tryz.ntmps111
  go_wp2_with (go_at_call 152;refine (hsp.out _).mono ?_;rintro e w2 ⟨vp,rfl,hownp,hb2⟩;obtain⟨A,c,rfl,-,hsl⟩:=Sl.of_own hownp;have hb2:=hb0.trans (hb2.mono hb0.size);clear hownp hown0 hb0)
  go_loopw [12,24] (fun v i wr=>∃(k:Nat) (ns:List Nat),k≤ps.length∧i=.int .i64 k∧h0X wr w2.heap.size 3 v k (b0i ns)∧ns.length=k∧goL 16 4 65535 ps=(goL 16 4 65535 (ps.drop k)).map (ns++·)∧Below w2.heap.size w2 wr) (fun _ i _=>ps.length - (intOf i).toNat)
  case atStart=>exact⟨0,[],by omega,rfl,h0X.lit _ _ _ _,rfl,by rw[List.drop_zero];simp,Below.refl _ _⟩
  case round =>
   obtain⟨k,ns,hk,rfl,hbg,hnl,hgo,hbr⟩:=hrel
   by_cases hlt:k < ps.length
   ·have hlt':(k:Int) < (ps.length:Int):=by omega
    obtain⟨b,o,hA,-,-⟩:=hsl.rd.get (i:=k) (by rw[a0B];exact hlt)
    have hix:=b0R A b o ps.length c k hA hlt
    have hce:=c0z (by rw[hA] at hsl;exact hsl.later (Nat.le_refl _) hbr) k hlt
    have HG:=Lib.hid hgo
    have HA:=Lib.hid (a1g 16 4 65535 k ps hlt)
    have hv:=Lib.hid (fun w'=>o0F (ps.getD k []) 4 (by omega) w')
    generalize ps.getD k []=p at *
    clear hA
    cases hval:a0M 16 4 p with
    | none =>
     have HR:=Lib.hid (show a0v 16 4 65535 58 s=none by rw[HN.out,HG.out,HA.out,hval];rfl)
     rw[hval,show optI none=-1 from rfl] at hv
     clear hgo HG HA hbg hval
     go_wp2_with (go_at_call 153;refine (hv.out _).mono ?_;rintro e w3 ⟨rfl,hb3⟩)
     go_ret2
     exact⟨_,rfl,h0a.none HR.out,(hb2.trans (hbr.mono hb2.size)).trans (hb3.mono (hb2.trans (hbr.mono hb2.size)).size)⟩
    | some n =>
     rw[hval,show optI (some n)=(n:Int) from rfl] at hv
     by_cases hm:65535 < n
     ·have HR:=Lib.hid (show a0v 16 4 65535 58 s=none by rw[HN.out,HG.out,HA.out,hval];simp[hm])
      have hm':(65535:Int) < (n:Int):=by omega
      clear hgo HG HA hbg hval hm
      go_wp2_with (go_at_call 153;refine (hv.out _).mono ?_;rintro e w3 ⟨rfl,hb3⟩)
      go_ret2
      exact⟨_,rfl,h0a.none HR.out,(hb2.trans (hbr.mono hb2.size)).trans (hb3.mono (hb2.trans (hbr.mono hb2.size)).size)⟩
     ·have HG2:=Lib.hid (show goL 16 4 65535 ps=(goL 16 4 65535 (ps.drop (k+1))).map ((ns++[n])++·) by
       rw[HG.out,HA.out,hval]
       simp only[if_neg hm,Option.map_map]
       congr 1
       funext t
       simp)
      have hm':(n:Int)≤(65535:Int):=by omega
      have hmw:IntKind.i64.wrap (n:Int)=(n:Int):=by rw[IntKind.wrap_i64];omega
      have n1:k+1≤maxLen:=by unfold maxLen;omega
      have n2:(k+1)*8≤140737488355328:=by omega
      clear hgo HG HA hval hm
      go_wp2_with (first
       | (go_at_call 153;refine (hv.out _).mono ?_;rintro e w3 ⟨rfl,hb3⟩;have hbg3:=hbg.later hb3 (Nat.le_refl _);have hb3:=hbr.trans (hb3.mono hbr.size);have hsl4:Sl (w3.alloc (.cells #[.int .i64 (n:Int)] 3)) (some ⟨w3.heap.size,0,none⟩) 1 (b0i [n]):=c0O (b0i [n]) rfl 1 rfl;have hbg4:=hbg3.later ((Below.refl w3.heap.size w3).alloc (Nat.le_refl _) (.cells #[.int .i64 (n:Int)] 3)) (Nat.le_refl _);have hb4:=hb3.alloc hb3.size (.cells #[.int .i64 (n:Int)] 3))
       | (at_builtin;refine f0c rfl (.tmp 39) (.tmp 41) 158 rfl w2.heap.size 3 i0 _ 8 Tryz.underlying158 hi hz0 hz1 hz2 rfl _ k (b0i ns) rfl hbg4 (some ⟨w3.heap.size,0,none⟩) 1 1 (b0i [n]) rfl rfl (by decide) hsl4 (g0n _) n1 n2 hb4.size ?_;intro v5 w5 hown5 hb5;rw[←d0t] at hown5))
      go_roundw
      case rel=>exact⟨k+1,ns++[n],by omega,by go_num,.inr hown5,by rw[List.length_append,hnl];rfl,HG2.out,hb4.trans hb5⟩
      case measure=>simp[intOf];omega
   ·obtain rfl:k=ps.length:=by omega
    have HR:=Lib.hid (show a0v 16 4 65535 58 s=some ns by rw[HN.out,hgo,List.drop_length];simp[goL])
    have hown:=(show ∀v,h0X wr w2.heap.size 3 v ps.length (b0i ns)→wr.ownsRow w.heap.size 3 1 v ns.length (b0i ns) from fun v hbg=>by
     rcases hbg with ⟨_,h,_⟩ | h
     ·omega
     ·rw[hnl];exact a0K h hb2.size) _ hbg
    clear hbg hgo
    go_wp2
    go_ret2
    exact⟨_,rfl,h0a.some HR.out hown,hb2.trans (hbr.mono hb2.size)⟩
def c0X (l:List Nat):List UInt8:=l.flatMap fun n=>[UInt8.ofNat (n/256),UInt8.ofNat (n%256)]
theorem c0k (l:List Nat):(c0X l).length=2*l.length:=by
 unfold c0X
 induction l with
 | nil=>rfl
 | cons x t ih=>rw[List.flatMap_cons,List.length_append,ih];simp;omega
theorem j0C (l:List Nat) (k:Nat) (h:k < l.length):c0X (l.take (k+1))=c0X (l.take k)++[UInt8.ofNat (l.getD k 0/256),UInt8.ofNat (l.getD k 0%256)]:=by
 unfold c0X
 rw[List.take_add_one,List.flatMap_append]
 simp[h]
def sixA (l:List Nat):Adr:=⟨true,c0X l⟩
def a0G:Adr:=⟨false,List.replicate 16 0⟩
theorem b0D:a0G.Ok:=rfl
set_option maxHeartbeats 2000000 in
theorem r0s (l:List Nat) (h8:l.length=8) (hm:∀n∈l,n≤65535) (A:Option Addr) (c:Nat) (w:World) (hs:Sl w A c (b0i l)) :
  Calls Tryz.prog 113 #[.slice A 8 c] w fun e w'=>e=.returned (.agg (adrV (sixA l)).toArray)∧Below w.heap.size w w':=by
 have hsz:=Lib.hid (show (Tryz.prog.info? 65).map (·.size)=some (adrV (sixA l)).toArray.size by rw[a0W,List.size_toArray,a0l (show (sixA l).Ok by show (c0X l).length=16;rw[c0k,h8])])
 go_enter Tryz.func113,Tryz.ntmps113
 go_wp2_with (with_reducible refine wpList_store_row rfl 65 (.tmp 3) (.tmp 6) rfl (w.heap.size+1) _ rfl rfl 65 _ (heap_alloc2_new w _ _) (by kernel_rfl) (by kernel_rfl) (by kernel_rfl) ?_;refine Hid.out ?_)
 refine Lib.hid ?_
 generalize hw4:World.setRow _ _ _=w4
 obtain⟨r0,r1,hb4⟩:=i0F hw4
 have r0:Row w4 w.heap.size 65 (adrV a0G):=r0
 have r1:Row w4 (w.heap.size+1) 65 ((.bool true :: byts (c0X (l.take 0)))++List.replicate (16 - 2*0) (.int .u8 0)):=r1
 clear hw4
 go_wp2_with fail
 go_loopw [9] (fun i wr=>∃k:Nat,k≤8∧i=.int .i64 k∧Row wr (w.heap.size+1) 65 ((.bool true :: byts (c0X (l.take k)))++List.replicate (16 - 2*k) (.int .u8 0))∧Row wr w.heap.size 65 (adrV a0G)∧Below w.heap.size w wr) (fun i _=>8 - (intOf i).toNat)
 case atStart=>exact⟨0,by omega,rfl,r1,r0,hb4⟩
 case round =>
  clear r0 r1 hb4
  obtain⟨k,hk,rfl,hrow,hres,hb⟩:=hrel
  by_cases hlt:k < 8
  ·have hlt':(k:Int) < 8:=by omega
   have hlt2:k < l.length:=by omega
   obtain⟨b,o,hA,-,-⟩:=hs.rd.get (i:=k) (by rw[b0F];exact hlt2)
   have hix:=i0h A b o 8 c k hA hlt
   have hce:=d0X (by rw[hA] at hs;exact hs.later (Nat.le_refl _) hb) k hlt2
   have HS:=Lib.hid (j0C l k hlt2)
   have hx:l.getD k 0≤65535:=hm _ (by rw[List.getD_eq_getElem?_getD,List.getElem?_eq_getElem hlt2];exact List.getElem_mem hlt2)
   have hXl:(c0X (l.take k)).length=2*k:=by rw[c0k,List.length_take];omega
   generalize c0X (l.take k)=X at *
   generalize l.getD k 0=x at *
   have hI0:IntKind.i64.wrap (2*(k:Int))=2*(k:Int):=by rw[IntKind.wrap_i64];omega
   have hI1:(0:Int)≤2*(k:Int):=by omega
   have hI2:2*(k:Int) < 16:=by omega
   have hI3:(2*(k:Int)).toNat=2*k:=by omega
   have hJ0:IntKind.i64.wrap (2*(k:Int)+1)=2*(k:Int)+1:=by rw[IntKind.wrap_i64];omega
   have hJ1:(0:Int)≤2*(k:Int)+1:=by omega
   have hJ2:2*(k:Int)+1 < 16:=by omega
   have hJ3:(2*(k:Int)+1).toNat=2*k+1:=by omega
   have hq1:IntKind.i64.wrap ((x:Int)/256)=(x:Int)/256:=by rw[IntKind.wrap_i64];omega
   have hq2:IntKind.u8.wrap ((x:Int)/256)=((UInt8.ofNat (x/256)).toNat:Int):=by rw[IntKind.wrap_u8,UInt8.toNat_ofNat'];omega
   have hq3:((x:Int)).tmod 256=(x:Int)%256:=Int.tmod_eq_emod_of_nonneg (by omega)
   have hq4:IntKind.u8.wrap ((x:Int)%256)=((UInt8.ofNat (x%256)).toNat:Int):=by rw[IntKind.wrap_u8,UInt8.toNat_ofNat'];omega
   generalize UInt8.ofNat (x/256)=p at *
   generalize UInt8.ofNat (x%256)=q at *
   have hr0:List.replicate (16 - 2*k) (Value.int .u8 0)=.int .u8 0 :: .int .u8 0 :: List.replicate (16 - 2*(k+1)) (Value.int .u8 0):=by rw[show 16 - 2*k=16 - 2*(k+1)+1+1 by omega];rfl
   rw[hr0] at hrow
   have hhl:(Value.bool true :: byts X).length=1+2*k:=by rw[List.length_cons,a0b,hXl,Nat.add_comm]
   have hc1:wr.cell? ⟨w.heap.size+1,1+2*k,none⟩=some (.int .u8 0):=by rw[hrow.cell,List.getElem?_append_right (by rw[hhl];exact Nat.le_refl _),hhl,Nat.sub_self];rfl
   have hc2:wr.cell? ⟨w.heap.size+1,1+(2*k+1),none⟩=some (.int .u8 0):=by rw[hrow.cell,List.getElem?_append_right (by rw[hhl];omega),hhl,show 1+(2*k+1) - (1+2*k)=1 by omega];rfl
   have hf1:=hrow.free (1+2*k)
   have hf2:=hrow.free (1+(2*k+1))
   have HL:=Lib.hid hhl
   clear hr0 hXl hA hs hhl
   go_wp2
   go_roundw
   case rel =>
    refine⟨k+1,by omega,by go_num,?_,?_,?_⟩
    ·have h:=(hrow.set (1+2*k) (.int .u8 (p.toNat:Int))).set (1+(2*k+1)) (.int .u8 (q.toNat:Int))
     have e:(Value.bool true :: byts (X++[p,q]))++List.replicate (16 - 2*(k+1)) (Value.int .u8 0)=(((Value.bool true :: byts X)++.int .u8 0 :: .int .u8 0 :: List.replicate (16 - 2*(k+1)) (Value.int .u8 0)).set (1+2*k) (.int .u8 (p.toNat:Int))).set (1+(2*k+1)) (.int .u8 (q.toNat:Int)):=by
      rw[show 1+(2*k+1)=1+2*k+1 from rfl,w0T _ _ _ HL.out,a0i];rfl
     rw[HS.out,e]
     exact h
    ·exact (hres.grown (a0q _ _ _ _) (by omega)).grown (a0q _ _ _ _) (by omega)
    ·exact (hb.grown (a0q _ _ _ _) hb.size (fun k h=>by cases h;omega)).grown (a0q _ _ _ _) (by rw[World.size_setCell];exact hb.size) (fun k h=>by cases h;omega)
   case measure=>simp[intOf];omega
  ·obtain rfl:k=8:=by omega
   have hrow:Row wr (w.heap.size+1) 65 (adrV (sixA l)):=by
    rw[show 16 - 2*8=0 from rfl,List.replicate_zero,List.append_nil,List.take_of_length_le (by omega)] at hrow
    exact hrow
   obtain⟨V,hV⟩:∃V,V=adrV (sixA l):=⟨_,rfl⟩
   have hV1:=Lib.hid (show V.toArray.all (·.oneCell')=true from a0Y (by rw[hV];exact c0A _))
   have hVs:=Lib.hid (show (adrV a0G).toArray.size=V.toArray.size by rw[hV,List.size_toArray,List.size_toArray,a0l b0D,a0l (show (sixA l).Ok by show (c0X l).length=16;rw[c0k,h8])])
   rw[←hV] at hrow hsz
   have HV:=Lib.hid hV
   obtain⟨Z,hZ⟩:∃Z,Z=adrV a0G:=⟨_,rfl⟩
   rw[←hZ] at hres hVs
   have H1:=Lib.hid (show wr.heap[w.heap.size+1]?=some (.cells V.toArray 65 (0,0)) from hrow)
   have H0:=Lib.hid (show wr.heap[w.heap.size]?=some (.cells Z.toArray 65 (0,0)) from hres)
   clear hV hZ hrow hres
   go_wp2_with (first
    | (with_reducible refine wpList_load_row rfl 65 (.tmp 3) rfl (w.heap.size+1) rfl 65 V.toArray (0,0) _ H1.out Tryz.underlying65 rfl hsz.out ?_)
    | (with_reducible refine wpList_store_row rfl 65 (.tmp 2) (.tmp 30) rfl w.heap.size V.toArray rfl rfl 65 Z.toArray H0.out hsz.out hVs.out hV1.out ?_;refine Hid.out ?_))
   refine Lib.hid ?_
   generalize hw5:World.setRow _ _ _=w5
   obtain⟨r5,hg5⟩:=a0z (show Row wr w.heap.size 65 Z from H0.out) hw5
   have hb5:=hb.grown hg5 hb.size (fun k h=>by cases h;exact Nat.le_refl _)
   have R5:=Lib.hid (show w5.heap[w.heap.size]?=some (.cells V.toArray 65 (0,0)) from r5)
   clear hw5 r5 hg5 H0 H1
   go_wp2_with (with_reducible refine bodyPost_ret (results_cell_row rfl _ _ w.heap.size 65 V.toArray (0,0) _ rfl R5.out Tryz.underlying65 rfl hsz.out) rfl ?_)
   exact⟨by rw[HV.out],hb5⟩
theorem b0I (l:List Nat):b0H l=b0c 58 (l.map (numL 16)):=by
 induction l with
 | nil=>rfl
 | cons n l ih =>
  cases l with
  | nil=>rfl
  | cons m l =>
   show numL 16 n++58 :: b0H (m :: l)=_
   rw[ih];rfl
theorem p0o (b dg most:Nat) (h2:2≤b) (hb:b≤16) (ps:List (List UInt8)) (l:List Nat) :
  goL b dg most ps=some l↔l.map (numL b)=ps∧∀n∈l,n≤most∧(numL b n).length≤dg:=by
 induction ps generalizing l with
 | nil =>
  rw[goL]
  constructor
  ·intro h;cases h;exact⟨rfl,by simp⟩
  ·rintro ⟨h,_⟩;rw[List.map_eq_nil_iff.1 h]
 | cons p ps ih =>
  rw[goL]
  constructor
  ·intro h
   cases hv:a0M b dg p with
   | none=>rw[hv] at h;cases h
   | some n =>
    rw[hv] at h
    obtain⟨h1,h3⟩:=(c0H b dg h2 hb p n).1 hv
    by_cases hm:most < n
    ·simp only[if_pos hm] at h;cases h
    ·simp only[if_neg hm] at h
     obtain⟨t,ht,rfl⟩:=Option.map_eq_some_iff.1 h
     obtain⟨h4,h5⟩:=(ih t).1 ht
     refine⟨by rw[List.map_cons,h1,h4],?_⟩
     intro q hq
     rcases List.mem_cons.1 hq with rfl | hq
     ·exact⟨by omega,by rw[h1];exact h3⟩
     ·exact h5 q hq
  ·rintro ⟨h,hall⟩
   cases l with
   | nil=>simp at h
   | cons n t =>
    rw[List.map_cons,List.cons.injEq] at h
    have hn:=hall n (List.mem_cons_self ..)
    rw[(c0H b dg h2 hb p n).2 ⟨h.1,by rw[←h.1];exact hn.2⟩]
    simp only[if_neg (show ¬most < n by omega)]
    rw[(ih t).2 ⟨h.2,fun q hq=>hall q (List.mem_cons_of_mem _ hq)⟩];rfl
theorem b0l (b dg most:Nat) (x:UInt8) (h2:2≤b) (hb:b≤16) (hx:x=46∨x=58) (s:List UInt8) (l:List Nat) :
  a0v b dg most x s=some l↔s=b0c x (l.map (numL b))∧∀n∈l,n≤most∧(numL b n).length≤dg:=by
 unfold a0v
 by_cases h0:s=[]
 ·rw[if_pos h0,h0]
  constructor
  ·intro h;cases h;exact⟨rfl,by simp⟩
  ·rintro ⟨h,_⟩
   cases l with
   | nil=>rfl
   | cons n t =>
    have hp:=f0P b n
    cases t with
    | nil=>exact absurd h.symm hp
    | cons m t =>
     have:=congrArg List.length h
     simp[b0c] at this
 ·rw[if_neg h0,p0o b dg most h2 hb]
  constructor
  ·rintro ⟨h,hall⟩
   exact⟨by rw[h,c0t],hall⟩
  ·rintro ⟨h,hall⟩
   refine⟨?_,hall⟩
   have hl:l≠[]:=by
    rintro rfl
    exact h0 h
   rw[h,h0p x _ (by simpa using hl)]
   intro p hp c hc
   obtain⟨n,_,rfl⟩:=List.mem_map.1 hp
   have:=h0G b n h2 hb c hc
   rcases hx with rfl | rfl
   ·exact this.1
   ·exact this.2
def c0U:List UInt8→Option Nat
 | []=>none
 | c :: s=>match s with
  | []=>none
  | d :: _=>if c=58∧d=58 then some 0 else (c0U s).map (· + 1)
def h0g (l:List Nat):Adr:=⟨false,l.map UInt8.ofNat++List.replicate 12 0⟩
def g0p (f b:List Nat):List Nat:=f++(List.replicate (8 - (f.length+b.length)) 0++b)
def c0j (s:List UInt8):Option Adr :=
 match c0U s with
 | none=>match a0v 16 4 65535 58 s with
  | none=>none
  | some l=>if l.length=8∧a0U (sixA l)=s then some (sixA l) else none
 | some k=>match a0v 16 4 65535 58 (s.take k),a0v 16 4 65535 58 (s.drop (k+2)) with
  | some f,some b=>if f.length+b.length≤7∧a0U (sixA (g0p f b))=s then some (sixA (g0p f b)) else none
  | _,_=>none
def b0V (s:List UInt8):Option Adr :=
 match a0v 10 3 255 46 s with
 | some l=>if l.length=4 then some (h0g l) else c0j s
 | none=>c0j s
theorem f0u (c d:UInt8) (s:List UInt8) (h:¬(c=58∧d=58)):c0U (c :: d :: s)=(c0U (d :: s)).map (· + 1):=by
 show (if c=58∧d=58 then some 0 else _)=_
 rw[if_neg h]
theorem j0K (p t:List UInt8) (h:∀c∈p,c≠58):c0U (p++t)=(c0U t).map (· + p.length):=by
 induction p with
 | nil=>rw[List.nil_append];cases c0U t<;>rfl
 | cons c p ih =>
  have ih:=ih (fun q hq=>h q (List.mem_cons_of_mem _ hq))
  have hc:=h c (List.mem_cons_self ..)
  rw[List.cons_append]
  cases hpt:p++t with
  | nil =>
   obtain⟨rfl,rfl⟩:=List.append_eq_nil_iff.1 hpt
   rfl
  | cons d u =>
   rw[f0u c d u (fun hh=>hc hh.1),←hpt,ih]
   cases c0U t<;>simp;omega
theorem l0g (ps:List (List UInt8)) (t:List UInt8) (h:∀p∈ps,p≠[]∧∀c∈p,c≠58):c0U (b0c 58 ps++t)=(c0U t).map (· + (b0c 58 ps).length):=by
 induction ps with
 | nil=>show c0U t=_;cases c0U t<;>simp[b0c]
 | cons p ps ih =>
  have ih:=ih (fun q hq=>h q (List.mem_cons_of_mem _ hq))
  by_cases he:ps=[]
  ·subst he
   exact j0K p t (h p (List.mem_cons_self ..)).2
  ·rw[b0q 58 p ps he,List.append_assoc,j0K p _ (h p (List.mem_cons_self ..)).2,List.cons_append]
   have hd:∃d u,b0c 58 ps=d :: u∧d≠58:=by
    cases ps with
    | nil=>exact absurd rfl he
    | cons q qs =>
     have hq:=h q (List.mem_cons_of_mem _ (List.mem_cons_self ..))
     cases q with
     | nil=>exact absurd rfl hq.1
     | cons d q =>
      have hd:=hq.2 d (List.mem_cons_self ..)
      cases qs with
      | nil=>exact⟨d,q,rfl,hd⟩
      | cons r qs=>exact⟨d,_,rfl,hd⟩
   obtain⟨d,u,hdu,hd⟩:=hd
   rw[hdu,List.cons_append,f0u 58 d _ (fun hh=>hd hh.2),←List.cons_append,←hdu,ih]
   cases c0U t<;>simp;omega
theorem o0o (l:List Nat):∀p∈l.map (numL 16),p≠[]∧∀c∈p,c≠58:=by
 intro p hp
 obtain⟨n,_,rfl⟩:=List.mem_map.1 hp
 exact⟨f0P 16 n,fun c hc=>(h0G 16 n (by omega) (by omega) c hc).2⟩
theorem i0l (l:List Nat):(46:UInt8)∉b0H l:=by
 rw[b0I]
 intro h
 rcases j0b 58 _ _ h with h | ⟨p,hp,hc⟩
 ·cases h
 ·obtain⟨n,_,rfl⟩:=List.mem_map.1 hp
  exact (h0G 16 n (by omega) (by omega) 46 hc).1 rfl
theorem t0M (l:List Nat):(46:UInt8)∉d0C l:=by
 unfold d0C
 simp only[]
 split
 ·exact i0l l
 ·intro h
  rcases List.mem_append.1 h with h | h
  ·exact i0l _ h
  ·rcases List.mem_cons.1 h with h | h
   ·cases h
   ·rcases List.mem_cons.1 h with h | h
    ·cases h
    ·exact i0l _ h
theorem f0y (n:Nat) (h:n≤65535):(numL 16 n).length≤4:=b0f 16 (by omega) 3 n (by omega)
theorem f0x (n:Nat) (h:n≤255):(numL 10 n).length≤3:=b0f 10 (by omega) 2 n (by omega)
theorem o0W (l:List Nat):l=List.replicate (a0S l) 0++l.drop (a0S l):=by
 induction l with
 | nil=>rfl
 | cons n l ih =>
  rw[a0S]
  by_cases h:n=0
  ·rw[if_pos h,List.replicate_succ,List.cons_append,List.drop_succ_cons,←ih,h]
  ·rw[if_neg h];rfl
theorem f0V (l:List Nat) (h:l.length=8):(sixA l).Ok:=by show (c0X l).length=16;rw[c0k,h]
theorem r0X (l:List Nat):b0b (sixA l)=true:=rfl
theorem r0j (f b:List Nat) (h:f.length+b.length≤7):(g0p f b).length=8:=by unfold g0p;simp;omega
theorem l0J (l:List Nat) (h4:l.length=4) (hm:∀n∈l,n≤255):(h0g l).Ok∧b0b (h0g l)=true∧a0U (h0g l)=b0c 46 (l.map (numL 10)):=by
 match l,h4,hm with
 | [a,b,c,d],_,hm =>
  have ha:=hm a (by simp)
  have hb:=hm b (by simp)
  have hc:=hm c (by simp)
  have hd:=hm d (by simp)
  have e:∀n,n≤255→(UInt8.ofNat n).toNat=n:=fun n hn=>by rw[UInt8.toNat_ofNat'];omega
  refine⟨rfl,rfl,?_⟩
  show numL 10 (UInt8.ofNat a).toNat++46 :: numL 10 (UInt8.ofNat b).toNat++46 :: numL 10 (UInt8.ofNat c).toNat++46 :: numL 10 (UInt8.ofNat d).toNat=_
  rw[e a ha,e b hb,e c hc,e d hd]
  show _=numL 10 a++46 :: (numL 10 b++46 :: (numL 10 c++46 :: numL 10 d))
  simp
theorem i0D (s:List UInt8) (a:Adr) (h:c0j s=some a):a.Ok∧b0b a=true∧a0U a=s:=by
 unfold c0j at h
 cases hf:c0U s with
 | none =>
  rw[hf] at h
  cases hn:a0v 16 4 65535 58 s with
  | none=>simp only[hn] at h;cases h
  | some l =>
   simp only[hn] at h
   by_cases hc:l.length=8∧a0U (sixA l)=s
   ·rw[if_pos hc] at h
    cases h
    exact⟨f0V l hc.1,rfl,hc.2⟩
   ·rw[if_neg hc] at h;cases h
 | some k =>
  rw[hf] at h
  cases hn:a0v 16 4 65535 58 (s.take k) with
  | none=>simp only[hn] at h;cases h
  | some f =>
   cases hb:a0v 16 4 65535 58 (s.drop (k+2)) with
   | none=>simp only[hn,hb] at h;cases h
   | some b =>
    simp only[hn,hb] at h
    by_cases hc:f.length+b.length≤7∧a0U (sixA (g0p f b))=s
    ·rw[if_pos hc] at h
     cases h
     exact⟨f0V _ (r0j f b hc.1),rfl,hc.2⟩
    ·rw[if_neg hc] at h;cases h
theorem o0j (s:List UInt8) (a:Adr) (h:b0V s=some a):a.Ok∧b0b a=true∧a0U a=s:=by
 unfold b0V at h
 cases hn:a0v 10 3 255 46 s with
 | none=>rw[hn] at h;exact i0D s a h
 | some l =>
  simp only[hn] at h
  by_cases h4:l.length=4
  ·rw[if_pos h4] at h
   cases h
   obtain⟨hs,hall⟩:=(b0l 10 3 255 46 (by omega) (by omega) (.inl rfl) s l).1 hn
   obtain⟨h1,h2,h3⟩:=l0J l h4 (fun n hq=>(hall n hq).1)
   exact⟨h1,h2,by rw[h3,←hs]⟩
  ·rw[if_neg h4] at h;exact i0D s a h
theorem c1x (x y:UInt8):UInt8.ofNat ((x.toNat*256+y.toNat)/256)=x∧UInt8.ofNat ((x.toNat*256+y.toNat)%256)=y:=by
 have hx:=x.toNat_lt
 have hy:=y.toNat_lt
 rw[show (x.toNat*256+y.toNat)/256=x.toNat by omega,show (x.toNat*256+y.toNat)%256=y.toNat by omega]
 exact⟨UInt8.ofNat_toNat,UInt8.ofNat_toNat⟩
theorem w0Y (a:Adr) (h:a.Ok) (h6:a.v6=true):sixA (c0d a)=a:=by
 obtain⟨v,b⟩:=a
 cases h6
 have h:b.length=16:=h
 match b,h with
 | [b0,b1,b2,b3,b4,b5,b6,b7,b8,b9,b10,b11,b12,b13,b14,b15],_ =>
  show Adr.mk true [UInt8.ofNat ((b0.toNat*256+b1.toNat)/256),UInt8.ofNat ((b0.toNat*256+b1.toNat)%256),UInt8.ofNat ((b2.toNat*256+b3.toNat)/256),UInt8.ofNat ((b2.toNat*256+b3.toNat)%256),UInt8.ofNat ((b4.toNat*256+b5.toNat)/256),UInt8.ofNat ((b4.toNat*256+b5.toNat)%256),UInt8.ofNat ((b6.toNat*256+b7.toNat)/256),UInt8.ofNat ((b6.toNat*256+b7.toNat)%256),UInt8.ofNat ((b8.toNat*256+b9.toNat)/256),UInt8.ofNat ((b8.toNat*256+b9.toNat)%256),UInt8.ofNat ((b10.toNat*256+b11.toNat)/256),UInt8.ofNat ((b10.toNat*256+b11.toNat)%256),UInt8.ofNat ((b12.toNat*256+b13.toNat)/256),UInt8.ofNat ((b12.toNat*256+b13.toNat)%256),UInt8.ofNat ((b14.toNat*256+b15.toNat)/256),UInt8.ofNat ((b14.toNat*256+b15.toNat)%256)]=_
  simp only[(c1x _ _).1,(c1x _ _).2]
theorem h0H (a:Adr):(c0d a).length=8:=by unfold c0d;simp
theorem m0q (a:Adr):∀n∈c0d a,n≤65535:=by
 intro n hn
 obtain⟨i,_,rfl⟩:=List.mem_map.1 hn
 have:=(a.b.getD (2*i) 0).toNat_lt
 have:=(a.b.getD (2*i+1) 0).toNat_lt
 omega
theorem o0S (l:List Nat) (h:l.length=8) (hm:∀n∈l,n≤65535):a0U (sixA l)=d0C l:=by
 have e:c0d (sixA l)=l:=by
  match l,h,hm with
  | [n0,n1,n2,n3,n4,n5,n6,n7],_,hm =>
   have e:∀n,n≤65535→(UInt8.ofNat (n/256)).toNat*256+(UInt8.ofNat (n%256)).toNat=n:=fun n hn=>by
    rw[UInt8.toNat_ofNat',UInt8.toNat_ofNat'];omega
   show [(UInt8.ofNat (n0/256)).toNat*256+(UInt8.ofNat (n0%256)).toNat,(UInt8.ofNat (n1/256)).toNat*256+(UInt8.ofNat (n1%256)).toNat,(UInt8.ofNat (n2/256)).toNat*256+(UInt8.ofNat (n2%256)).toNat,(UInt8.ofNat (n3/256)).toNat*256+(UInt8.ofNat (n3%256)).toNat,(UInt8.ofNat (n4/256)).toNat*256+(UInt8.ofNat (n4%256)).toNat,(UInt8.ofNat (n5/256)).toNat*256+(UInt8.ofNat (n5%256)).toNat,(UInt8.ofNat (n6/256)).toNat*256+(UInt8.ofNat (n6%256)).toNat,(UInt8.ofNat (n7/256)).toNat*256+(UInt8.ofNat (n7%256)).toNat]=_
   rw[e n0 (hm n0 (by simp)),e n1 (hm n1 (by simp)),e n2 (hm n2 (by simp)),e n3 (hm n3 (by simp)),e n4 (hm n4 (by simp)),e n5 (hm n5 (by simp)),e n6 (hm n6 (by simp)),e n7 (hm n7 (by simp))]
 unfold a0U
 rw[r0X,e];rfl
theorem v0a (a:Adr) (h:a.Ok) (hc:b0b a=true) (h6:a.v6=false):∃l:List Nat,l.length=4∧(∀n∈l,n≤255)∧h0g l=a:=by
 obtain⟨v,b⟩:=a
 cases h6
 have h:b.length=16:=h
 refine⟨(b.take 4).map UInt8.toNat,by rw[List.length_map,List.length_take,h];rfl,fun n hn=>?_,?_⟩
 ·obtain⟨x,_,rfl⟩:=List.mem_map.1 hn
  have:=x.toNat_lt
  omega
 ·have hz:b.drop 4=List.replicate 12 0:=by
   rw[List.eq_replicate_iff]
   refine⟨by rw[List.length_drop,h],fun x hx=>?_⟩
   have h2:(b.drop 4).all (·==0)=true:=by
    have hc:(false||(b.drop 4).all (·==0))=true:=hc
    rwa [Bool.false_or] at hc
   simpa using List.all_eq_true.1 h2 x hx
  show Adr.mk false (((b.take 4).map UInt8.toNat).map UInt8.ofNat++List.replicate 12 0)=_
  rw[←hz,List.map_map]
  have e:(UInt8.ofNat ∘ UInt8.toNat)=id:=by funext x;exact UInt8.ofNat_toNat
  rw[e,List.map_id,List.take_append_drop]
theorem p0G (l:List Nat) (h8:l.length=8) (hm:∀n∈l,n≤65535):c0j (d0C l)=some (sixA l):=by
 have ht:=o0S l h8 hm
 obtain⟨b,hb⟩:∃b,b=d0A l:=⟨_,rfl⟩
 obtain⟨n,hn⟩:∃n,n=a0S (l.drop b):=⟨_,rfl⟩
 have hT:d0C l=if n < 2 then b0H l else b0H (l.take b)++58 :: 58 :: b0H (l.drop (b+n)):=by rw[hn,hb];rfl
 have hbl:b≤8:=by rw[hb,←h8];exact l0Q l l.length
 have hnl:n≤8 - b:=by have:=o0V (l.drop b);rw[List.length_drop,h8] at this;omega
 by_cases h2:n < 2
 ·rw[if_pos h2] at hT
  have hf:c0U (d0C l)=none:=by
   rw[hT,b0I]
   have:=l0g (l.map (numL 16)) [] (o0o l)
   rw[List.append_nil] at this
   rw[this];rfl
  have hnum:a0v 16 4 65535 58 (d0C l)=some l :=
   (b0l 16 4 65535 58 (by omega) (by omega) (.inr rfl) _ l).2 ⟨by rw[hT,b0I],fun q hq=>⟨hm q hq,f0y q (hm q hq)⟩⟩
  unfold c0j
  simp only[hf,hnum]
  rw[if_pos ⟨h8,ht⟩]
 ·rw[if_neg h2] at hT
  have hf:c0U (d0C l)=some (b0H (l.take b)).length:=by
   rw[hT,b0I (l.take b),l0g _ _ (o0o _)]
   show (some 0).map _=_
   simp
  have e1:(d0C l).take (b0H (l.take b)).length=b0H (l.take b):=by rw[hT,List.take_left'];rfl
  have e2:(d0C l).drop ((b0H (l.take b)).length+2)=b0H (l.drop (b+n)):=by
   rw[hT,←List.drop_drop,List.drop_left']
   ·rfl
   ·rfl
  have hmt:∀q∈l.take b,q≤65535:=fun q hq=>hm q (List.mem_of_mem_take hq)
  have hmd:∀q∈l.drop (b+n),q≤65535:=fun q hq=>hm q (List.mem_of_mem_drop hq)
  have n1:a0v 16 4 65535 58 (b0H (l.take b))=some (l.take b) :=
   (b0l 16 4 65535 58 (by omega) (by omega) (.inr rfl) _ _).2 ⟨b0I _,fun q hq=>⟨hmt q hq,f0y q (hmt q hq)⟩⟩
  have n2:a0v 16 4 65535 58 (b0H (l.drop (b+n)))=some (l.drop (b+n)) :=
   (b0l 16 4 65535 58 (by omega) (by omega) (.inr rfl) _ _).2 ⟨b0I _,fun q hq=>⟨hmd q hq,f0y q (hmd q hq)⟩⟩
  have hlt:(l.take b).length=b:=by rw[List.length_take,h8];omega
  have hld:(l.drop (b+n)).length=8 - (b+n):=by rw[List.length_drop,h8]
  have hp:g0p (l.take b) (l.drop (b+n))=l:=by
   unfold g0p
   rw[hlt,hld,show 8 - (b+(8 - (b+n)))=n by omega]
   have e:=o0W (l.drop b)
   rw[←hn,List.drop_drop] at e
   rw[←e,List.take_append_drop]
  unfold c0j
  simp only[hf,e1,e2,n1,n2,hp]
  rw[if_pos ⟨by rw[hlt,hld];omega,ht⟩]
theorem v0k (l:List Nat) (h:l.length=4):(46:UInt8)∈b0c 46 (l.map (numL 10)):=by
 match l,h with
 | a :: b :: t,_ =>
  show (46:UInt8)∈numL 10 a++46 :: _
  simp
theorem h0l (a:Adr) (h:a.Ok) (hc:b0b a=true):b0V (a0U a)=some a:=by
 cases h6:a.v6 with
 | false =>
  obtain⟨l,h4,hm,rfl⟩:=v0a a h hc h6
  have ht:=(l0J l h4 hm).2.2
  have hn:a0v 10 3 255 46 (a0U (h0g l))=some l :=
   (b0l 10 3 255 46 (by omega) (by omega) (.inl rfl) _ l).2 ⟨ht,fun q hq=>⟨hm q hq,f0x q (hm q hq)⟩⟩
  unfold b0V
  simp only[hn]
  rw[if_pos h4]
 | true =>
  have hs:=w0Y a h h6
  have h8:=h0H a
  have hm:=m0q a
  have ht:a0U a=d0C (c0d a):=by rw[←o0S _ h8 hm,hs]
  have hp:=p0G (c0d a) h8 hm
  rw[hs] at hp
  rw[ht]
  unfold b0V
  cases hn:a0v 10 3 255 46 (d0C (c0d a)) with
  | none=>exact hp
  | some l =>
   simp only[]
   by_cases h4:l.length=4
   ·have:=((b0l 10 3 255 46 (by omega) (by omega) (.inl rfl) _ l).1 hn).1
    exact absurd (by rw[this];exact v0k l h4) (t0M (c0d a))
   ·rw[if_neg h4];exact hp
theorem d0S (s:List UInt8) (a:Adr):b0V s=some a↔a.Ok∧b0b a=true∧a0U a=s:=by
 constructor
 ·exact o0j s a
 ·rintro ⟨h,hc,rfl⟩
  exact h0l a h hc
def bitB (x:UInt8) (m:Nat):Nat:=x.toNat/2^(7 - m)%2
def bitL (b:List UInt8) (i:Nat):Nat:=bitB (b.getD (i/8) 0) (i%8)
def k0N (x:UInt8) (m:Nat):UInt8:=UInt8.ofNat (x.toNat/2^(8 - m)*2^(8 - m))
def topL (b:List UInt8) (k:Nat):List UInt8:=(List.range 16).map fun i=>k0N (b.getD i 0) (min (k - 8*i) 8)
theorem v0I:∀(x:UInt8) (m j:Nat),m≤8→j < 8→bitB (k0N x m) j=if j < m then bitB x j else 0:=by
 have h:∀x:Fin 256,∀m:Fin 9,∀j:Fin 8,bitB (k0N (UInt8.ofNat x.1) m.1) j.1=if j.1 < m.1 then bitB (UInt8.ofNat x.1) j.1 else 0:=by decide +kernel
 intro x m j hm hj
 have:=h ⟨x.toNat,x.toNat_lt⟩ ⟨m,by omega⟩ ⟨j,hj⟩
 rwa [UInt8.ofNat_toNat] at this
theorem y0j (x y:UInt8) (h:∀j,j < 8→bitB x j=bitB y j):x=y:=by
 have hx:∀x:UInt8,x.toNat=bitB x 0*128+bitB x 1*64+bitB x 2*32+bitB x 3*16+bitB x 4*8+bitB x 5*4+bitB x 6*2+bitB x 7:=by
  have h:∀x:Fin 256,(UInt8.ofNat x.1).toNat=bitB (UInt8.ofNat x.1) 0*128+bitB (UInt8.ofNat x.1) 1*64+bitB (UInt8.ofNat x.1) 2*32+bitB (UInt8.ofNat x.1) 3*16+bitB (UInt8.ofNat x.1) 4*8+bitB (UInt8.ofNat x.1) 5*4+bitB (UInt8.ofNat x.1) 6*2+bitB (UInt8.ofNat x.1) 7:=by decide +kernel
  intro x
  have:=h ⟨x.toNat,x.toNat_lt⟩
  rwa [UInt8.ofNat_toNat] at this
 apply UInt8.toNat_inj.1
 rw[hx x,hx y,h 0 (by omega),h 1 (by omega),h 2 (by omega),h 3 (by omega),h 4 (by omega),h 5 (by omega),h 6 (by omega),h 7 (by omega)]
theorem c0l (b:List UInt8) (k:Nat):(topL b k).length=16:=by unfold topL;simp
theorem n0A (b:List UInt8) (k i:Nat) (hi:i < 16):(topL b k).getD i 0=k0N (b.getD i 0) (min (k - 8*i) 8):=by
 unfold topL
 simp[List.getD_eq_getElem?_getD,hi]
theorem c1s (a b:List UInt8) (ha:a.length=16) (hb:b.length=16) (h:∀i,i < 16→a.getD i 0=b.getD i 0):a=b:=by
 apply List.ext_getElem (by rw[ha,hb])
 intro i h1 h2
 have:=h i (by omega)
 rwa [List.getD_eq_getElem?_getD,List.getD_eq_getElem?_getD,List.getElem?_eq_getElem h1,List.getElem?_eq_getElem h2] at this
theorem y0f (a b:List UInt8) (ha:a.length=16) (hb:b.length=16) (h:∀i,i < 128→bitL a i=bitL b i):a=b:=by
 refine c1s a b ha hb fun i hi=>y0j _ _ fun j hj=>?_
 have:=h (8*i+j) (by omega)
 unfold bitL at this
 rwa [show (8*i+j)/8=i by omega,show (8*i+j)%8=j by omega] at this
theorem l0R (b:List UInt8) (k i:Nat) (hi:i < 128):bitL (topL b k) i=if i < k then bitL b i else 0:=by
 unfold bitL
 rw[n0A _ _ _ (by omega),v0I _ _ _ (by omega) (by omega)]
 by_cases h:i < k
 ·rw[if_pos h,if_pos (by omega)]
 ·rw[if_neg h,if_neg (by omega)]
theorem a1z (b:List UInt8) (i:Nat):bitL b i < 2:=Nat.mod_lt _ (by omega)
structure Rng where
 a:Adr
 n:Int
structure Rng.Ok (r:Rng):Prop where
 a:r.a.Ok
 lo:-9223372036854775808≤r.n
 hi:r.n≤9223372036854775807
def rngV (r:Rng):List Value:=adrV r.a++[.int .i64 r.n]
theorem r0q (r:Rng):∀v∈rngV r,v.oneCell'=true:=by
 intro v hv
 rcases List.mem_append.1 hv with h | h
 ·exact c0A _ _ h
 ·rw[List.mem_singleton.1 h];rfl
def d0B (v6:Bool):Nat:=if v6 then 128 else 32
theorem j0c (v6:Bool):d0B v6≤128:=by cases v6<;>decide
def ofOk (a:Adr) (n:Int):Bool:=b0b a&&decide (0≤n)&&decide (n≤d0B a.v6)
def topA (a:Adr) (n:Int):Adr:=⟨a.v6,topL a.b n.toNat⟩
def hasR (r:Rng) (a:Adr):Bool:=ofOk a r.n&&(a.v6==r.a.v6&&decide (topL a.b r.n.toNat=r.a.b))
def c0b (r:Rng):Bool:=hasR r r.a
def b0t (r:Rng):List UInt8:=if c0b r then a0U r.a++47 :: numL 10 r.n.toNat else []
theorem m0s (a:Adr) (n:Int):ofOk a n=true↔b0b a=true∧0≤n∧n≤d0B a.v6:=by
 unfold ofOk
 rw[Bool.and_eq_true,Bool.and_eq_true,decide_eq_true_iff,decide_eq_true_iff]
 exact⟨fun ⟨⟨h1,h2⟩,h3⟩=>⟨h1,h2,h3⟩,fun ⟨h1,h2,h3⟩=>⟨⟨h1,h2⟩,h3⟩⟩
theorem m0d (r:Rng) (a:Adr):hasR r a=true↔(b0b a=true∧0≤r.n∧r.n≤d0B a.v6)∧a.v6=r.a.v6∧topL a.b r.n.toNat=r.a.b:=by
 unfold hasR
 rw[Bool.and_eq_true,m0s,Bool.and_eq_true,decide_eq_true_iff,beq_iff_eq]
theorem c1m (a:Adr) (hc:b0b a=true) (h6:a.v6=false) (i:Nat) (h:32≤i):bitL a.b i=0:=by
 unfold b0b at hc
 rw[h6,Bool.false_or,List.all_eq_true] at hc
 unfold bitL
 have:a.b.getD (i/8) 0=0:=by
  rw[List.getD_eq_getElem?_getD]
  cases hg:a.b[i/8]? with
  | none=>rfl
  | some x =>
   have hm:x∈a.b.drop 4:=by
    refine List.mem_of_getElem? (i:=i/8 - 4) ?_
    rw[List.getElem?_drop,show 4+(i/8 - 4)=i/8 by omega,hg]
   simpa using hc x hm
 rw[this]
 show 0/_%2=0
 simp
theorem y0c (a:Adr) (hc:b0b a=true) (i:Nat) (h:d0B a.v6≤i) (hi:i < 128):bitL a.b i=0:=by
 cases h6:a.v6 with
 | true=>rw[h6] at h;exact absurd hi (by unfold d0B at h;simp at h;omega)
 | false=>rw[h6] at h;exact c1m a hc h6 i h
theorem c1c (a b:List UInt8) (hb:b.length=16) (k:Nat):topL a k=b↔(∀i,i < k→i < 128→bitL a i=bitL b i)∧(∀i,k≤i→i < 128→bitL b i=0):=by
 constructor
 ·rintro rfl
  refine⟨fun i h h2=>?_,fun i h h2=>?_⟩
  ·rw[l0R _ _ _ h2,if_pos h]
  ·rw[l0R _ _ _ h2,if_neg (by omega)]
 ·rintro ⟨h1,h2⟩
  refine y0f _ _ (c0l _ _) hb fun i hi=>?_
  rw[l0R _ _ _ hi]
  by_cases h:i < k
  ·rw[if_pos h,h1 i h hi]
  ·rw[if_neg h,h2 i (by omega) hi]
theorem k0Y (r:Rng) (h:r.a.Ok):c0b r=true↔(b0b r.a=true∧0≤r.n∧r.n≤d0B r.a.v6)∧∀i,r.n.toNat≤i→i < d0B r.a.v6→bitL r.a.b i=0:=by
 unfold c0b
 rw[m0d,c1c _ _ h]
 have hm:=j0c r.a.v6
 constructor
 ·rintro ⟨h1,-,-,h3⟩
  exact⟨h1,fun i h4 h5=>h3 i h4 (by omega)⟩
 ·rintro ⟨h1,h2⟩
  refine⟨h1,rfl,fun i _ _=>rfl,fun i h4 h5=>?_⟩
  by_cases h6:i < d0B r.a.v6
  ·exact h2 i h4 h6
  ·exact y0c _ h1.1 i (by omega) h5
end Go.Proofs.YtimdhdimhboboaaGreatDoor
