import Derived.Test.YtcbilopdeiapjaaGreatDoorRgaq
import Derived.Test.YtcbilopdeiapjaaGreatDoorRgap
import Derived.Test.YtcbilopdeiapjaaGreatDoorRgam
set_option maxHeartbeats 16000000
set_option maxRecDepth 100000
open Go.Proofs.Tryz
namespace Go.Proofs.YtcbilopdeiapjaaGreatDoor
open Go Go.RowKit
theorem q0R (s:List UInt8) (hs:s.length≤1000) (w:World) :
  Calls prog 167 #[.string (bstr s)] w fun e w'=>∃v,e=.returned v∧w'.ownsRow w.heap.size 9 1 v (a0g 47 s).length (a0F (a0g 47 s))∧Below w.heap.size w w':=by
 obtain⟨i0,hi,hz0,hz1,hz2⟩:=info_parts k0l
 have hz:=a0c s
 have hown0:(w.alloc (.cells #[] 9)).ownsRow w.heap.size 9 1 (.slice (some ⟨w.heap.size,0,none⟩) 0 0) 0 (a0F []):=World.ownsRow_lit w (e:=9) (size:=1) #[] 0 (f1F _) (by unfold maxLen;omega) rfl
 have hb0:Below w.heap.size w (w.alloc (.cells #[] 9)):=(Below.refl _ w).alloc (f1F _) _
 go_enter func167,ntmps167
 go_wp2
 go_loopw [3,4,5] (fun v f i wr=>∃(out:List (List UInt8)) (g k:Nat),k≤s.length+1∧g≤k∧i=.int .i64 k∧f=.int .i64 g∧wr.ownsRow w.heap.size 9 1 v out.length (a0F out)∧Below w.heap.size w wr∧out.length≤k ∧
   (k≤s.length∧out++a0g 47 (s.drop g)=a0g 47 s∧(∀c∈(s.drop g).take (k - g),c≠47)∨k=s.length+1∧out=a0g 47 s)) (fun _ _ i _=>s.length+1 - (intOf i).toNat)
 case atStart=>exact⟨[],0,0,by omega,by omega,rfl,rfl,hown0,hb0,by simp,.inl ⟨by omega,rfl,by simp⟩⟩
 case round =>
  clear hown0 hb0
  obtain⟨out,g,k,hk,hg,rfl,rfl,hown,hb,hol,hcase⟩:=hrel
  by_cases hlt:k≤s.length
  ·obtain⟨-,hsp,hno⟩:k≤s.length∧out++a0g 47 (s.drop g)=a0g 47 s∧(∀c∈(s.drop g).take (k - g),c≠47):=by
    rcases hcase with h | ⟨h,_⟩
    ·exact h
    ·omega
   have hlt':(k:Int)≤(s.length:Int):=by omega
   have hg':(g:Int)≤(k:Int):=by omega
   have hex:=a0G s g k
   have hbs:=hb.size
   have n1:out.length+1≤maxLen:=by unfold maxLen;omega
   have n2:(out.length+1)*16≤140737488355328:=by omega
   by_cases he:k=s.length
   ·have heb:((k:Int)==(s.length:Int))=true:=by rw[he];exact beq_self_eq_true _
    have HF:=f1D (show out++[(s.drop g).take (k - g)]=a0g 47 s by
     have e:(s.drop g).take (k - g)=s.drop g:=by rw[List.take_of_length_le];rw[List.length_drop];omega
     rw[e] at hno ⊢
     rw[←hsp,d0g 47 _ hno])
    have HK:=f1D he
    generalize (s.drop g).take (k - g)=p at *
    clear hcase hsp hno he
    have hslp:Sl (wr.alloc (.cells #[.string (bstr p)] 9)) (some ⟨wr.heap.size,0,none⟩) 1 (a0F [p]):=d0c (a0F [p]) rfl 1 rfl
    have howna:=hown.alloc (.cells #[.string (bstr p)] 9)
    have hbe:=hb.alloc hb.size (.cells #[.string (bstr p)] 9)
    go_wp2_with (at_builtin;refine a0j rfl (.tmp 23) (.tmp 28) 24 rfl w.heap.size 9 i0 _ 16 underlying24 hi hz0 hz1 hz2 rfl _ out.length (a0F out) rfl howna (some ⟨wr.heap.size,0,none⟩) 1 1 (a0F [p]) rfl rfl hslp (d0I _) n1 n2 hbe.size ?_;intro v3 w3 hown3 hg3;have hb3:=hbe.grown hg3 hbe.size (fun j hj=>(howna.lt j hj).1);rw[←c0M] at hown3)
    go_roundw
    case rel=>exact⟨out++[p],k+1,k+1,by omega,by omega,by go_num,by go_num,by rw[List.length_append];exact hown3,hb3,by rw[List.length_append];simp;omega,.inr ⟨by rw[HK.out],HF.out⟩⟩
    case measure=>simp[intOf];omega
   ·have heb:((k:Int)==(s.length:Int))=false:=by rw[beq_eq_false_iff_ne];omega
    have hlt2:k < s.length:=by omega
    have hix:=a0V s k hlt2
    by_cases hc:s.getD k 0=47
    ·have e2:a0g 47 (s.drop g)=(s.drop g).take (k - g) :: a0g 47 (s.drop (k+1)):=by
      conv=>lhs;rw[i0x s g k hg hlt2,hc]
      exact f0c 47 _ _ hno
     have HF:=f1D (show (out++[(s.drop g).take (k - g)])++a0g 47 (s.drop (k+1))=a0g 47 s by
      rw[←hsp,e2,List.append_assoc];rfl)
     rw[hc] at hix
     generalize (s.drop g).take (k - g)=p at *
     clear hcase hsp hno hc e2
     have hslp:Sl (wr.alloc (.cells #[.string (bstr p)] 9)) (some ⟨wr.heap.size,0,none⟩) 1 (a0F [p]):=d0c (a0F [p]) rfl 1 rfl
     have howna:=hown.alloc (.cells #[.string (bstr p)] 9)
     have hbe:=hb.alloc hb.size (.cells #[.string (bstr p)] 9)
     go_wp2_with (at_builtin;refine a0j rfl (.tmp 23) (.tmp 28) 24 rfl w.heap.size 9 i0 _ 16 underlying24 hi hz0 hz1 hz2 rfl _ out.length (a0F out) rfl howna (some ⟨wr.heap.size,0,none⟩) 1 1 (a0F [p]) rfl rfl hslp (d0I _) n1 n2 hbe.size ?_;intro v3 w3 hown3 hg3;have hb3:=hbe.grown hg3 hbe.size (fun j hj=>(howna.lt j hj).1);rw[←c0M] at hown3)
     go_roundw
     case rel=>exact⟨out++[p],k+1,k+1,by omega,by omega,by go_num,by go_num,by rw[List.length_append];exact hown3,hb3,by rw[List.length_append];simp;omega,.inl ⟨by omega,HF.out,by simp⟩⟩
     case measure=>simp[intOf];omega
    ·have HN:=f1D (show ∀c∈(s.drop g).take (k+1 - g),c≠47 by
      rw[i0M s g k hg hlt2]
      intro c hcm
      rcases List.mem_append.1 hcm with h | h
      ·exact hno c h
      ·rw[List.mem_singleton.1 h];exact hc)
     have HS:=f1D hsp
     have hxc:(((s.getD k 0).toNat:Int)==47)=false:=by
      rw[beq_eq_false_iff_ne]
      intro h
      exact hc (UInt8.toNat_inj.1 (by rw[show (47:UInt8).toNat=47 from rfl];omega))
     generalize s.getD k 0=y at *
     clear hcase hsp hno hc hex
     go_wp2
     go_roundw
     case rel=>exact⟨out,g,k+1,by omega,by omega,by go_num,rfl,hown,hb,by omega,.inl ⟨by omega,HS.out,HN.out⟩⟩
     case measure=>simp[intOf];omega
  ·obtain rfl:k=s.length+1:=by omega
   obtain rfl:out=a0g 47 s:=by
    rcases hcase with ⟨h,_⟩ | ⟨_,h⟩
    ·omega
    ·exact h
   have hgt:(s.length:Int) < ((s.length+1:Nat):Int):=by omega
   clear hcase
   go_wp2
   go_ret
   exact⟨_,rfl,hown,hb⟩
theorem u0j (p:List UInt8) (h:256 < p.length):b0X p=false:=by
 match p,h with
 | c :: r,h =>
  by_cases hc:c=47
  ·subst hc
   show (decide (r=[])||(decide (r.length+1≤256)&&(a0g 47 r).all c0l))=false
   rw[List.length_cons] at h
   rw[decide_eq_false (by omega:¬r.length+1≤256),decide_eq_false (by rintro rfl;simp at h)];rfl
  ·unfold b0X
   split
   ·rename_i e;exact absurd (List.cons.inj e).1 hc
   ·rfl
theorem q0K (p:List UInt8) (h:p.getD 0 0≠47):b0X p=false:=by
 unfold b0X
 split
 ·exact absurd rfl h
 ·rfl
theorem p0d (r:List UInt8) (h:r≠[]) (hl:r.length+1≤256):b0X (47 :: r)=(a0g 47 r).all c0l:=by
 show (decide (r=[])||(decide (r.length+1≤256)&&(a0g 47 r).all c0l))=_
 rw[decide_eq_false h,decide_eq_true hl];rfl
theorem y0p (x:UInt8) (r:List UInt8) (n:Nat) (h:n=r.length+1):(bstr (x :: r)).extract 1 n=bstr r:=by
 subst h
 rw[a0G,List.drop_succ_cons,List.drop_zero,Nat.add_sub_cancel,List.take_length]
theorem b1w (ps:List (List UInt8)) (k:Nat) (h:k < ps.length):(ps.drop k).all c0l=(c0l (ps.getD k [])&&(ps.drop (k+1)).all c0l):=by
 rw[List.drop_eq_getElem_cons h,List.all_cons,List.getD_eq_getElem?_getD,List.getElem?_eq_getElem h];rfl
theorem u0p (p:List UInt8) (hp:p.length≤100000) (w:World):Calls prog 124 #[.string (bstr p)] w fun e w'=>e=.returned (.bool (b0X p))∧Below w.heap.size w w':=by
 have hz:=a0c p
 obtain⟨V,hV⟩:∃V,V=b0X p:=⟨_,rfl⟩
 have HV:=f1D hV
 rw[←hV]
 clear hV
 have e1:=p0W p [47]
 by_cases h1:p=[47]
 ·have HW:=f1D (show V=true by rw[HV.out,h1];rfl)
  rw[decide_eq_true h1] at e1
  clear HV h1
  go_enter func124,ntmps124
  go_wp2
  go_ret
  exact⟨by rw[HW.out];rfl,Below.refl _ _⟩
 rw[decide_eq_false h1] at e1
 by_cases h2:256 < p.length
 ·have HW:=f1D (show V=false by rw[HV.out];exact u0j p h2)
  have a1:(256:Int) < (p.length:Int):=by omega
  clear HV h1
  go_enter func124,ntmps124
  go_wp2
  go_ret
  exact⟨by rw[HW.out];rfl,Below.refl _ _⟩
 have a1:decide ((256:Int) < (p.length:Int))=false:=decide_eq_false (by omega)
 by_cases h3:p=[]
 ·have HW:=f1D (show V=false by rw[HV.out,h3];rfl)
  have a2:((p.length:Int)==0)=true:=by rw[h3];rfl
  clear HV h1 h3
  go_enter func124,ntmps124
  go_wp2
  go_ret
  exact⟨by rw[HW.out];rfl,Below.refl _ _⟩
 have hpos:0 < p.length:=List.length_pos_iff.2 h3
 have a2:((p.length:Int)==0)=false:=by rw[beq_eq_false_iff_ne];omega
 have hix:∀w',(Instr.index 9 (.string (bstr p)) (.int .i64 0)).run prog w'=.ok (.int .u8 ((p.getD 0 0).toNat:Int)) w':=fun w'=>a0V p 0 hpos w'
 by_cases h4:p.getD 0 0=47
 ·obtain⟨r,rfl⟩:∃r,p=47 :: r:=by
   cases p with
   | nil=>exact absurd rfl h3
   | cons c r=>exact⟨r,by rw[show c=47 from h4]⟩
  have hr:r≠[]:=fun h=>h1 (by rw[h])
  have hrl:r.length+1≤256:=by rw[List.length_cons] at h2;omega
  have HW:=f1D (show V=(a0g 47 r).all c0l by rw[HV.out];exact p0d r hr hrl)
  rw[h4] at hix
  have a4:((47:UInt8).toNat:Int)=47:=rfl
  rw[a4] at hix
  have hex:=y0p 47 r (r.length+1) rfl
  have hcp:=f1D (q0R r (by omega) w)
  have hnm:=f1D (fun s (h:s∈a0g 47 r) w'=>x0D s (by have:=d0H 47 r s h;omega) w')
  have hlen:=d0h 47 r
  generalize bstr (47 :: r)=P at *
  rw[List.length_cons] at hz
  have a1:decide ((256:Int) < (r.length:Int)+1)=false:=decide_eq_false (by omega)
  have a2:((r.length:Int)+1==0)=false:=by rw[beq_eq_false_iff_ne];omega
  clear HV h1 h2 h3 h4 hr hpos a4 hp
  generalize a0g 47 r=ps at *
  go_enter func124,ntmps124
  go_wp2_with (go_at_call 167;refine hcp.out.mono ?_;rintro e w1 ⟨v,rfl,hown,hb1⟩;obtain⟨A,c,rfl,hpl,hsl⟩:=Sl.of_own hown;clear hpl)
  clear a1 a2 e1 hix hex hz hown hcp
  go_loop [24] (fun i=>∃k:Nat,k≤ps.length∧i=.int .i64 k∧(ps.drop k).all c0l=ps.all c0l) (fun i=>ps.length - (intOf i).toNat)
  case atStart=>exact⟨0,by omega,rfl,rfl⟩
  case round =>
   obtain⟨k,hk,rfl,hf⟩:=hrel
   by_cases hlt:k < ps.length
   ·have hlt':(k:Int) < (ps.length:Int):=by omega
    obtain⟨b,o,rfl,-,-⟩:=hsl.rd.get (i:=k) (by rw[a0w];exact hlt)
    have hix:=b0w (some ⟨b,o,none⟩) b o ps.length c k rfl hlt
    have hce:=c0g hsl k hlt
    have HA:=f1D (b1w ps k hlt)
    have HF:=f1D hf
    have HC:=f1D (hnm.out (ps.getD k []) (by rw[List.getD_eq_getElem?_getD,List.getElem?_eq_getElem hlt];exact List.getElem_mem hlt) w1)
    generalize ps.getD k []=s at *
    clear hf
    cases hsg:c0l s with
    | true =>
     have HN:=f1D (show (ps.drop (k+1)).all c0l=ps.all c0l by rw[←HF.out,HA.out,hsg,Bool.true_and])
     rw[hsg] at HC
     clear HA hsg
     go_wp2_with (go_at_call 168;refine HC.out.mono ?_;rintro e w' ⟨rfl,rfl⟩)
     go_round
     case rel=>exact⟨k+1,by omega,by go_num,HN.out⟩
     case measure=>simp[intOf];omega
    | false =>
     have HN:=f1D (show V=false by rw[HW.out,←HF.out,HA.out,hsg,Bool.false_and])
     rw[hsg] at HC
     clear HA hsg
     go_wp2_with (go_at_call 168;refine HC.out.mono ?_;rintro e w' ⟨rfl,rfl⟩)
     go_ret
     exact⟨by rw[HN.out];rfl,hb1⟩
   ·obtain rfl:k=ps.length:=by omega
    have HN:=f1D (show V=true by rw[HW.out,←hf,List.drop_length];rfl)
    clear hf
    go_wp2
    go_ret
    exact⟨by rw[HN.out];rfl,hb1⟩
 ·have HW:=f1D (show V=false by rw[HV.out];exact q0K p h4)
  have a3:(((p.getD 0 0).toNat:Int)==47)=false:=by
   rw[beq_eq_false_iff_ne]
   intro h
   exact h4 (UInt8.toNat_inj.1 (by rw[show (47:UInt8).toNat=47 from rfl];omega))
  generalize p.getD 0 0=y at *
  clear HV h1 h2 h3 h4
  go_enter func124,ntmps124
  go_wp2
  go_ret
  exact⟨by rw[HW.out];rfl,Below.refl _ _⟩
def prdV (p:Prd) (A:Option Addr) (c:Nat):List Value:=[.int .i64 p.kind,.int .u64 (p.time:Int),.slice A p.names.length c,.string (bstr p.path)]++(rngV p.net++[.float .f64 p.cost])
theorem b0f (p:Prd) (h:p.net.a.Ok) (A:Option Addr) (c:Nat):(prdV p A c).length=23:=by
 unfold prdV
 rw[List.length_append,List.length_append,a0C _ h];rfl
theorem c0T:(prog.info? 72).map (·.size)=some 23:=by kernel_rfl
theorem k0H {w:World} {g:Nat} {t:TypeId} {p:Prd} {A:Option Addr} {c:Nat} (hn:p.net.a.Ok) (h:Row w g t (prdV p A c)) :
  w.cell? ⟨g,0,none⟩=some (.int .i64 p.kind)∧w.cell? ⟨g,1,none⟩=some (.int .u64 (p.time:Int))∧w.cell? ⟨g,2,none⟩=some (.slice A p.names.length c)∧w.cell? ⟨g,3,none⟩=some (.string (bstr p.path)) ∧
  w.rangeAt g 4 (rngV p.net)∧w.cell? ⟨g,22,none⟩=some (.float .f64 p.cost):=by
 refine⟨by rw[h.cell];rfl,by rw[h.cell];rfl,by rw[h.cell];rfl,by rw[h.cell];rfl,b0R (A:=[_,_,_,_]) (B:=rngV p.net) (C:=[.float .f64 p.cost]) h,?_⟩
 rw[h.cell]
 unfold prdV
 rw[List.getElem?_append_right (by simp),List.getElem?_append_right (by rw[a0C _ hn];simp),a0C _ hn]
 rfl
structure f0N (w:World) (p:Prd) (A:Option Addr) (c:Nat):Prop where
 ok:p.Ok
 names:Sl w A c (a0F p.names)
 lo:-9223372036854775808≤p.kind
 hi:p.kind≤9223372036854775807
 path:p.path.length≤4000
 sum:sumS p.names≤4000
theorem b1n (p:Prd) (A:Option Addr) (c:Nat) (hn:p.net.a.Ok):(prdV p A c)[0]?=some (.int .i64 p.kind)∧(prdV p A c)[1]?=some (.int .u64 (p.time:Int))∧(prdV p A c)[2]?=some (.slice A p.names.length c)∧(prdV p A c)[3]?=some (.string (bstr p.path))∧(prdV p A c)[22]?=some (.float .f64 p.cost):=by
 refine⟨rfl,rfl,rfl,rfl,?_⟩
 unfold prdV
 rw[List.getElem?_append_right (by simp),List.getElem?_append_right (by rw[a0C _ hn];simp),a0C _ hn]
 rfl
theorem p0p (p:Prd) (A:Option Addr) (c:Nat) (w:World) (h:f0N w p A c) :
  Calls prog 85 #[.agg (prdV p A c).toArray] w fun e w'=>e=.returned (.tuple #[.string (bstr (a0A p).1),.string (bstr (a0A p).2)])∧Below w.heap.size w w':=by
 obtain⟨ok,hnm,hlo,hhi,hpl,hsm⟩:=h
 have hsz:=f1D (show (prog.info? 69).map (·.size)=some (rngV p.net).length by rw[a0C _ ok.net.a];exact c0n)
 have r1:Row (w.alloc (.cells (prdV p A c).toArray 72)) w.heap.size 72 (prdV p A c):=Row.new w _ _
 have hb1:Below w.heap.size w (w.alloc (.cells (prdV p A c).toArray 72)):=(Below.refl _ w).alloc (f1F _) _
 obtain⟨x0,x1,x2,x3,x22⟩:=b1n p A c ok.net.a
 have KK:=f1D (fun w' (h:Below (w.alloc (.cells (prdV p A c).toArray 72)).heap.size (w.alloc (.cells (prdV p A c).toArray 72)) w')=>k0H (p:=p) (A:=A) (c:=c) ok.net.a (r1.later h r1.lt))
 have K4:=f1D ((k0H (p:=p) (A:=A) (c:=c) ok.net.a r1).2.2.2.2.1)
 obtain⟨X,hX⟩:∃X,X=prdV p A c:=⟨_,rfl⟩
 rw[←hX] at x0 x1 x2 x3 x22 r1 hb1 KK K4 ⊢
 have hs1:=hnm.later (f1F _) hb1
 have hd:=f1D (fun w'=>l0Y p.time p.time w' (f1F _) ok.time)
 have hj:=f1D (q0L p.names (by omega) A c _ hs1)
 have hr:=f1D (fun w'=>u0p p.path (by omega) w')
 have ht:=f1D (fun w'=>k0O p.net ok.net w')
 have hf:=f1D (fun w'=>o0g p.cost ok.cost w')
 clear hX r1 hnm hs1 hsm hpl
 by_cases e1:p.kind=1
 ·have HX:=f1D (show a0A p=([98,101,102,111,114,101],numL 10 p.time) by unfold a0A;rw[if_pos e1])
  rw[e1] at x0
  clear KK
  go_enter func85,ntmps85
  go_wp2_with (first
   | (go_at_call 75;refine (hd.out _).mono ?_;rintro e w2 ⟨rfl,hq⟩;have hb2:=hb1.trans (hq.mono hb1.size)))
  go_ret2
  exact⟨by rw[HX.out];rfl,hb2⟩
 have n1:(p.kind==1)=false:=by rw[beq_eq_false_iff_ne];exact e1
 by_cases e2:p.kind=2
 ·have HX:=f1D (show a0A p=([115,105,110,99,101],numL 10 p.time) by unfold a0A;rw[if_neg e1,if_pos e2])
  rw[e2] at x0
  clear KK e1 n1
  go_enter func85,ntmps85
  go_wp2_with (first
   | (go_at_call 75;refine (hd.out _).mono ?_;rintro e w2 ⟨rfl,hq⟩;have hb2:=hb1.trans (hq.mono hb1.size)))
  go_ret2
  exact⟨by rw[HX.out];rfl,hb2⟩
 have n2:(p.kind==2)=false:=by rw[beq_eq_false_iff_ne];exact e2
 by_cases e3:p.kind=3
 ·have HX:=f1D (show a0A p=([111,112],b0V p.names) by unfold a0A;rw[if_neg e1,if_neg e2,if_pos e3])
  rw[e3] at x0
  clear KK e1 n1 e2 n2
  go_enter func85,ntmps85
  go_wp2_with (first
   | (go_at_call 123;refine hj.out.mono ?_;rintro e w2 ⟨rfl,rfl⟩))
  go_ret2
  exact⟨by rw[HX.out];rfl,hb1⟩
 have n3:(p.kind==3)=false:=by rw[beq_eq_false_iff_ne];exact e3
 by_cases e4:p.kind=4
 ·rw[e4] at x0
  cases hrt:b0X p.path with
  | true =>
   have HX:=f1D (show a0A p=([112,97,116,104],p.path) by unfold a0A;rw[if_neg e1,if_neg e2,if_neg e3,if_pos ⟨e4,hrt⟩])
   rw[hrt] at hr
   clear e1 n1 e2 n2 e3 n3 hrt
   go_enter func85,ntmps85
   go_wp2_with (first
    | (go_at_call 124;refine (hr.out _).mono ?_;rintro e w2 ⟨rfl,hq⟩;have hb2:=hb1.trans (hq.mono hb1.size);have k3:=(KK.out _ hq).2.2.2.1))
   refine wp_region_noPanic ?_
   refine wp_region_held_drew (S:=fun w'=>w'=w2.drew) (by kernel_rfl) rfl (fun hHeld=>?_)
   refine rt 0 30 hHeld ?_ (hy:=by intro w hS;subst hS;go_simp;try with_reducible rfl)
   refine rt 1 31 hHeld ?_ (hy:=by intro w hS;subst hS;go_simp;try with_reducible rfl)
   refine rt 2 2 hHeld ?_ (hy:=by intro w hS;subst hS;go_simp;try with_reducible rfl)
   refine rt 3 3 hHeld ?_ (hy:=by intro w hS;subst hS;go_simp;try with_reducible rfl)
   refine wpAnyH_done (by kernel_rfl) ?_ _
   refine NoPanic.normal ?_
   go_wp2
   go_ret2
   exact⟨by rw[HX.out];rfl,hb2.drew⟩
  | false =>
   have HX:=f1D (show a0A p=([],[]) by unfold a0A;rw[if_neg e1,if_neg e2,if_neg e3,if_neg (fun h=>by rw[hrt] at h;cases h.2),if_neg (by rw[e4];decide),if_neg (by rw[e4];decide)])
   rw[hrt] at hr
   clear e1 n1 e2 n2 e3 n3 hrt
   go_enter func85,ntmps85
   go_wp2_with (first
    | (go_at_call 124;refine (hr.out _).mono ?_;rintro e w2 ⟨rfl,hq⟩;have hb2:=hb1.trans (hq.mono hb1.size);have k0:=(KK.out _ hq).1;rw[e4] at k0))
   go_ret2
   exact⟨by rw[HX.out];rfl,hb2⟩
 have n4:(p.kind==4)=false:=by rw[beq_eq_false_iff_ne];exact e4
 by_cases e5:p.kind=5
 ·have HX:=f1D (show a0A p=([110,101,116],b0y p.net) by unfold a0A;rw[if_neg e1,if_neg e2,if_neg e3,if_neg (fun h=>e4 h.1),if_pos e5])
  rw[e5] at x0
  clear KK e1 n1 e2 n2 e3 n3 e4 n4
  go_enter func85,ntmps85
  generalize rngV p.net=R at *
  go_wp2_with (first
   | (with_reducible refine wpList_load_mid rfl 69 (.tmp 35) rfl w.heap.size 4 rfl R _ K4.out underlying69 rfl hsz.out ?_)
   | (go_at_call 79;refine (ht.out _).mono ?_;rintro e w2 ⟨rfl,hq⟩;have hb2:=hb1.trans (hq.mono hb1.size)))
  go_ret2
  exact⟨by rw[HX.out];rfl,hb2⟩
 have n5:(p.kind==5)=false:=by rw[beq_eq_false_iff_ne];exact e5
 by_cases e6:p.kind=6
 ·have HX:=f1D (show a0A p=([99,111,115,116],b0N p.cost) by unfold a0A;rw[if_neg e1,if_neg e2,if_neg e3,if_neg (fun h=>e4 h.1),if_neg e5,if_pos e6])
  rw[e6] at x0
  clear KK e1 n1 e2 n2 e3 n3 e4 n4 e5 n5
  go_enter func85,ntmps85
  go_wp2_with (first
   | (go_at_call 82;refine (hf.out _).mono ?_;rintro e w2 ⟨rfl,hq⟩;have hb2:=hb1.trans (hq.mono hb1.size)))
  go_ret2
  exact⟨by rw[HX.out];rfl,hb2⟩
 have n6:(p.kind==6)=false:=by rw[beq_eq_false_iff_ne];exact e6
 have HX:=f1D (show a0A p=([],[]) by unfold a0A;rw[if_neg e1,if_neg e2,if_neg e3,if_neg (fun h=>e4 h.1),if_neg e5,if_neg e6])
 clear KK e1 e2 e3 e4 e5 e6
 generalize p.kind=K at *
 go_enter func85,ntmps85
 go_wp2
 go_ret2
 exact⟨by rw[HX.out];rfl,hb1⟩
theorem c1I (a:Adr) (w:World):(Go.part 4 (adrV a).toArray 0).run prog w=.ok (.bool a.v6) w:=by
 simp only[Go.part,isAgg,Sem.run_bind,run_underlying underlying4,Result.andThen_ok,Sem.run_pure]
 rfl
theorem c1i (w:World):(isAgg 65).run prog w=.ok true w:=by kernel_rfl
theorem a1M (w:World):(sizeOf 65).run prog w=.ok 16 w:=by kernel_rfl
theorem b1k (a:Adr) (h:a.Ok) (w:World):(Go.part 65 (adrV a).toArray 1).run prog w=.ok (.agg (byts a.b).toArray) w:=by
 have e:(adrV a).toArray.extract 1 17=(byts a.b).toArray:=by
  rw[List.extract_toArray]
  unfold adrV
  congr 1
  show (byts a.b).take 16=byts a.b
  exact List.take_of_length_le (by rw[a0b,h];exact f1F _)
 simp only[Go.part,Sem.run_bind,c1i,Result.andThen_ok,if_true,a1M,Sem.run_pure]
 rw[e]
theorem q0V (d:Nat) (xs ys:List UInt8) (is:List Nat) (hx:∀i∈is,i < xs.length) (hy:∀i∈is,i < ys.length) (w:World) :
  (Op.eqItems (d+1) 5 1 (byts xs).toArray (byts ys).toArray is).run prog w=.ok (is.all fun i=>decide (xs.getD i 0=ys.getD i 0)) w:=by
 induction is with
 | nil=>simp[Op.eqItems]
 | cons i is ih =>
  have h:=ih (fun j hj=>hx j (by simp[hj])) (fun j hj=>hy j (by simp[hj]))
  simp only[Op.eqItems,Sem.run_bind,i0b xs i (hx i (by simp)) w,i0b ys i (hy i (by simp)) w,Result.andThen_ok,run_equalIn_int w d 5 .u8 .u8 _ _ underlying5,List.all_cons]
  generalize xs.getD i 0=a
  generalize ys.getD i 0=b
  by_cases e:a=b
  ·subst e
   simp only[BEq.rfl,Bool.not_true,Bool.false_eq_true,if_false,decide_true,Bool.true_and,h]
  ·have e':((a.toNat:Int)==(b.toNat:Int))=false:=by
    rw[beq_eq_false_iff_ne]
    intro h
    exact e (UInt8.toNat_inj.1 (by omega))
   simp only[e',e,Bool.not_false,if_true,decide_false,Bool.false_and,Sem.run_pure]
theorem b1N (a b:Adr) (ha:a.Ok) (hb:b.Ok) (w:World):(Op.equalIn 9999 67 (.agg (adrV a).toArray) (.agg (adrV b).toArray)).run prog w=.ok (a.v6==b.v6&&decide (a.b=b.b)) w:=by
 rw[run_equalIn_struct w 9998 67 _ _ (by kernel_rfl) (by kernel_rfl)]
 obtain⟨i0,hi,_⟩:=info_parts infoByte
 have h16:(Op.equalIn 9998 65 (.agg (byts a.b).toArray) (.agg (byts b.b).toArray)).run prog w=.ok (decide (a.b=b.b)) w:=by
  rw[run_equalIn_array w 9997 _ _ underlying65 hi,l0y,q0V 9996 a.b b.b (List.range 16) (fun i h=>by rw[ha];simpa using h) (fun i h=>by rw[hb];simpa using h) w]
  have:=r0m a.b b.b (by rw[ha,hb])
  rw[ha] at this
  rw[this]
 have hb4:=run_equalIn_bool' (P:=prog) w 9997 4 a.v6 b.v6 underlying4
 cases hv:(a.v6==b.v6)<;>cases hd:decide (a.b=b.b)<;>rw[hv] at hb4<;>rw[hd] at h16 <;>
  simp[Program.fieldsOf,underlying67,Op.eqFields,Sem.run_bind,c1I,b1k a ha,b1k b hb,hb4,h16]
theorem x0q (r:Rng) (h:r.a.Ok) (w:World):(Go.part 67 (rngV r).toArray 0).run prog w=.ok (.agg (adrV r.a).toArray) w:=by
 have e:(rngV r).toArray.extract 0 17=(adrV r.a).toArray:=by
  rw[List.extract_toArray]
  congr 1
  unfold rngV
  show (adrV r.a++[Value.int .i64 r.n]).take 17=adrV r.a
  exact List.take_left' (a0m h)
 have h1:(isAgg 67).run prog w=.ok true w:=by kernel_rfl
 have h2:(sizeOf 67).run prog w=.ok 17 w:=by kernel_rfl
 simp only[Go.part,Sem.run_bind,h1,Result.andThen_ok,if_true,h2,Sem.run_pure]
 rw[e]
theorem x0r (r:Rng) (h:r.a.Ok) (w:World):(Go.part 3 (rngV r).toArray 17).run prog w=.ok (.int .i64 r.n) w:=by
 have e:(rngV r).toArray[17]?=some (.int .i64 r.n):=by
  rw[List.getElem?_toArray]
  unfold rngV
  rw[List.getElem?_append_right (by rw[a0m h];exact f1F _),a0m h];rfl
 simp only[Go.part,isAgg,Sem.run_bind,run_underlying underlying3,Result.andThen_ok,Sem.run_pure]
 rw[if_neg (by decide),e];rfl
theorem b1b (a b:Rng) (ha:a.a.Ok) (hb:b.a.Ok) (w:World):(Op.equalIn 10000 69 (.agg (rngV a).toArray) (.agg (rngV b).toArray)).run prog w=.ok ((a.a.v6==b.a.v6&&decide (a.a.b=b.a.b))&&a.n==b.n) w:=by
 rw[run_equalIn_struct w 9999 69 _ _ (by kernel_rfl) (by kernel_rfl)]
 have h1:=b1N a.a b.a ha hb w
 have h2:=run_equalIn_int (P:=prog) w 9998 3 .i64 .i64 a.n b.n underlying3
 cases hv:(a.a.v6==b.a.v6&&decide (a.a.b=b.a.b))<;>cases hd:(a.n==b.n)<;>rw[hv] at h1<;>rw[hd] at h2 <;>
  simp[Program.fieldsOf,underlying69,Op.eqFields,Sem.run_bind,x0q a ha,x0q b hb,x0r a ha,x0r b hb,h1,h2]
theorem a0O {P:Program} {ops:Array Oper} {Q:Exit→Act→World→Prop} {a:Act} {w:World} {rest:List Oper} {d:Option Nat} {op:Op} {t:TypeId} {pos:String} {af:Array Edge} {g:Option (Nat×Bool)}
  (hw:Region.wanted ⟨d,op,t,pos,af,g⟩ (yielded ops a.tmps)=true) (h:wpList P ops Q (⟨d,op,t,pos,af,none⟩ :: rest) a w):wpList P ops Q (⟨d,op,t,pos,af,g⟩ :: rest) a w:=by
 unfold wpList at h ⊢
 rw[if_pos hw]
 rw[if_pos (show Region.wanted ⟨d,op,t,pos,af,none⟩ (yielded ops a.tmps)=true from rfl)] at h
 exact h
theorem i0Q (s:List UInt8):(bstr s).toList.isEmpty=decide (s=[]):=by
 rw[a0p]
 cases s<;>rfl
theorem x0H (p:Prd) (A:Option Addr) (c:Nat) (w:World) (h:f0N w p A c) :
  Calls prog 86 #[.agg (prdV p A c).toArray] w fun e w'=>e=.returned (.bool (h0Y p))∧Below w.heap.size w w':=by
 obtain⟨ok,hnm,hlo,hhi,hpl,hsum⟩:=h
 have hsz:=f1D (show (prog.info? 69).map (·.size)=some (rngV p.net).length by rw[a0C _ ok.net.a];exact c0n)
 have r1:Row (w.alloc (.cells (prdV p A c).toArray 72)) w.heap.size 72 (prdV p A c):=Row.new w _ _
 have hb1:Below w.heap.size w (w.alloc (.cells (prdV p A c).toArray 72)):=(Below.refl _ w).alloc (f1F _) _
 obtain⟨x0,x1,x2,x3,x22⟩:=b1n p A c ok.net.a
 have K4:=f1D ((k0H (p:=p) (A:=A) (c:=c) ok.net.a r1).2.2.2.2.1)
 obtain⟨X,hX⟩:∃X,X=prdV p A c:=⟨_,rfl⟩
 rw[←hX] at x0 x1 x2 x3 x22 r1 hb1 K4 ⊢
 have a4:=(fun w'=>show (Op.equalIn 10000 69 (.agg (rngV p.net).toArray) (.agg #[.bool false,.int .u8 0,.int .u8 0,.int .u8 0,.int .u8 0,.int .u8 0,.int .u8 0,.int .u8 0,.int .u8 0,.int .u8 0,.int .u8 0,.int .u8 0,.int .u8 0,.int .u8 0,.int .u8 0,.int .u8 0,.int .u8 0,.int .i64 0])).run prog w'=.ok (u0t p.net a0T) w' from b1b p.net a0T ok.net.a c0a.a w')
 have hsm:=fun w'=>w0f p.cost 0 w'
 have HV:=f1D (show h0Y p=((decide (p.kind=1)||decide (p.kind=2)||decide (p.time=0))&&(decide (p.kind=3)||decide (p.names=[]))&&(decide (p.kind=4)||decide (p.path=[]))&&(decide (p.kind=5)||u0t p.net a0T)&&(decide (p.kind=6)||decide (p.cost=0))) from rfl)
 have a1:((p.time:Int)==0)=decide (p.time=0):=by rw[Bool.eq_iff_iff];simp
 have a2:((p.names.length:Int)==0)=decide (p.names=[]):=by rw[Bool.eq_iff_iff];simp
 have a3:=i0Q p.path
 clear hX r1 hnm hsum hpl
 generalize h0Y p=V at *
 generalize decide (p.time=0)=b1 at *
 generalize decide (p.names=[])=b2 at *
 generalize decide (p.path=[])=b3 at *
 generalize u0t p.net a0T=b4 at *
 generalize decide (p.cost=0)=b5 at *
 generalize rngV p.net=R at *
 generalize p.names.length=N at *
 generalize p.kind=K at *
 replace hsm:=f1D hsm
 by_cases e1:K=1
 ·subst e1
  have HX:=HV
  cases b2
  ·go_enter func86,ntmps86
   go_wp2
   go_ret
   exact⟨by rw[HX.out];rfl,hb1⟩
  cases b3
  ·go_enter func86,ntmps86
   go_wp2
   go_ret
   exact⟨by rw[HX.out];rfl,hb1⟩
  cases b4
  ·go_enter func86,ntmps86
   go_wp2_with (first | (with_reducible refine a0O (d:=some 43) ?_ ?_;kernel_rfl;with_reducible refine wpList_load_mid rfl 69 (.tmp 42) rfl w.heap.size 4 rfl R _ K4.out underlying69 rfl hsz.out ?_))
   go_ret
   exact⟨by rw[HX.out];rfl,hb1⟩
  cases b5
  ·go_enter func86,ntmps86
   go_wp2_with (first | (with_reducible refine a0O (d:=some 43) ?_ ?_;kernel_rfl;with_reducible refine wpList_load_mid rfl 69 (.tmp 42) rfl w.heap.size 4 rfl R _ K4.out underlying69 rfl hsz.out ?_) | (go_at_call 125;refine (hsm.out _).mono ?_;rintro e w' ⟨rfl,rfl⟩))
   go_ret
   exact⟨by rw[HX.out];rfl,hb1⟩
  go_enter func86,ntmps86
  go_wp2_with (first | (with_reducible refine a0O (d:=some 43) ?_ ?_;kernel_rfl;with_reducible refine wpList_load_mid rfl 69 (.tmp 42) rfl w.heap.size 4 rfl R _ K4.out underlying69 rfl hsz.out ?_) | (go_at_call 125;refine (hsm.out _).mono ?_;rintro e w' ⟨rfl,rfl⟩))
  go_ret
  exact⟨by rw[HX.out];rfl,hb1⟩
 by_cases e2:K=2
 ·subst e2
  have HX:=HV
  cases b2
  ·go_enter func86,ntmps86
   go_wp2
   go_ret
   exact⟨by rw[HX.out];rfl,hb1⟩
  cases b3
  ·go_enter func86,ntmps86
   go_wp2
   go_ret
   exact⟨by rw[HX.out];rfl,hb1⟩
  cases b4
  ·go_enter func86,ntmps86
   go_wp2_with (first | (with_reducible refine a0O (d:=some 43) ?_ ?_;kernel_rfl;with_reducible refine wpList_load_mid rfl 69 (.tmp 42) rfl w.heap.size 4 rfl R _ K4.out underlying69 rfl hsz.out ?_))
   go_ret
   exact⟨by rw[HX.out];rfl,hb1⟩
  cases b5
  ·go_enter func86,ntmps86
   go_wp2_with (first | (with_reducible refine a0O (d:=some 43) ?_ ?_;kernel_rfl;with_reducible refine wpList_load_mid rfl 69 (.tmp 42) rfl w.heap.size 4 rfl R _ K4.out underlying69 rfl hsz.out ?_) | (go_at_call 125;refine (hsm.out _).mono ?_;rintro e w' ⟨rfl,rfl⟩))
   go_ret
   exact⟨by rw[HX.out];rfl,hb1⟩
  go_enter func86,ntmps86
  go_wp2_with (first | (with_reducible refine a0O (d:=some 43) ?_ ?_;kernel_rfl;with_reducible refine wpList_load_mid rfl 69 (.tmp 42) rfl w.heap.size 4 rfl R _ K4.out underlying69 rfl hsz.out ?_) | (go_at_call 125;refine (hsm.out _).mono ?_;rintro e w' ⟨rfl,rfl⟩))
  go_ret
  exact⟨by rw[HX.out];rfl,hb1⟩
 by_cases e3:K=3
 ·subst e3
  have HX:=HV
  cases b1
  ·go_enter func86,ntmps86
   go_wp2
   go_ret
   exact⟨by rw[HX.out];rfl,hb1⟩
  cases b3
  ·go_enter func86,ntmps86
   go_wp2
   go_ret
   exact⟨by rw[HX.out];rfl,hb1⟩
  cases b4
  ·go_enter func86,ntmps86
   go_wp2_with (first | (with_reducible refine a0O (d:=some 43) ?_ ?_;kernel_rfl;with_reducible refine wpList_load_mid rfl 69 (.tmp 42) rfl w.heap.size 4 rfl R _ K4.out underlying69 rfl hsz.out ?_))
   go_ret
   exact⟨by rw[HX.out];rfl,hb1⟩
  cases b5
  ·go_enter func86,ntmps86
   go_wp2_with (first | (with_reducible refine a0O (d:=some 43) ?_ ?_;kernel_rfl;with_reducible refine wpList_load_mid rfl 69 (.tmp 42) rfl w.heap.size 4 rfl R _ K4.out underlying69 rfl hsz.out ?_) | (go_at_call 125;refine (hsm.out _).mono ?_;rintro e w' ⟨rfl,rfl⟩))
   go_ret
   exact⟨by rw[HX.out];rfl,hb1⟩
  go_enter func86,ntmps86
  go_wp2_with (first | (with_reducible refine a0O (d:=some 43) ?_ ?_;kernel_rfl;with_reducible refine wpList_load_mid rfl 69 (.tmp 42) rfl w.heap.size 4 rfl R _ K4.out underlying69 rfl hsz.out ?_) | (go_at_call 125;refine (hsm.out _).mono ?_;rintro e w' ⟨rfl,rfl⟩))
  go_ret
  exact⟨by rw[HX.out];rfl,hb1⟩
 by_cases e4:K=4
 ·subst e4
  have HX:=HV
  cases b1
  ·go_enter func86,ntmps86
   go_wp2
   go_ret
   exact⟨by rw[HX.out];rfl,hb1⟩
  cases b2
  ·go_enter func86,ntmps86
   go_wp2
   go_ret
   exact⟨by rw[HX.out];rfl,hb1⟩
  cases b4
  ·go_enter func86,ntmps86
   go_wp2_with (first | (with_reducible refine a0O (d:=some 43) ?_ ?_;kernel_rfl;with_reducible refine wpList_load_mid rfl 69 (.tmp 42) rfl w.heap.size 4 rfl R _ K4.out underlying69 rfl hsz.out ?_))
   go_ret
   exact⟨by rw[HX.out];rfl,hb1⟩
  cases b5
  ·go_enter func86,ntmps86
   go_wp2_with (first | (with_reducible refine a0O (d:=some 43) ?_ ?_;kernel_rfl;with_reducible refine wpList_load_mid rfl 69 (.tmp 42) rfl w.heap.size 4 rfl R _ K4.out underlying69 rfl hsz.out ?_) | (go_at_call 125;refine (hsm.out _).mono ?_;rintro e w' ⟨rfl,rfl⟩))
   go_ret
   exact⟨by rw[HX.out];rfl,hb1⟩
  go_enter func86,ntmps86
  go_wp2_with (first | (with_reducible refine a0O (d:=some 43) ?_ ?_;kernel_rfl;with_reducible refine wpList_load_mid rfl 69 (.tmp 42) rfl w.heap.size 4 rfl R _ K4.out underlying69 rfl hsz.out ?_) | (go_at_call 125;refine (hsm.out _).mono ?_;rintro e w' ⟨rfl,rfl⟩))
  go_ret
  exact⟨by rw[HX.out];rfl,hb1⟩
 by_cases e5:K=5
 ·subst e5
  have HX:=HV
  cases b1
  ·go_enter func86,ntmps86
   go_wp2
   go_ret
   exact⟨by rw[HX.out];rfl,hb1⟩
  cases b2
  ·go_enter func86,ntmps86
   go_wp2
   go_ret
   exact⟨by rw[HX.out];rfl,hb1⟩
  cases b3
  ·go_enter func86,ntmps86
   go_wp2
   go_ret
   exact⟨by rw[HX.out];rfl,hb1⟩
  cases b5
  ·go_enter func86,ntmps86
   go_wp2_with (first | (with_reducible refine a0O (d:=some 43) ?_ ?_;kernel_rfl;with_reducible refine wpList_load_mid rfl 69 (.tmp 42) rfl w.heap.size 4 rfl R _ K4.out underlying69 rfl hsz.out ?_) | (go_at_call 125;refine (hsm.out _).mono ?_;rintro e w' ⟨rfl,rfl⟩))
   go_ret
   exact⟨by rw[HX.out];rfl,hb1⟩
  go_enter func86,ntmps86
  go_wp2_with (first | (with_reducible refine a0O (d:=some 43) ?_ ?_;kernel_rfl;with_reducible refine wpList_load_mid rfl 69 (.tmp 42) rfl w.heap.size 4 rfl R _ K4.out underlying69 rfl hsz.out ?_) | (go_at_call 125;refine (hsm.out _).mono ?_;rintro e w' ⟨rfl,rfl⟩))
  go_ret
  exact⟨by rw[HX.out];rfl,hb1⟩
 by_cases e6:K=6
 ·subst e6
  have HX:=HV
  cases b1
  ·go_enter func86,ntmps86
   go_wp2
   go_ret
   exact⟨by rw[HX.out];rfl,hb1⟩
  cases b2
  ·go_enter func86,ntmps86
   go_wp2
   go_ret
   exact⟨by rw[HX.out];rfl,hb1⟩
  cases b3
  ·go_enter func86,ntmps86
   go_wp2
   go_ret
   exact⟨by rw[HX.out];rfl,hb1⟩
  cases b4
  ·go_enter func86,ntmps86
   go_wp2_with (first | (with_reducible refine a0O (d:=some 43) ?_ ?_;kernel_rfl;with_reducible refine wpList_load_mid rfl 69 (.tmp 42) rfl w.heap.size 4 rfl R _ K4.out underlying69 rfl hsz.out ?_))
   go_ret
   exact⟨by rw[HX.out];rfl,hb1⟩
  go_enter func86,ntmps86
  go_wp2_with (first | (with_reducible refine a0O (d:=some 43) ?_ ?_;kernel_rfl;with_reducible refine wpList_load_mid rfl 69 (.tmp 42) rfl w.heap.size 4 rfl R _ K4.out underlying69 rfl hsz.out ?_))
  go_ret
  exact⟨by rw[HX.out];rfl,hb1⟩
 have m1:(K==1)=false:=beq_eq_false_iff_ne.2 e1
 have m2:(K==2)=false:=beq_eq_false_iff_ne.2 e2
 have m3:(K==3)=false:=beq_eq_false_iff_ne.2 e3
 have m4:(K==4)=false:=beq_eq_false_iff_ne.2 e4
 have m5:(K==5)=false:=beq_eq_false_iff_ne.2 e5
 have m6:(K==6)=false:=beq_eq_false_iff_ne.2 e6
 have HX:=f1D (show V=(b1&&b2&&b3&&b4&&b5) by rw[HV.out,decide_eq_false e1,decide_eq_false e2,decide_eq_false e3,decide_eq_false e4,decide_eq_false e5,decide_eq_false e6];rfl)
 clear HV e1 e2 e3 e4 e5 e6
 cases b1
 ·go_enter func86,ntmps86
  go_wp2
  go_ret
  exact⟨by rw[HX.out];rfl,hb1⟩
 cases b2
 ·go_enter func86,ntmps86
  go_wp2
  go_ret
  exact⟨by rw[HX.out];rfl,hb1⟩
 cases b3
 ·go_enter func86,ntmps86
  go_wp2
  go_ret
  exact⟨by rw[HX.out];rfl,hb1⟩
 cases b4
 ·go_enter func86,ntmps86
  go_wp2_with (first | (with_reducible refine a0O (d:=some 43) ?_ ?_;kernel_rfl;with_reducible refine wpList_load_mid rfl 69 (.tmp 42) rfl w.heap.size 4 rfl R _ K4.out underlying69 rfl hsz.out ?_))
  go_ret
  exact⟨by rw[HX.out];rfl,hb1⟩
 cases b5
 ·go_enter func86,ntmps86
  go_wp2_with (first | (with_reducible refine a0O (d:=some 43) ?_ ?_;kernel_rfl;with_reducible refine wpList_load_mid rfl 69 (.tmp 42) rfl w.heap.size 4 rfl R _ K4.out underlying69 rfl hsz.out ?_) | (go_at_call 125;refine (hsm.out _).mono ?_;rintro e w' ⟨rfl,rfl⟩))
  go_ret
  exact⟨by rw[HX.out];rfl,hb1⟩
 go_enter func86,ntmps86
 go_wp2_with (first | (with_reducible refine a0O (d:=some 43) ?_ ?_;kernel_rfl;with_reducible refine wpList_load_mid rfl 69 (.tmp 42) rfl w.heap.size 4 rfl R _ K4.out underlying69 rfl hsz.out ?_) | (go_at_call 125;refine (hsm.out _).mono ?_;rintro e w' ⟨rfl,rfl⟩))
 go_ret
 exact⟨by rw[HX.out];rfl,hb1⟩
theorem r0v (c:UInt8):digI 10 c=if 48≤c.toNat∧c.toNat≤57 then (c.toNat:Int) - 48 else -1:=by
 have h:∀n:Fin 256,digI 10 (UInt8.ofNat n.1)=if 48≤n.1∧n.1≤57 then (n.1:Int) - 48 else -1:=by decide +kernel
 have:=h ⟨c.toNat,c.toNat_lt⟩
 simpa using this
theorem w0a (s:List UInt8) (k m:Nat) (h:k < s.length) (hc:¬(48≤(s.getD k 0).toNat∧(s.getD k 0).toNat≤57)):c0c 10 m (s.drop k)=none:=by
 rw[g0V 10 m k s h,r0v,if_neg hc];rfl
theorem s0Y (s:List UInt8) (k m:Nat) (h:k < s.length) (hc:48≤(s.getD k 0).toNat∧(s.getD k 0).toNat≤57):c0c 10 m (s.drop k)=c0c 10 (m*10+((s.getD k 0).toNat - 48)) (s.drop (k+1)):=by
 rw[g0V 10 m k s h,r0v,if_pos hc,if_neg (by omega)]
 congr 1
 omega
def s0x (most:Nat) (s:List UInt8) (w:World) (e:Ending) (w':World):Prop :=
 ∃n:Nat,e=.returned (.tuple #[.int .u64 (n:Int),.bool (a0P 10 most s).isSome])∧n < 10^most∧(∀v,a0P 10 most s=some v→n=v)∧Below w.heap.size w w'
theorem k0f (s:List UInt8) (hs:s.length≤1000) (most:Nat) (hm:most≤16) (w:World):Calls prog 83 #[.string (bstr s),.int .i64 most] w (s0x most s w):=by
 have hz:=a0c s
 by_cases hlong:most < s.length
 ·have HV:=f1D (show a0P 10 most s=none by unfold a0P;rw[if_pos (.inr hlong)])
  have a1:(most:Int) < (s.length:Int):=by omega
  clear hlong
  go_enter func83,ntmps83
  go_wp2
  go_ret2
  exact⟨0,by rw[HV.out];rfl,Nat.pow_pos (by omega),(fun v h=>by rw[HV.out] at h;cases h),Below.refl _ _⟩
 ·have a1:(s.length:Int)≤(most:Int):=by omega
  have HV:=f1D (show a0P 10 most s=if s.length=0 then none else match c0c 10 0 s with
   | none=>none
   | some n=>if numL 10 n=s then some n else none by
    unfold a0P
    by_cases h0:s.length=0
    ·rw[if_pos (.inl h0),if_pos h0]
    ·rw[if_neg (by omega),if_neg h0];rfl)
  have hl16:s.length≤16:=by omega
  go_enter func83,ntmps83
  go_wp2
  have HLM:=f1D (show s.length≤most by omega)
  clear a1 hlong
  go_loop [6,7] (fun x i=>∃k m:Nat,k≤s.length∧i=.int .i64 k∧x=.int .u64 m∧m < 10^k∧c0c 10 m (s.drop k)=c0c 10 0 s) (fun _ i=>s.length - (intOf i).toNat)
  case atStart=>exact⟨0,0,by omega,rfl,rfl,by decide,rfl⟩
  case round =>
   obtain⟨k,m,hk,rfl,rfl,hmk,hf⟩:=hrel
   by_cases hlt:k < s.length
   ·have hlt':(k:Int) < (s.length:Int):=by omega
    have hix:=a0V s k hlt
    have HB:=f1D (fun h=>hf.symm.trans (w0a s k m hlt h))
    have HG:=f1D (fun h=>(s0Y s k m hlt h).symm.trans hf)
    have hbd:=d0k (s.getD k 0)
    generalize s.getD k 0=c at *
    clear hf
    by_cases hc:48≤c.toNat∧c.toNat≤57
    ·have HN:=f1D (HG.out hc)
     have c1:decide ((c.toNat:Int) < 48)=false:=decide_eq_false (by omega)
     have c2:decide ((57:Int) < (c.toNat:Int))=false:=decide_eq_false (by omega)
     have hP:10^k≤10^15:=Nat.pow_le_pow_right (by omega) (by omega)
     have HP:=f1D (show 10^(k+1)=10^k*10 from Nat.pow_succ ..)
     have hw1:IntKind.u64.wrap ((m:Int)*10)=(m:Int)*10:=by rw[IntKind.wrap_u64];omega
     have hw0:IntKind.u64.wrap (c.toNat:Int)=(c.toNat:Int):=by rw[IntKind.wrap_u64];omega
     have hw2:IntKind.u64.wrap ((m:Int)*10+(c.toNat:Int))=(m:Int)*10+(c.toNat:Int):=by rw[IntKind.wrap_u64];omega
     have hw3:IntKind.u64.wrap ((m:Int)*10+(c.toNat:Int) - 48)=((m*10+(c.toNat - 48):Nat):Int):=by rw[IntKind.wrap_u64];omega
     have hm2:m*10+(c.toNat - 48) < 10^(k+1):=by rw[HP.out];omega
     generalize m*10+(c.toNat - 48)=m2 at *
     clear HB HG hc hP
     go_wp2
     go_round
     case rel=>exact⟨k+1,m2,by omega,by go_num,rfl,hm2,HN.out⟩
     case measure=>simp[intOf];omega
    ·have HN:=f1D (HB.out hc)
     have HW:=f1D (show a0P 10 most s=none by rw[HV.out,HN.out];split<;>rfl)
     clear HB HG HV HN
     by_cases c1:c.toNat < 48
     ·have c1':(c.toNat:Int) < 48:=by omega
      clear hc c1
      go_wp2
      go_ret2
      exact⟨0,by rw[HW.out];rfl,Nat.pow_pos (by omega),(fun v h=>by rw[HW.out] at h;cases h),Below.refl _ _⟩
     ·have c1':decide ((c.toNat:Int) < 48)=false:=decide_eq_false (by omega)
      have c2':(57:Int) < (c.toNat:Int):=by omega
      clear hc c1
      go_wp2
      go_ret2
      exact⟨0,by rw[HW.out];rfl,Nat.pow_pos (by omega),(fun v h=>by rw[HW.out] at h;cases h),Below.refl _ _⟩
   ·obtain rfl:k=s.length:=by omega
    have hf0:c0c 10 0 s=some m:=by rw[←hf,List.drop_length];rfl
    have hval:a0P 10 most s=if numL 10 m=s then some m else none:=by
     rw[HV.out,hf0]
     by_cases h0:s.length=0
     ·have e:=List.length_eq_zero_iff.1 h0
      rw[if_pos h0,if_neg (by rw[e];exact f0W 10 m)]
     ·rw[if_neg h0]
    have hm16:m < 10^most:=Nat.lt_of_lt_of_le hmk (Nat.pow_le_pow_right (by omega) HLM.out)
    have hm64:m < 2^64:=by have:10^s.length≤10^16:=Nat.pow_le_pow_right (by omega) hl16;omega
    have hn:=f1D (fun w'=>m0G m m w' (f1F _) hm64)
    have he:=c0b (numL 10 m) s
    have HW:=f1D hval
    clear HV hf hf0 hval hmk
    by_cases hs2:numL 10 m=s
    ·have HX:=f1D (HW.out.trans (if_pos hs2))
     rw[decide_eq_true hs2] at he
     clear HW hs2
     generalize numL 10 m=X at *
     go_wp2_with (go_at_call 122;refine (hn.out _).mono ?_;rintro e w1 ⟨rfl,hb1⟩)
     go_ret2
     exact⟨m,by rw[HX.out];rfl,hm16,(fun v h=>by rw[HX.out] at h;exact Option.some.inj h),hb1⟩
    ·have HX:=f1D (HW.out.trans (if_neg hs2))
     rw[decide_eq_false hs2] at he
     clear HW hs2
     generalize numL 10 m=X at *
     go_wp2_with (go_at_call 122;refine (hn.out _).mono ?_;rintro e w1 ⟨rfl,hb1⟩)
     go_ret2
     exact⟨m,by rw[HX.out];rfl,hm16,(fun v h=>by rw[HX.out] at h;cases h),hb1⟩
theorem m0W (m:Nat) (p:Int) (h:m%2=0∨2^53≤m∨p < -1074∨1023 < p):ofC m p=none:=by unfold ofC;rw[if_pos h]
theorem d1L (m:Nat) (p:Int) (h:¬(m%2=0∨2^53≤m∨p < -1074∨1023 < p)):ofC m p=if 971 < (upC 52 m p).2 then none else some (f0s (upC 52 m p).1 (upC 52 m p).2):=by unfold ofC;rw[if_neg h]
theorem d1k (f M:Nat) (P:Int) (h:¬(M < 2^52∧-1074 < P)):upC f M P=(M,P):=by
 cases f with
 | zero=>rfl
 | succ f=>rw[upC,if_neg h]
theorem f1t (f M:Nat) (P:Int) (h:M < 2^52∧-1074 < P):upC (f+1) M P=upC f (2*M) (P - 1):=by rw[upC,if_pos h]
theorem b1T (m:Nat) (p:Int) (hm:m < 2^64) (hp1:-1000000≤p) (hp2:p≤1000000) (w:World):Calls prog 84 #[.int .u64 m,.int .i64 p] w fun e w'=>e=.returned (.tuple #[.float .f64 ((ofC m p).getD 0),.bool (ofC m p).isSome])∧w=w':=by
 obtain⟨V,hV⟩:∃V,V=ofC m p:=⟨_,rfl⟩
 have HV:=f1D hV
 rw[←hV]
 clear hV
 by_cases h1:m%2=0
 ·have a1:((m:Int)).tmod 2=0:=by rw[Int.tmod_eq_emod_of_nonneg (by omega)];omega
  have HW:=f1D (HV.out.trans (m0W m p (.inl h1)))
  clear HV h1
  go_enter func84,ntmps84
  go_wp2
  go_ret2
  exact⟨by rw[HW.out];rfl,rfl⟩
 have a1:((m:Int)).tmod 2=1:=by rw[Int.tmod_eq_emod_of_nonneg (by omega)];omega
 by_cases h2:2^53≤m
 ·have a2:(9007199254740992:Int)≤(m:Int):=by omega
  have HW:=f1D (HV.out.trans (m0W m p (.inr (.inl h2))))
  clear HV h1 h2
  go_enter func84,ntmps84
  go_wp2
  go_ret2
  exact⟨by rw[HW.out];rfl,rfl⟩
 have a2:decide ((9007199254740992:Int)≤(m:Int))=false:=decide_eq_false (by omega)
 by_cases h3:p < -1074
 ·have HW:=f1D (HV.out.trans (m0W m p (.inr (.inr (.inl h3)))))
  clear HV h1 h2
  go_enter func84,ntmps84
  go_wp2
  go_ret2
  exact⟨by rw[HW.out];rfl,rfl⟩
 have a3:decide (p < -1074)=false:=decide_eq_false h3
 by_cases h4:1023 < p
 ·have HW:=f1D (HV.out.trans (m0W m p (.inr (.inr (.inr h4)))))
  clear HV h1 h2 h3
  go_enter func84,ntmps84
  go_wp2
  go_ret2
  exact⟨by rw[HW.out];rfl,rfl⟩
 have a4:decide (1023 < p)=false:=decide_eq_false h4
 have HW:=f1D (HV.out.trans (d1L m p (by omega)))
 have hm0:0 < m:=by omega
 have hm1:m < 2^53:=by omega
 have hq0:-1074≤p:=by omega
 have hq1:p≤1023:=by omega
 clear HV h1 h2 h3 h4 hp1 hp2 hm
 go_enter func84,ntmps84
 go_wp2
 clear a1 a2 a3 a4
 go_loop [0,1] (fun x y=>∃(f M:Nat) (P:Int),x=.int .u64 M∧y=.int .i64 P∧0 < M∧M < 2^53∧-1074≤P∧P≤1023∧upC f M P=upC 52 m p∧2^52≤M*2^f) (fun x _=>2^53 - (intOf x).toNat)
 case atStart=>exact⟨52,m,p,rfl,rfl,hm0,hm1,hq0,hq1,rfl,Nat.le_mul_of_pos_left _ hm0⟩
 case round =>
  clear hm0 hm1 hq0 hq1
  obtain⟨f,M,P,rfl,rfl,h1,h2,h3,h4,h5,h6⟩:=hrel
  by_cases hc:M < 2^52∧-1074 < P
  ·obtain⟨g,rfl⟩:∃g,f=g+1:=by
    cases f with
    | zero=>rw[Nat.pow_zero,Nat.mul_one] at h6;omega
    | succ g=>exact⟨g,rfl⟩
   have c1:(M:Int) < 4503599627370496:=by omega
   have c2:-1074 < P:=hc.2
   obtain⟨M2,hM2⟩:∃M2,M2=2*M:=⟨_,rfl⟩
   have HR:=f1D (show 0 < M2∧M2 < 2^53∧-1074≤P - 1∧P - 1≤1023∧upC g M2 (P - 1)=upC 52 m p∧2^52≤M2*2^g∧M < M2 from
    ⟨by omega,by omega,by omega,by omega,by rw[hM2,←f1t g M P hc,h5],by
     have e:M*2^(g+1)=2*M*2^g:=by rw[Nat.pow_succ,←Nat.mul_assoc,Nat.mul_comm,←Nat.mul_assoc]
     rw[hM2,←e];exact h6,by omega⟩)
   have hw1:IntKind.u64.wrap ((M:Int)*2)=(M2:Int):=by rw[IntKind.wrap_u64];omega
   have hw2:IntKind.i64.wrap (P - 1)=P - 1:=by rw[IntKind.wrap_i64];omega
   have HM:=f1D hM2
   clear hc h5 h6 h4 hM2
   go_wp2
   go_round
   case rel =>
    obtain⟨r1,r2,r3,r4,r5,r6,-⟩:=HR.out
    exact⟨g,M2,P - 1,rfl,rfl,r1,r2,r3,r4,r5,r6⟩
   case measure =>
    obtain⟨r1,r2,r3,r4,r5,r6,r7⟩:=HR.out
    simp[intOf];omega
  ·have HU:=f1D (show V=if 971 < P then none else some (f0s M P) by rw[HW.out,←h5,d1k f M P hc])
   clear HW h5 h6
   by_cases hM:M < 2^52
   ·have hP:P=-1074:=by omega
    subst hP
    have c1:(M:Int) < 4503599627370496:=by omega
    have HX:=f1D (show V=some M by rw[HU.out,if_neg (by omega)];unfold f0s;rw[if_pos hM])
    clear HU hc hM
    go_wp2
    go_ret2
    exact⟨by rw[HX.out];rfl,rfl⟩
   ·have c1:decide ((M:Int) < 4503599627370496)=false:=decide_eq_false (by omega)
    by_cases hP:971 < P
    ·have HX:=f1D (HU.out.trans (if_pos hP))
     clear HU hc hM
     go_wp2
     go_ret2
     exact⟨by rw[HX.out];rfl,rfl⟩
    ·have c3:P≤971:=by omega
     obtain⟨E,rfl⟩:∃E:Nat,P=(E:Int) - 1075:=⟨(P+1075).toNat,by omega⟩
     have HX:=f1D (show V=some (E*2^52+M - 2^52) by rw[HU.out,if_neg hP];unfold f0s;rw[if_neg hM,show ((E:Int) - 1075+1075).toNat=E by omega])
     have hw0:IntKind.i64.wrap (E:Int)=(E:Int):=by rw[IntKind.wrap_i64];omega
     have hw1:IntKind.i64.wrap ((E:Int) - 1075+1075)=(E:Int):=by rw[IntKind.wrap_i64];omega
     have hw2:IntKind.u64.wrap (E:Int)=(E:Int):=by rw[IntKind.wrap_u64];omega
     obtain⟨B,hB⟩:∃B,B=E*2^52:=⟨_,rfl⟩
     have hw3:IntKind.u64.wrap ((E:Int)*4503599627370496)=(B:Int):=by rw[IntKind.wrap_u64];omega
     rw[←hB] at HX
     have hw4:IntKind.u64.wrap ((B:Int)+(M:Int))=(B:Int)+(M:Int):=by rw[IntKind.wrap_u64];omega
     obtain⟨Z,hZ⟩:∃Z,Z=B+M - 2^52:=⟨_,rfl⟩
     have hw5:IntKind.u64.wrap ((B:Int)+(M:Int) - 4503599627370496)=(Z:Int):=by rw[IntKind.wrap_u64];omega
     rw[←hZ] at HX
     have c4:decide (971 < (E:Int) - 1075)=false:=decide_eq_false (by omega)
     clear HU hc hM hP hB hZ h2 h3 h4 c3
     go_wp2
     go_ret2
     exact⟨by rw[HX.out];rfl,rfl⟩
end Go.Proofs.YtcbilopdeiapjaaGreatDoor
