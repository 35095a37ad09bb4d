import Derived.Test.YtjieebmcbpdeiaaGreatDoorRbac
import Derived.Test.YtjieebmcbpdeiaaGreatDoorRbad
import Derived.Test.YtjieebmcbpdeiaaGreatDoorRbaa
import Derived.Test.YtjieebmcbpdeiaaGreatDoorRbab
import Derived.Great.FillDense
import Derived.Great.BuildSlice
import Derived.Maps.AppendAt
namespace Go.Proofs.YtjieebmcbpdeiaaGreatDoor
set_option maxRecDepth 100000
open Go Go.RowKit
theorem wpList_open {P:Program} {ops:Array Oper} {Q:Exit→Act→World→Prop} {a:Act} {w:World} {rest:List Oper} {d:Option Nat} {op:Op} {t:TypeId} {pos:String} {af:Array Edge} {g:Option (Nat×Bool)}
  (hw:Region.wanted ⟨d,op,t,pos,af,g⟩ (yielded ops a.tmps)=true) (h:wpList P ops Q (⟨d,op,t,pos,af,none⟩ :: rest) a w):wpList P ops Q (⟨d,op,t,pos,af,g⟩ :: rest) a w:=by
 unfold wpList at h ⊢
 rw[if_pos hw]
 rw[if_pos (show Region.wanted ⟨d,op,t,pos,af,none⟩ (yielded ops a.tmps)=true from rfl)] at h
 exact h
theorem take_same16 (xs ys:List (List UInt8)) (k:Nat) (h1:k < xs.length) (h2:k < ys.length) (h:xs.take k=ys.take k) (he:xs.getD k []=ys.getD k []):xs.take (k+1)=ys.take (k+1):=by
 rw[List.take_add_one,List.take_add_one,h]
 rw[List.getD_eq_getElem?_getD,List.getD_eq_getElem?_getD,List.getElem?_eq_getElem h1,List.getElem?_eq_getElem h2] at he
 rw[List.getElem?_eq_getElem h1,List.getElem?_eq_getElem h2]
 have he:xs[k]=ys[k]:=he
 rw[he]
set_option maxHeartbeats 2000000 in
theorem same16_any (xs ys:List (List UInt8)) (hx:xs.length≤1000000) (A B:Option Addr) (c d:Nat) (w:World) (hs:Sl w A c (strsV xs)) (ht:Sl w B d (strsV ys)) :
  Calls Tryz.prog 47 #[.slice A xs.length c,.slice B ys.length d] w fun e w'=>e=.returned (.bool (decide (xs=ys)))∧Below w.heap.size w w':=by
 obtain⟨V,hV⟩:∃V,V=decide (xs=ys):=⟨_,rfl⟩
 rw[←hV]
 have HV:=Lib.hid hV
 clear hV
 by_cases hl:xs.length=ys.length
 ·have hl':((xs.length:Int) != (ys.length:Int))=false:=by rw[hl];simp
  obtain⟨n,hn⟩:∃n,n=xs.length:=⟨_,rfl⟩
  have HX:=Lib.hid hn
  have HY:=Lib.hid (hn.trans hl)
  rw[←HY.out,←HX.out] at hl'
  rw[←HX.out,←HY.out]
  have hnb:n≤1000000:=by have:=HX.out;omega
  clear hl hn
  go_enter Tryz.func47,Tryz.ntmps47
  go_wp2
  clear hl'
  go_loopw [13] (fun i wr=>∃k:Nat,k≤n∧i=.int .i64 k∧xs.take k=ys.take k∧Below w.heap.size w wr) (fun i _=>n - (intOf i).toNat)
  case atStart=>exact⟨0,by omega,rfl,rfl,Below.refl _ _⟩
  case round =>
   obtain⟨k,hk,rfl,htk,hb⟩:=hrel
   by_cases hlt:k < n
   ·have hlt':(k:Int) < (n:Int):=by omega
    have h1:k < xs.length:=by have:=HX.out;omega
    have h2:k < ys.length:=by have:=HY.out;omega
    obtain⟨b1,o1,rfl,-,-⟩:=hs.rd.get (i:=k) (by rw[length_strsV];exact h1)
    obtain⟨b2,o2,rfl,-,-⟩:=ht.rd.get (i:=k) (by rw[length_strsV];exact h2)
    have hix1:=index_strs (some ⟨b1,o1,none⟩) b1 o1 n c k rfl hlt
    have hix2:=index_strs (some ⟨b2,o2,none⟩) b2 o2 n d k rfl hlt
    have hc1:=strs_cell (hs.later (Nat.le_refl _) hb) k h1
    have hc2:=strs_cell (ht.later (Nat.le_refl _) hb) k h2
    have he:=bstr_beq (xs.getD k []) (ys.getD k [])
    have HT:=Lib.hid (fun h=>take_same16 xs ys k h1 h2 htk h)
    have HN:=Lib.hid (show xs.getD k []≠ys.getD k []→V=false from fun h=>by rw[HV.out];exact decide_eq_false (fun e=>h (by rw[e])))
    generalize xs.getD k []=x at *
    generalize ys.getD k []=y at *
    clear h1 h2 htk
    by_cases hxy:x=y
    ·have HT2:=Lib.hid (HT.out hxy)
     rw[decide_eq_true hxy] at he
     clear HT HN hxy
     go_wp2
     refine wp_region_noPanic ?_
     refine wp_region_held_drew (S:=fun w'=>w'=wr.drew) (by kernel_rfl) rfl (fun hHeld=>?_)
     refine rtake 0 _ (some 16) _ rfl rfl (by kernel_rfl) (by kernel_rfl) (by kernel_rfl) (fun _ _ _ h=>h) (by rfl) hHeld (by intro w hS;subst hS;go_simp;try with_reducible rfl) ?_
     try (first | (rw[put_some];dsimp only[List.set]) | rw[put_none])
     refine rtake 1 _ (some 17) _ rfl rfl (by kernel_rfl) (by kernel_rfl) (by kernel_rfl) (fun _ _ _ h=>h) (by rfl) hHeld (by intro w hS;subst hS;go_simp;try with_reducible rfl) ?_
     try (first | (rw[put_some];dsimp only[List.set]) | rw[put_none])
     refine rtake 2 _ (some 18) _ rfl rfl (by kernel_rfl) (by kernel_rfl) (by kernel_rfl) (fun _ _ _ h=>h) (by rfl) hHeld (by intro w hS;subst hS;go_simp;try with_reducible rfl) ?_
     try (first | (rw[put_some];dsimp only[List.set]) | rw[put_none])
     refine rtake 3 _ (some 19) _ rfl rfl (by kernel_rfl) (by kernel_rfl) (by kernel_rfl) (fun _ _ _ h=>h) (by rfl) hHeld (by intro w hS;subst hS;go_simp;try with_reducible rfl) ?_
     try (first | (rw[put_some];dsimp only[List.set]) | rw[put_none])
     refine rtake 4 _ (some 20) _ rfl rfl (by kernel_rfl) (by kernel_rfl) (by kernel_rfl) (fun _ _ _ h=>h) (by rfl) hHeld (by intro w hS;subst hS;go_simp;try with_reducible rfl) ?_
     try (first | (rw[put_some];dsimp only[List.set]) | rw[put_none])
     refine rtake 5 _ (some 21) _ rfl rfl (by kernel_rfl) (by kernel_rfl) (by kernel_rfl) (fun _ _ _ h=>h) (by rfl) hHeld (by intro w hS;subst hS;go_simp;try with_reducible rfl) ?_
     try (first | (rw[put_some];dsimp only[List.set]) | rw[put_none])
     refine rtake 6 _ (some 22) _ rfl rfl (by kernel_rfl) (by kernel_rfl) (by kernel_rfl) (fun _ _ _ h=>h) (by rfl) hHeld (by intro w hS;subst hS;go_simp;try with_reducible rfl) ?_
     try (first | (rw[put_some];dsimp only[List.set]) | rw[put_none])
     refine rtake 7 _ (some 23) _ rfl rfl (by kernel_rfl) (by kernel_rfl) (by kernel_rfl) (fun _ _ _ h=>h) (by rfl) hHeld (by intro w hS;subst hS;go_simp;try with_reducible rfl) ?_
     try (first | (rw[put_some];dsimp only[List.set]) | rw[put_none])
     refine rtake 8 _ (some 24) _ rfl rfl (by kernel_rfl) (by kernel_rfl) (by kernel_rfl) (fun _ _ _ h=>h) (by rfl) hHeld (by intro w hS;subst hS;go_simp;try with_reducible rfl) ?_
     try (first | (rw[put_some];dsimp only[List.set]) | rw[put_none])
     refine wpAnyH_done (by kernel_rfl) ?_ _
     refine NoPanic.normal ?_
     go_wp2
     go_roundw
     case rel=>exact⟨k+1,by omega,by go_num,HT2.out,hb.drew⟩
     case measure=>simp[intOf];omega
    ·have HW:=Lib.hid (HN.out hxy)
     rw[decide_eq_false hxy] at he
     clear HT HN hxy
     go_wp2
     refine wp_region_noPanic ?_
     refine wp_region_held_drew (S:=fun w'=>w'=wr.drew) (by kernel_rfl) rfl (fun hHeld=>?_)
     refine rtake 0 _ (some 16) _ rfl rfl (by kernel_rfl) (by kernel_rfl) (by kernel_rfl) (fun _ _ _ h=>h) (by rfl) hHeld (by intro w hS;subst hS;go_simp;try with_reducible rfl) ?_
     try (first | (rw[put_some];dsimp only[List.set]) | rw[put_none])
     refine rtake 1 _ (some 17) _ rfl rfl (by kernel_rfl) (by kernel_rfl) (by kernel_rfl) (fun _ _ _ h=>h) (by rfl) hHeld (by intro w hS;subst hS;go_simp;try with_reducible rfl) ?_
     try (first | (rw[put_some];dsimp only[List.set]) | rw[put_none])
     refine rtake 2 _ (some 18) _ rfl rfl (by kernel_rfl) (by kernel_rfl) (by kernel_rfl) (fun _ _ _ h=>h) (by rfl) hHeld (by intro w hS;subst hS;go_simp;try with_reducible rfl) ?_
     try (first | (rw[put_some];dsimp only[List.set]) | rw[put_none])
     refine rtake 3 _ (some 19) _ rfl rfl (by kernel_rfl) (by kernel_rfl) (by kernel_rfl) (fun _ _ _ h=>h) (by rfl) hHeld (by intro w hS;subst hS;go_simp;try with_reducible rfl) ?_
     try (first | (rw[put_some];dsimp only[List.set]) | rw[put_none])
     refine rtake 4 _ (some 20) _ rfl rfl (by kernel_rfl) (by kernel_rfl) (by kernel_rfl) (fun _ _ _ h=>h) (by rfl) hHeld (by intro w hS;subst hS;go_simp;try with_reducible rfl) ?_
     try (first | (rw[put_some];dsimp only[List.set]) | rw[put_none])
     refine rtake 5 _ (some 21) _ rfl rfl (by kernel_rfl) (by kernel_rfl) (by kernel_rfl) (fun _ _ _ h=>h) (by rfl) hHeld (by intro w hS;subst hS;go_simp;try with_reducible rfl) ?_
     try (first | (rw[put_some];dsimp only[List.set]) | rw[put_none])
     refine rtake 6 _ (some 22) _ rfl rfl (by kernel_rfl) (by kernel_rfl) (by kernel_rfl) (fun _ _ _ h=>h) (by rfl) hHeld (by intro w hS;subst hS;go_simp;try with_reducible rfl) ?_
     try (first | (rw[put_some];dsimp only[List.set]) | rw[put_none])
     refine rtake 7 _ (some 23) _ rfl rfl (by kernel_rfl) (by kernel_rfl) (by kernel_rfl) (fun _ _ _ h=>h) (by rfl) hHeld (by intro w hS;subst hS;go_simp;try with_reducible rfl) ?_
     try (first | (rw[put_some];dsimp only[List.set]) | rw[put_none])
     refine rtake 8 _ (some 24) _ rfl rfl (by kernel_rfl) (by kernel_rfl) (by kernel_rfl) (fun _ _ _ h=>h) (by rfl) hHeld (by intro w hS;subst hS;go_simp;try with_reducible rfl) ?_
     try (first | (rw[put_some];dsimp only[List.set]) | rw[put_none])
     refine wpAnyH_done (by kernel_rfl) ?_ _
     refine NoPanic.normal ?_
     go_wp2
     go_ret
     exact⟨by rw[HW.out];rfl,hb.drew⟩
   ·obtain rfl:k=n:=by omega
    have HW:=Lib.hid (show V=true by
     rw[HV.out,decide_eq_true_iff]
     have h1:=HX.out
     have h2:=HY.out
     rw[List.take_of_length_le (by omega),List.take_of_length_le (by omega)] at htk
     exact htk)
    clear htk
    go_wp2
    go_ret
    exact⟨by rw[HW.out];rfl,hb⟩
 ·have hl':((xs.length:Int) != (ys.length:Int))=true:=by rw[bne_iff_ne];omega
  have HW:=Lib.hid (show V=false by rw[HV.out,decide_eq_false (fun h=>hl (by rw[h]))])
  clear HV hl
  go_enter Tryz.func47,Tryz.ntmps47
  go_wp2
  go_ret
  exact⟨by rw[HW.out];rfl,Below.refl _ _⟩
theorem bstr_empty17 (s:List UInt8):(bstr s).toList.isEmpty=decide (s=[]):=by
 rw[bstr_toList]
 cases s<;>rfl
theorem bstr_is15 (l k:List UInt8):((bstr l).toList==k)=decide (l=k):=by
 rw[bstr_toList,Bool.eq_iff_iff,beq_iff_eq,decide_eq_true_iff]
theorem text_len (b:Nat):(textC b).length≤100:=by
 cases hn:nanC b with
 | true=>rw[text_nan b hn];simp
 | false =>
  rw[text_of b hn,List.length_append]
  have h1:(if negC b=true then [(45:UInt8)] else []).length≤1:=by split<;>simp
  have h2:(bodyC (magC b)).length≤60:=by
   by_cases h0:magC b=0
   ·rw[h0];decide
   ·by_cases hi:magC b=2047*2^52
    ·rw[hi];decide
    ·obtain⟨b1,b2,b3,b4⟩:=fin_bounds b hn h0 hi
     rw[body_fin _ h0 hi,List.length_append,List.length_cons]
     have x1:=numL_len 10 (by omega) 20 (oddC (sigC (magC b))) (by omega)
     generalize powC (magC b)+(twosC (sigC (magC b)):Int)=P at *
     have x2:(intL P).length≤22:=by
      have:=numL_len 10 (by omega) 20 P.natAbs (by omega)
      unfold intL
      split
      ·rw[List.length_cons];omega
      ·omega
     omega
  omega
theorem parse_text (b:Nat) (hb:b < 2^64) (h:nanC b=false):parseC (textC b)=some b:=(parseC_iff _ b).2 ⟨hb,h,rfl⟩
theorem most_self (a:Nat):atMostC a a=!nanC a:=by
 unfold atMostC
 rw[decide_eq_true (Int.le_refl _)]
 cases nanC a<;>rfl
theorem PrdAt.later {w w':World} {p:Prd} {A:Option Addr} {c B:Nat} (h:PrdAt w p A c) (hB:w.heap.size≤B) (hb:Below B w w'):PrdAt w' p A c :=
 ⟨h.ok,h.names.later hB hb,h.lo,h.hi,h.path,h.sum⟩
theorem cat_blank17 (a b:List UInt8):bstr a++({ data:=#[32] } : ByteArray)++bstr b=bstr (a++32 :: b):=by
 rw[show ({ data:=#[32] } : ByteArray)=bstr [32] from rfl,bstr_cat12,bstr_cat12]
 congr 1
 simp
def sameP (p q:Prd):Bool:=decide (p.kind=q.kind)&&decide (p.time=q.time)&&decide (p.names=q.names)&&decide (p.path=q.path)&&sameR p.net q.net&&decide (p.cost=q.cost)
theorem sameP_iff (p q:Prd):sameP p q=true↔p=q:=by
 unfold sameP
 simp only[Bool.and_eq_true,decide_eq_true_iff,sameR_iff]
 constructor
 ·rintro ⟨⟨⟨⟨⟨h1,h2⟩,h3⟩,h4⟩,h5⟩,h6⟩
  obtain⟨k,t,ns,pa,r,c⟩:=p
  obtain⟨k',t',ns',pa',r',c'⟩:=q
  simp only at h1 h2 h3 h4 h5 h6
  subst h1 h2 h3 h4 h5 h6
  rfl
 ·rintro rfl
  exact⟨⟨⟨⟨⟨rfl,rfl⟩,rfl⟩,rfl⟩,rfl⟩,rfl⟩
set_option maxHeartbeats 8000000 in
theorem rsame17_any (p q:Prd) (A B:Option Addr) (c d:Nat) (w:World) (hp:PrdAt w p A c) (hq:PrdAt w q B d) :
  Calls Tryz.prog 18 #[.agg (prdV p A c).toArray,.agg (prdV q B d).toArray] w fun e w'=>e=.returned (.bool (sameP p q))∧Below w.heap.size w w':=by
 have hszp:=Lib.hid (show (Tryz.prog.info? 28).map (·.size)=some (rngV p.net).length by rw[length_rngV' _ hp.ok.net.a];exact size_rng)
 have hszq:=Lib.hid (show (Tryz.prog.info? 28).map (·.size)=some (rngV q.net).length by rw[length_rngV' _ hq.ok.net.a];exact size_rng)
 obtain⟨w1,hw1⟩:∃w1,w1=(w.alloc (.cells (prdV p A c).toArray 31)).alloc (.cells (prdV q B d).toArray 31):=⟨_,rfl⟩
 obtain⟨r1,r2,hb1,-⟩:=two_rows hw1.symm
 have hp1:=hp.later (Nat.le_refl _) hb1
 have hq1:=hq.later (Nat.le_refl _) hb1
 have hns:=Lib.hid (same16_any p.names q.names (by have:=sumS_len p.names;have:=hp.sum;omega) A B c d w1 hp1.names hq1.names)
 obtain⟨p0,p1,p2,p3,p4,p5⟩:=prd_cells hp.ok.net.a r1
 obtain⟨q0,q1,q2,q3,q4,q5⟩:=prd_cells hq.ok.net.a r2
 have KP:=Lib.hid (fun w' (h:Below w1.heap.size w1 w')=>prd_cells hp.ok.net.a (r1.later h r1.lt))
 have KQ:=Lib.hid (fun w' (h:Below w1.heap.size w1 w')=>prd_cells hq.ok.net.a (r2.later h r2.lt))
 have heq:=Lib.hid (fun w'=>show (Op.equalIn 10000 28 (.agg (rngV p.net).toArray) (.agg (rngV q.net).toArray)).run Tryz.prog w'=.ok (sameR p.net q.net) w' from eq_rng p.net q.net hp.ok.net.a hq.ok.net.a w')
 have hcs:=Lib.hid (fun w'=>fsame_any p.cost q.cost w')
 have HW:=Lib.hid hw1
 have tok:True:=trivial
 have hpb:=bstr_beq p.path q.path
 clear hw1 r1 r2 hp hq hp1 hq1
 generalize prdV p A c=X at *
 generalize prdV q B d=Y at *
 by_cases t1:p.kind=q.kind
 case neg =>
  have HX:=Lib.hid (show sameP p q=false by unfold sameP;simp[t1])
  have a1:(p.kind==q.kind)=false:=by rw[beq_eq_false_iff_ne];exact t1
  clear heq t1
  generalize rngV p.net=R at *
  generalize rngV q.net=R2 at *
  generalize p.names.length=N at *
  generalize q.names.length=N2 at *
  generalize p.kind=kp at *
  generalize q.kind=kq at *
  go_enter Tryz.func18,Tryz.ntmps18
  go_wp2_with (first
   | (have _t:=tok;rw[←HW.out];clear tok))
  go_ret
  exact⟨by rw[HX.out];rfl,hb1⟩
 by_cases t2:p.time=q.time
 case neg =>
  have HX:=Lib.hid (show sameP p q=false by unfold sameP;simp[t1,t2])
  have a1:(p.kind==q.kind)=true:=beq_iff_eq.2 t1
  have a2:((p.time:Int)==(q.time:Int))=false:=by rw[beq_eq_false_iff_ne];omega
  clear heq t1 t2
  generalize rngV p.net=R at *
  generalize rngV q.net=R2 at *
  generalize p.names.length=N at *
  generalize q.names.length=N2 at *
  generalize p.kind=kp at *
  generalize q.kind=kq at *
  go_enter Tryz.func18,Tryz.ntmps18
  go_wp2_with (first
   | (have _t:=tok;rw[←HW.out];clear tok))
  go_ret
  exact⟨by rw[HX.out];rfl,hb1⟩
 by_cases t3:p.names=q.names
 case neg =>
  have HX:=Lib.hid (show sameP p q=false by unfold sameP;simp[t1,t2,t3])
  have a1:(p.kind==q.kind)=true:=beq_iff_eq.2 t1
  have a2:((p.time:Int)==(q.time:Int))=true:=by rw[t2];exact beq_self_eq_true _
  rw[decide_eq_false t3] at hns
  clear heq t1 t2 t3
  generalize rngV p.net=R at *
  generalize rngV q.net=R2 at *
  generalize p.names.length=N at *
  generalize q.names.length=N2 at *
  generalize p.kind=kp at *
  generalize q.kind=kq at *
  go_enter Tryz.func18,Tryz.ntmps18
  go_wp2_with (first
   | (have _t:=tok;rw[←HW.out];clear tok)
   | (go_at_call 47;refine hns.out.mono ?_;rintro e w2 ⟨rfl,hqq⟩;have hb1:=hb1.trans (hqq.mono hb1.size);obtain⟨p0,p1,p2,p3,p4,p5⟩:=KP.out _ hqq;obtain⟨q0,q1,q2,q3,q4,q5⟩:=KQ.out _ hqq))
  go_ret
  exact⟨by rw[HX.out];rfl,hb1⟩
 by_cases t4:p.path=q.path
 case neg =>
  have HX:=Lib.hid (show sameP p q=false by unfold sameP;simp[t1,t2,t3,t4])
  have a1:(p.kind==q.kind)=true:=beq_iff_eq.2 t1
  have a2:((p.time:Int)==(q.time:Int))=true:=by rw[t2];exact beq_self_eq_true _
  rw[decide_eq_true t3] at hns
  rw[decide_eq_false t4] at hpb
  clear heq t1 t2 t3 t4
  generalize rngV p.net=R at *
  generalize rngV q.net=R2 at *
  generalize p.names.length=N at *
  generalize q.names.length=N2 at *
  generalize p.kind=kp at *
  generalize q.kind=kq at *
  go_enter Tryz.func18,Tryz.ntmps18
  go_wp2_with (first
   | (have _t:=tok;rw[←HW.out];clear tok)
   | (go_at_call 47;refine hns.out.mono ?_;rintro e w2 ⟨rfl,hqq⟩;have hb1:=hb1.trans (hqq.mono hb1.size);obtain⟨p0,p1,p2,p3,p4,p5⟩:=KP.out _ hqq;obtain⟨q0,q1,q2,q3,q4,q5⟩:=KQ.out _ hqq))
  go_ret
  exact⟨by rw[HX.out];rfl,hb1⟩
 by_cases t5:sameR p.net q.net=true
 case neg =>
  have HX:=Lib.hid (show sameP p q=false by unfold sameP;simp[t1,t2,t3,t4,t5])
  have a1:(p.kind==q.kind)=true:=beq_iff_eq.2 t1
  have a2:((p.time:Int)==(q.time:Int))=true:=by rw[t2];exact beq_self_eq_true _
  rw[decide_eq_true t3] at hns
  rw[decide_eq_true t4] at hpb
  have a5:=fun w'=>(heq.out w').trans (by rw[show sameR p.net q.net=false from by simpa using t5])
  clear heq t1 t2 t3 t4 t5
  generalize rngV p.net=R at *
  generalize rngV q.net=R2 at *
  generalize p.names.length=N at *
  generalize q.names.length=N2 at *
  generalize p.kind=kp at *
  generalize q.kind=kq at *
  go_enter Tryz.func18,Tryz.ntmps18
  go_wp2_with (first
   | (have _t:=tok;rw[←HW.out];clear tok)
   | (go_at_call 47;refine hns.out.mono ?_;rintro e w2 ⟨rfl,hqq⟩;have hb1:=hb1.trans (hqq.mono hb1.size);obtain⟨p0,p1,p2,p3,p4,p5⟩:=KP.out _ hqq;obtain⟨q0,q1,q2,q3,q4,q5⟩:=KQ.out _ hqq)
   | (with_reducible refine wpList_open (d:=some 33) ?_ ?_;kernel_rfl;with_reducible refine wpList_load_mid rfl 28 (.tmp 32) rfl w.heap.size 4 rfl R _ p4 Tryz.underlying28 rfl hszp.out ?_)
   | (with_reducible refine wpList_open (d:=some 35) ?_ ?_;kernel_rfl;with_reducible refine wpList_load_mid rfl 28 (.tmp 34) rfl (w.heap.size+1) 4 rfl R2 _ q4 Tryz.underlying28 rfl hszq.out ?_))
  go_ret
  exact⟨by rw[HX.out];rfl,hb1⟩
 by_cases t6:p.cost=q.cost
 case neg =>
  have HX:=Lib.hid (show sameP p q=false by unfold sameP;simp[t1,t2,t3,t4,t5,t6])
  have a1:(p.kind==q.kind)=true:=beq_iff_eq.2 t1
  have a2:((p.time:Int)==(q.time:Int))=true:=by rw[t2];exact beq_self_eq_true _
  rw[decide_eq_true t3] at hns
  rw[decide_eq_true t4] at hpb
  have a5:=fun w'=>(heq.out w').trans (by rw[t5])
  rw[decide_eq_false t6] at hcs
  clear heq t1 t2 t3 t4 t5 t6
  generalize rngV p.net=R at *
  generalize rngV q.net=R2 at *
  generalize p.names.length=N at *
  generalize q.names.length=N2 at *
  generalize p.kind=kp at *
  generalize q.kind=kq at *
  go_enter Tryz.func18,Tryz.ntmps18
  go_wp2_with (first
   | (have _t:=tok;rw[←HW.out];clear tok)
   | (go_at_call 47;refine hns.out.mono ?_;rintro e w2 ⟨rfl,hqq⟩;have hb1:=hb1.trans (hqq.mono hb1.size);obtain⟨p0,p1,p2,p3,p4,p5⟩:=KP.out _ hqq;obtain⟨q0,q1,q2,q3,q4,q5⟩:=KQ.out _ hqq)
   | (with_reducible refine wpList_open (d:=some 33) ?_ ?_;kernel_rfl;with_reducible refine wpList_load_mid rfl 28 (.tmp 32) rfl w.heap.size 4 rfl R _ p4 Tryz.underlying28 rfl hszp.out ?_)
   | (with_reducible refine wpList_open (d:=some 35) ?_ ?_;kernel_rfl;with_reducible refine wpList_load_mid rfl 28 (.tmp 34) rfl (w.heap.size+1) 4 rfl R2 _ q4 Tryz.underlying28 rfl hszq.out ?_)
   | (go_at_call 48;refine (hcs.out _).mono ?_;rintro e w' ⟨rfl,rfl⟩))
  go_ret
  exact⟨by rw[HX.out];rfl,hb1⟩
 have HX:=Lib.hid (show sameP p q=true by unfold sameP;simp[t1,t2,t3,t4,t5,t6])
 have a1:(p.kind==q.kind)=true:=beq_iff_eq.2 t1
 have a2:((p.time:Int)==(q.time:Int))=true:=by rw[t2];exact beq_self_eq_true _
 rw[decide_eq_true t3] at hns
 rw[decide_eq_true t4] at hpb
 have a5:=fun w'=>(heq.out w').trans (by rw[t5])
 rw[decide_eq_true t6] at hcs
 clear heq t1 t2 t3 t4 t5 t6
 generalize rngV p.net=R at *
 generalize rngV q.net=R2 at *
 generalize p.names.length=N at *
 generalize q.names.length=N2 at *
 generalize p.kind=kp at *
 generalize q.kind=kq at *
 go_enter Tryz.func18,Tryz.ntmps18
 go_wp2_with (first
  | (have _t:=tok;rw[←HW.out];clear tok)
  | (go_at_call 47;refine hns.out.mono ?_;rintro e w2 ⟨rfl,hqq⟩;have hb1:=hb1.trans (hqq.mono hb1.size);obtain⟨p0,p1,p2,p3,p4,p5⟩:=KP.out _ hqq;obtain⟨q0,q1,q2,q3,q4,q5⟩:=KQ.out _ hqq)
  | (with_reducible refine wpList_open (d:=some 33) ?_ ?_;kernel_rfl;with_reducible refine wpList_load_mid rfl 28 (.tmp 32) rfl w.heap.size 4 rfl R _ p4 Tryz.underlying28 rfl hszp.out ?_)
  | (with_reducible refine wpList_open (d:=some 35) ?_ ?_;kernel_rfl;with_reducible refine wpList_load_mid rfl 28 (.tmp 34) rfl (w.heap.size+1) 4 rfl R2 _ q4 Tryz.underlying28 rfl hszq.out ?_)
  | (go_at_call 48;refine (hcs.out _).mono ?_;rintro e w' ⟨rfl,rfl⟩))
 go_ret
 exact⟨by rw[HX.out];rfl,hb1⟩
def numAns (o:Option Nat):Value:=.tuple #[.int .u64 ((o.getD 0:Nat):Int),.bool o.isSome]
theorem words_far (s:List UInt8) (h0:s≠[]) (h:512 < s.length):wordsL s=none:=by
 unfold wordsL
 rw[if_neg h0,if_neg (fun k=>by omega)]
theorem words_ink (s:List UInt8) (h0:s≠[]) (h:s.all inkB=false):wordsL s=none:=by
 unfold wordsL
 rw[if_neg h0,if_neg (fun k=>by rw[h] at k;cases k.2.1)]
theorem words_split (s:List UInt8) (h0:s≠[]) (hl:s.length≤512) (h:s.all inkB=true):wordsL s=if (splitL 32 s).all (fun p=>decide (p≠[]))=true then some (splitL 32 s) else none:=by
 unfold wordsL
 rw[if_neg h0]
 by_cases hk:(splitL 32 s).all (fun p=>decide (p≠[]))=true
 ·rw[if_pos ⟨hl,h,hk⟩,if_pos hk]
 ·rw[if_neg (fun k=>hk k.2.2),if_neg hk]
theorem bstr_empty (s:List UInt8):(bstr s).toList.isEmpty=decide (s=[]):=by
 rw[bstr_toList]
 cases s<;>rfl
def parsV (o:Option Adr):Value:=match o with
 | none=>.tuple #[.agg (adrV zeroA).toArray,.bool false]
 | some a=>.tuple #[.agg (adrV a).toArray,.bool true]
theorem glue_sum (x:UInt8) (l:List (List UInt8)) (h:l≠[]):sumS l=(glueL x l).length+1:=by
 induction l with
 | nil=>exact absurd rfl h
 | cons p l ih =>
  cases l with
  | nil=>show (p.length+1+0)=p.length+1;rfl
  | cons q l =>
   have:=ih (by simp)
   show p.length+1+sumS (q :: l)=(p++x :: glueL x (q :: l)).length+1
   rw[this,List.length_append,List.length_cons];omega
theorem names_sum17 (s:List UInt8) (h:s.length≤3999):sumS ((namesC s).getD [])≤4000:=by
 unfold namesC
 split
 ·show sumS (splitL 44 s)≤4000
  have h1:=glue_sum 44 (splitL 44 s) (splitL_ne 44 s)
  rw[glueL_split 44 s] at h1
  omega
 ·decide
theorem cands_len (b:List UInt8):(candsP b).length=6:=rfl
def candQ (b:List UInt8) (j:Nat):Prd:=(candsP b).getD j zeroP
theorem cand_mem (b:List UInt8) (j:Nat) (h:j < 6):candQ b j∈candsP b:=by
 unfold candQ
 rw[List.getD_eq_getElem?_getD,List.getElem?_eq_getElem (by rw[cands_len];exact h)]
 exact List.getElem_mem _
theorem parsR_out (o:Option Rng):parsR o=.tuple #[.agg (rngV (o.getD zeroR)).toArray,.bool o.isSome]:=by cases o<;>rfl
def GavePrd (o:Option Prd) (w:World) (e:Ending) (w':World):Prop :=
 ∃(A:Option Addr) (c:Nat),e=.returned (.tuple #[.agg (prdV (o.getD zeroP) A c).toArray,.bool o.isSome])∧PrdAt w' (o.getD zeroP) A c∧Below w.heap.size w w'
theorem zero_at (w:World):PrdAt w zeroP none 0:=⟨zeroP_ok,sl_none16 w,by decide,by decide,by decide,by decide⟩
theorem PrdAt.apart {w w':World} {p:Prd} {A:Option Addr} {c g:Nat} (h:PrdAt w p A c) (hg:w.grownBy w' (some g)) (hne:∀a,A=some a→a.block≠g):PrdAt w' p A c :=
 ⟨h.ok,h.names.apart hg (fun _=>hne),h.lo,h.hi,h.path,h.sum⟩
def GaveRowF (o:Option (List (List UInt8))) (w:World) (e:Ending) (w':World):Prop :=
 ∃(A:Option Addr) (c:Nat),e=.returned (.tuple #[.slice A (o.getD []).length c,.bool o.isSome])∧Sl w' A c (strsV (o.getD []))∧(∀g,g < w.heap.size→∀a,A=some a→a.block≠g)∧Below w.heap.size w w'
theorem normL_head (s:List UInt8) (h:s.getD 0 0≠47):normL s=none:=by
 unfold normL
 split
 ·exact absurd rfl h
 ·rfl
theorem normL_none (r:List UInt8) (h:goN [] (splitL 47 r)=none):normL (47 :: r)=none:=by
 show (match goN [] (splitL 47 r) with
  | none=>none
  | some l=>if (joinP l).length≤256 then some (joinP l) else none)=none
 rw[h]
theorem normL_some (r:List UInt8) (l:List (List UInt8)) (h:goN [] (splitL 47 r)=some l):normL (47 :: r)=if (joinP l).length≤256 then some (joinP l) else none:=by
 show (match goN [] (splitL 47 r) with
  | none=>none
  | some l=>if (joinP l).length≤256 then some (joinP l) else none)=_
 rw[h]
theorem goN_at (l ps:List (List UInt8)) (k:Nat) (h:k < ps.length):goN l (ps.drop k)=match alongL l (ps.getD k []) with
  | none=>none
  | some m=>goN m (ps.drop (k+1)):=by
 rw[List.drop_eq_getElem_cons h,goN_along,List.getD_eq_getElem?_getD,List.getElem?_eq_getElem h];rfl
theorem flatP_le (l:List (List UInt8)) (h:∀w∈l,w.length≤64):(flatP l).length≤65*l.length:=by
 unfold flatP
 induction l with
 | nil=>exact Nat.le_refl _
 | cons w l ih =>
  have:=ih (fun v hv=>h v (List.mem_cons_of_mem _ hv))
  have:=h w (List.mem_cons_self ..)
  rw[List.flatMap_cons,List.length_append,List.length_cons,List.length_cons];omega
theorem flatP_take (l:List (List UInt8)) (k:Nat) (h:k < l.length):flatP (l.take (k+1))=flatP (l.take k)++(47 :: l.getD k []):=by
 rw[List.take_add_one,flatP_app]
 congr 1
 rw[List.getD_eq_getElem?_getD,List.getElem?_eq_getElem h]
 exact flatP_one _
theorem cut_strs (A:Option Addr) (c n:Nat) (hA:A≠none) (hc:n+1≤c) (w:World):(Instr.sliceAt 23 (.slice A (n+1) c) none (some (.int .i64 (n:Int))) none).run Tryz.prog w=.ok (.slice A n c) w:=by
 cases A with
 | none=>exact absurd rfl hA
 | some a =>
  have h2:(n:Int)≤(c:Int):=by omega
  clear hA hc
  go_simp
theorem sl_empty (w:World) (A:Addr) (d:Nat):Sl w (some A) d (strsV []):=⟨.inl (by simp[strsV]),by simp[strsV],fun h=>by cases h⟩
set_option maxHeartbeats 4000000 in
theorem rnormal_any (s:List UInt8) (hs:s.length≤1000) (w:World):Calls Tryz.prog 33 #[.string (bstr s)] w fun e w'=>e=.returned (.tuple #[.string (bstr ((normL s).getD [])),.bool (normL s).isSome])∧Below w.heap.size w w':=by
 have hz:=size_bstr s
 obtain⟨V,hV⟩:∃V,V=normL s:=⟨_,rfl⟩
 have HV:=Lib.hid hV
 rw[←hV]
 clear hV
 by_cases h3:s=[]
 ·have HW:=Lib.hid (show V=none by rw[HV.out,h3];rfl)
  have a2:((s.length:Int)==0)=true:=by rw[h3];rfl
  clear HV h3
  go_enter Tryz.func33,Tryz.ntmps33
  go_wp2
  go_ret2
  exact⟨by rw[HW.out];rfl,Below.refl _ _⟩
 have hpos:0 < s.length:=List.length_pos_iff.2 h3
 have a2:((s.length:Int)==0)=false:=by rw[beq_eq_false_iff_ne];omega
 have hix:∀w',(Instr.index 9 (.string (bstr s)) (.int .i64 0)).run Tryz.prog w'=.ok (.int .u8 ((s.getD 0 0).toNat:Int)) w':=fun w'=>index_bstr s 0 hpos w'
 by_cases h4:s.getD 0 0=47
 ·obtain⟨r,rfl⟩:∃r,s=47 :: r:=by
   cases s with
   | nil=>exact absurd rfl h3
   | cons c r=>exact⟨r,by rw[show c=47 from h4]⟩
  rw[h4] at hix
  have a4:((47:UInt8).toNat:Int)=47:=rfl
  rw[a4] at hix
  have hex:=tail_bstr 47 r (r.length+1) rfl
  rw[List.length_cons] at hz hs
  have a3:((r.length:Int)+1==0)=false:=by rw[beq_eq_false_iff_ne];omega
  have hcp:=Lib.hid (fun w'=>rpieces_any r (by omega) w')
  have HM:=Lib.hid (fun s (h:s∈splitL 47 r)=>(by have:=splitL_piece 47 r s h;omega:s.length≤1000))
  have hlen:=splitL_len 47 r
  have HN1:=Lib.hid (fun h=>HV.out.trans (normL_none r h))
  have HN2:=Lib.hid (fun l h=>HV.out.trans (normL_some r l h))
  generalize bstr (47 :: r)=P at *
  clear HV h3 h4 hpos a4 a2
  generalize splitL 47 r=ps at *
  go_enter Tryz.func33,Tryz.ntmps33
  go_wp2_with (go_at_call 66;refine (hcp.out _).mono ?_;rintro e w1 ⟨v,rfl,hown,hb1⟩;obtain⟨A,c,rfl,hpl,hsl⟩:=Sl.of_own hown;clear hpl)
  have hB1:Below w.heap.size w w1:=((Below.refl _ w).alloc (Nat.le_refl _) _).trans (hb1.mono (by rw[World.size_alloc];omega))
  clear hb1 hown hcp hex hix a3
  go_loopw [4,23] (fun v i wr=>∃(k:Nat) (l:List (List UInt8)) (B:Option Addr) (d:Nat),k≤ps.length∧i=.int .i64 k∧v=.slice B l.length d∧Sl wr B d (strsV l)∧l.length≤k∧(∀x∈l,x.length≤64)∧goN l (ps.drop k)=goN [] ps∧Below w1.heap.size w1 wr) (fun _ i _=>ps.length - (intOf i).toNat)
  case atStart=>exact⟨0,[],_,_,by omega,rfl,rfl,sl_empty _ _ _,by simp,by simp,rfl,Below.refl _ _⟩
  case round =>
   obtain⟨k,l,B,d,hk,rfl,rfl,hsv,hlk,hl64,hgo,hbr⟩:=hrel
   by_cases hlt:k < ps.length
   ·have hlt':(k:Int) < (ps.length:Int):=by omega
    obtain⟨b,o,rfl,-,-⟩:=hsl.rd.get (i:=k) (by rw[length_strsV];exact hlt)
    have hixs:=index_strs (some ⟨b,o,none⟩) b o ps.length c k rfl hlt
    have hce:=strs_cell (hsl.later (Nat.le_refl _) hbr) k hlt
    have HG:=Lib.hid (hgo.symm.trans (goN_at l ps k hlt))
    have hx1:=HM.out (ps.getD k []) (by rw[List.getD_eq_getElem?_getD,List.getElem?_eq_getElem hlt];exact List.getElem_mem hlt)
    have HL64:=Lib.hid hl64
    generalize ps.getD k []=x at *
    have e0:(bstr x).toList.isEmpty=decide (x=[]):=by rw[bstr_toList];cases x<;>rfl
    have e1:=bstr_is x [46]
    have e2:=bstr_is x [46,46]
    clear hgo hl64
    by_cases c0:x=[]
    ·have HN:=Lib.hid (show goN l (ps.drop (k+1))=goN [] ps by rw[HG.out];unfold alongL;rw[if_pos (.inl c0)])
     rw[decide_eq_true c0] at e0
     clear HG c0 e1 e2
     go_wp2
     go_roundw
     case rel=>exact⟨k+1,l,B,d,by omega,by go_num,rfl,hsv,by omega,HL64.out,HN.out,hbr⟩
     case measure=>simp[intOf];omega
    rw[decide_eq_false c0] at e0
    by_cases c1:x=[46]
    ·have HN:=Lib.hid (show goN l (ps.drop (k+1))=goN [] ps by rw[HG.out];unfold alongL;rw[if_pos (.inr c1)])
     rw[decide_eq_true c1] at e1
     clear HG c0 c1 e2
     go_wp2
     go_roundw
     case rel=>exact⟨k+1,l,B,d,by omega,by go_num,rfl,hsv,by omega,HL64.out,HN.out,hbr⟩
     case measure=>simp[intOf];omega
    rw[decide_eq_false c1] at e1
    have c01:¬(x=[]∨x=[46]):=by rintro (h | h);exact c0 h;exact c1 h
    by_cases c2:x=[46,46]
    ·rw[decide_eq_true c2] at e2
     by_cases c3:l=[]
     ·have HN:=Lib.hid (show V=none from HN1.out (by rw[HG.out];unfold alongL;rw[if_neg c01,if_pos c2,if_pos c3]))
      have a5:((l.length:Int)==0)=true:=by rw[c3];rfl
      clear HG c0 c1 c01 c2 c3
      go_wp2
      go_ret2
      exact⟨by rw[HN.out];rfl,hB1.trans (hbr.mono hB1.size)⟩
     ·have HN:=Lib.hid (show goN l.dropLast (ps.drop (k+1))=goN [] ps by rw[HG.out];unfold alongL;rw[if_neg c01,if_pos c2,if_neg c3])
      obtain⟨n,hn⟩:∃n,l.length=n+1:=⟨l.length - 1,by have:=List.length_pos_iff.2 c3;omega⟩
      have hroom:=hsv.room
      rw[length_strsV,hn] at hroom
      have hBn:B≠none:=by
       rintro rfl
       have:=hsv.bare rfl
       omega
      have hct:=cut_strs B d n hBn hroom
      have a5:((n:Int)+1==0)=false:=by rw[beq_eq_false_iff_ne];omega
      have hsv2:Sl wr B d (strsV l.dropLast):=by rw[List.dropLast_eq_take,strsV_take];exact hsv.take
      have hdl:n=l.dropLast.length:=by rw[List.length_dropLast,hn];rfl
      have HD:=Lib.hid hdl
      have H64':=Lib.hid (fun x (h:x∈l.dropLast)=>HL64.out x (List.dropLast_subset l h))
      rw[hn]
      clear HG c0 c1 c01 c2 c3 hdl hroom hBn
      go_wp2
      go_roundw
      case rel=>exact⟨k+1,l.dropLast,B,d,by omega,by go_num,by rw[←HD.out],hsv2,by rw[←HD.out];omega,H64'.out,HN.out,hbr⟩
      case measure=>simp[intOf];omega
    ·rw[decide_eq_false c2] at e2
     have hnm:=rname_any x (by omega) wr
     cases c3:nameL x with
     | false =>
      have HN:=Lib.hid (show V=none from HN1.out (by rw[HG.out];unfold alongL;rw[if_neg c01,if_neg c2,c3];rfl))
      rw[c3] at hnm
      have HC:=Lib.hid hnm
      clear HG c0 c1 c01 c2 c3 hnm
      go_wp2_with (go_at_call 67;refine HC.out.mono ?_;rintro e w' ⟨rfl,rfl⟩)
      go_ret2
      exact⟨by rw[HN.out];rfl,hB1.trans (hbr.mono hB1.size)⟩
     | true =>
      have HN:=Lib.hid (show goN (l++[x]) (ps.drop (k+1))=goN [] ps by rw[HG.out];unfold alongL;rw[if_neg c01,if_neg c2,if_pos c3])
      have hx64:=nameL_len x c3
      rw[c3] at hnm
      have HC:=Lib.hid hnm
      clear HG c0 c1 c01 c2 c3 hnm
      obtain⟨i0,hi,hz0,hz1,hz2⟩:=info_parts infoStr
      have hown0:(wr.alloc (.cells #[] 9)).ownsRow w1.heap.size 9 1 (.slice (some ⟨wr.heap.size,0,none⟩) 0 0) 0 (strsV []):=World.ownsRow_lit wr (e:=9) (size:=1) #[] 0 hbr.size (by unfold maxLen;omega) rfl
      have hbe:Below w1.heap.size w1 (wr.alloc (.cells #[] 9)):=hbr.alloc hbr.size _
      have hsv0:Sl (wr.alloc (.cells #[] 9)) B d (strsV l):=hsv.later (Nat.le_refl _) ((Below.refl _ wr).alloc (Nat.le_refl _) _)
      have n1:0+l.length≤maxLen:=by unfold maxLen;omega
      have n2:(0+l.length)*16≤140737488355328:=by omega
      have n3:0+l.length+1≤maxLen:=by unfold maxLen;omega
      have n4:(0+l.length+1)*16≤140737488355328:=by omega
      have tok:=trivial
      go_wp2_with (first
       | (go_at_call 67;refine HC.out.mono ?_;rintro e w' ⟨rfl,rfl⟩)
       | (at_builtin;have _t:=tok;refine wpList_append_sl rfl (.tmp 46) (.tmp 47) 23 rfl w1.heap.size 9 i0 _ 16 Tryz.underlying23 hi hz0 hz1 hz2 rfl _ 0 (strsV []) rfl hown0 B l.length d (strsV l) rfl (length_strsV l).symm hsv0 (strsV_one _) n1 n2 hbe.size ?_;intro v3 w3 hown3 hg3;have hb3:=hbe.grown hg3 hbe.size (fun j hj=>(hown0.lt j hj).1);rw[←strsV_append,List.nil_append] at hown3;have hslp:Sl (w3.alloc (.cells #[.string (bstr x)] 9)) (some ⟨w3.heap.size,0,none⟩) 1 (strsV [x]):=sl_made (strsV [x]) rfl 1 rfl;have howna:=hown3.alloc (.cells #[.string (bstr x)] 9);have hbe2:=hb3.alloc hb3.size (.cells #[.string (bstr x)] 9);clear tok)
       | (at_builtin;refine wpList_append_sl rfl (.tmp 48) (.tmp 50) 23 rfl w1.heap.size 9 i0 _ 16 Tryz.underlying23 hi hz0 hz1 hz2 rfl _ (0+l.length) (strsV l) rfl howna (some ⟨w3.heap.size,0,none⟩) 1 1 (strsV [x]) rfl rfl hslp (strsV_one _) n3 n4 hbe2.size ?_;intro v4 w4 hown4 hg4;have hb4:=hbe2.grown hg4 hbe2.size (fun j hj=>(howna.lt j hj).1);rw[←strsV_append] at hown4;obtain⟨B4,d4,rfl,-,hsv4⟩:=Sl.of_own hown4))
      go_roundw
      case rel=>exact⟨k+1,l++[x],B4,d4,by omega,by go_num,by rw[List.length_append];rfl,hsv4,by rw[List.length_append];simp;omega,fun y hy=>by rcases List.mem_append.1 hy with h | h;exact HL64.out y h;rw[List.mem_singleton.1 h];exact hx64,HN.out,hb4⟩
      case measure=>simp[intOf];omega
   ·obtain rfl:k=ps.length:=by omega
    have HF:=Lib.hid (show V=if (joinP l).length≤256 then some (joinP l) else none from HN2.out l (by rw[←hgo,List.drop_length];rfl))
    have HL64:=Lib.hid hl64
    have hBw:=hB1.trans (hbr.mono hB1.size)
    clear hgo hl64 HN1 HN2 hsl HM hbr
    go_wp2
    go_loop [7,55] (fun v i=>∃j:Nat,j≤l.length∧i=.int .i64 j∧v=.string (bstr (flatP (l.take j)))) (fun _ i=>l.length - (intOf i).toNat)
    case atStart=>exact⟨0,by omega,rfl,rfl⟩
    case round =>
     obtain⟨j,hj,rfl,rfl⟩:=hrel
     by_cases hjl:j < l.length
     ·have hjl':(j:Int) < (l.length:Int):=by omega
      obtain⟨b,o,rfl,-,-⟩:=hsv.rd.get (i:=j) (by rw[length_strsV];exact hjl)
      have hixs:=index_strs (some ⟨b,o,none⟩) b o l.length d j rfl hjl
      have hce:=strs_cell hsv j hjl
      have HT:=Lib.hid (flatP_take l j hjl)
      have hx64:=HL64.out (l.getD j []) (by rw[List.getD_eq_getElem?_getD,List.getElem?_eq_getElem hjl];exact List.getElem_mem hjl)
      have hfl:=flatP_le (l.take j) (fun y hy=>HL64.out y (List.mem_of_mem_take hy))
      rw[List.length_take] at hfl
      generalize l.getD j []=x at *
      generalize flatP (l.take j)=F at *
      have hzx:=size_bstr x
      have hzF:=size_bstr F
      have hc1:({ data:=#[47] } : ByteArray)++bstr x=bstr (47 :: x):=bstr_cat12 [47] x
      have hc2:bstr F++bstr (47 :: x)=bstr (F++47 :: x):=bstr_cat12 F (47 :: x)
      have hz1:(bstr (47 :: x)).size=x.length+1:=size_bstr _
      go_wp2
      go_round
      case rel=>exact⟨j+1,by omega,by go_num,by rw[HT.out]⟩
      case measure=>simp[intOf];omega
     ·obtain rfl:j=l.length:=by omega
      rw[List.take_length]
      by_cases he:l=[]
      ·have HX:=Lib.hid (show V=some [47] by rw[HF.out,he];rfl)
       have e0:(bstr (flatP l)).toList.isEmpty=true:=by rw[he,bstr_toList];rfl
       have hlt':¬((l.length:Int) < (l.length:Int)):=by omega
       generalize bstr (flatP l)=Q at *
       clear HF he
       go_wp2
       go_ret2
       exact⟨by rw[HX.out];rfl,hBw⟩
      ·have hfe:flatP l≠[]:=fun h=>he ((flatP_eq_nil l).1 h)
       have e0:(bstr (flatP l)).toList.isEmpty=false:=by
        rw[bstr_toList]
        cases hq:flatP l with
        | nil=>exact absurd hq hfe
        | cons _ _=>rfl
       have hj2:joinP l=flatP l:=by rw[joinP_flat,if_neg he]
       have hzF:=size_bstr (flatP l)
       rw[hj2] at HF
       generalize flatP l=F at *
       by_cases hl2:F.length≤256
       ·have HX:=Lib.hid (show V=some F by rw[HF.out,if_pos hl2])
        have hl3:(F.length:Int)≤256:=by omega
        clear HF he hl2 hfe hj2
        go_wp2
        go_ret2
        exact⟨by rw[HX.out];rfl,hBw⟩
       ·have HX:=Lib.hid (show V=none by rw[HF.out,if_neg hl2])
        have hl3:(256:Int) < (F.length:Int):=by omega
        clear HF he hl2 hfe hj2
        go_wp2
        go_ret2
        exact⟨by rw[HX.out];rfl,hBw⟩
 ·have HW:=Lib.hid (show V=none by rw[HV.out];exact normL_head s h4)
  have a3:(((s.getD 0 0).toNat:Int)==47)=false:=by
   rw[beq_eq_false_iff_ne]
   intro h
   exact h4 (UInt8.toNat_inj.1 (by rw[show (47:UInt8).toNat=47 from rfl];omega))
  generalize s.getD 0 0=y at *
  clear HV h3 h4
  go_enter Tryz.func33,Tryz.ntmps33
  go_wp2
  go_ret2
  exact⟨by rw[HW.out];rfl,Below.refl _ _⟩
structure Req where
 op:List UInt8
 path:List UInt8
 src:Adr
 cost:Nat
structure Req.Ok (r:Req):Prop where
 src:r.src.Ok
 cost:r.cost < 2^64
 op:r.op.length≤1000
 path:r.path.length≤1000
def reqV (r:Req):List Value:=[.string (bstr r.op),.string (bstr r.path)]++(adrV r.src++[.float .f64 r.cost])
def pathHolds (top:List UInt8) (o:Option (List UInt8)):Bool:=o.isSome&&underL top (o.getD [])
def holdsL (p:Prd) (r:Req) (t:Nat):Bool :=
 if textP p=[] then false
 else if p.kind=1 then decide (t < p.time)
 else if p.kind=2 then decide (p.time≤t)
 else if p.kind=3 then decide (r.op∈p.names)
 else if p.kind=4 then pathHolds p.path (normL r.path)
 else if p.kind=5 then hasR p.net r.src
 else atMostC r.cost p.cost
def holdsT (s:List UInt8) (r:Req) (t:Nat):Bool:=(parseP s).isSome&&holdsL ((parseP s).getD zeroP) r t
theorem length_reqV (r:Req) (h:r.src.Ok):(reqV r).length=20:=by
 unfold reqV
 rw[List.length_append,List.length_append,length_adrV h];rfl
theorem size_req:(Tryz.prog.info? 33).map (·.size)=some 20:=by kernel_rfl
theorem reqV_one (r:Req):(reqV r).toArray.all (·.oneCell')=true:=by
 have h:=adrV_one' r.src
 rw[List.all_toArray] at h ⊢
 unfold reqV
 rw[List.all_append,List.all_append,h];rfl
theorem path_right (p:Prd) (h:textP p≠[]) (hk:p.kind=4):rightL p.path=true:=by
 obtain⟨h2,-,-,-⟩:=textP_ne p h
 unfold wordsP at h2
 rw[if_neg (by rw[hk];decide),if_neg (by rw[hk];decide),if_neg (by rw[hk];decide)] at h2
 cases hr:rightL p.path with
 | true=>rfl
 | false =>
  rw[if_neg (fun h=>by rw[hr] at h;cases h.2),if_neg (by rw[hk];decide),if_neg (by rw[hk];decide)] at h2
  exact absurd rfl h2
theorem right_len (p:List UInt8) (h:rightL p=true):p.length≤256:=by
 unfold rightL at h
 split at h
 ·rename_i r
  rw[Bool.or_eq_true,Bool.and_eq_true,decide_eq_true_iff,decide_eq_true_iff] at h
  rcases h with h | ⟨h,-⟩
  ·rw[h];decide
  ·rw[List.length_cons];exact h
 ·cases h
theorem norm_len (s p:List UInt8) (h:normL s=some p):p.length≤256:=right_len p (normL_right s p h).1
theorem prdV_one (p:Prd) (A:Option Addr) (c:Nat):(prdV p A c).toArray.all (·.oneCell')=true:=by
 have h:=rngV_one' p.net
 rw[List.all_toArray] at h ⊢
 unfold prdV
 rw[List.all_append,List.all_append,h];rfl
theorem prd_zero:prdV zeroP none 0=[Value.int .i64 0,.int .u64 0,.slice none 0 0,.string { data:=#[] },.bool false,.int .u8 0,.int .u8 0,.int .u8 0,.int .u8 0,.int .u8 0,.int .u8 0,.int .u8 0,.int .u8 0,.int .u8 0,.int .u8 0,.int .u8 0,.int .u8 0,.int .u8 0,.int .u8 0,.int .u8 0,.int .u8 0,.int .i64 0,.float .f64 0]:=rfl
theorem index_prd (A:Option Addr) (b o n c k:Nat) (hA:A=some ⟨b,o,none⟩) (hk:k < n) (w:World) :
  (Instr.indexAt 44 (.slice A n c) (.int .i64 k)).run Tryz.prog w=.ok (.pointer (some ⟨b,o+k*23,none⟩)) w:=by
 subst hA
 have h:(k:Int) < (n:Int):=by omega
 go_simp
theorem wpList_sliceN {P:Program} {w w':World} {ops:Array Oper} {rest:List Oper} {o:Oper} {a:Act} {Q:Exit→Act→World→Prop} (hgd:o.guard=none) (ty:TypeId) (n:Nat) (parts:List (Nat×Operand)) (ho:o.op=.buildSlice ty n parts.toArray) (vals:List (Nat×Value)) (hx:parts.map (fun p=>(p.1,a.eval p.2))=vals) (v:Value)
  (hv:(Instr.buildSlice ty n vals.toArray).run P w=.ok v w') (h:wpList P ops Q rest (a.put o.dst v) w'):wpList P ops Q (o :: rest) a w:=by
 refine wpList_plain hgd fun _ hK=>?_
 subst hx
 unfold Oper.wp execOp
 simp only[ho,Sem.run_bind,Sem.run_pure,Result.andThen_ok,List.map_toArray,hv]
 exact hK _ _ h
theorem build_3 (A:Option Addr) (l:List (List UInt8)) (c:Nat) (w:World):(Instr.build 31 #[(0,.int .i64 3),(2,.slice A l.length c)]).run Tryz.prog w=.ok (.agg (prdV ⟨3,0,l,[],zeroR,0⟩ A c).toArray) w:=by
 go_simp
 rfl
theorem build_4 (b:List UInt8) (w:World):(Instr.build 31 #[(0,.int .i64 4),(3,.string (bstr b))]).run Tryz.prog w=.ok (.agg (prdV ⟨4,0,[],b,zeroR,0⟩ none 0).toArray) w:=by
 go_simp
 rfl
theorem build_6 (c:Nat) (w:World):(Instr.build 31 #[(0,.int .i64 6),(5,.float .f64 c)]).run Tryz.prog w=.ok (.agg (prdV ⟨6,0,[],[],zeroR,c⟩ none 0).toArray) w:=by
 go_simp
 rfl
theorem fold_off (V:List Value) (off:Nat):∀(k:Nat) (Z:Array Value),(V.zipIdx k).foldl (fun cs x=>cs.setIfInBounds (off+x.2) x.1) Z=(V.zipIdx (off+k)).foldl (fun cs x=>cs.setIfInBounds x.2 x.1) Z:=by
 induction V with
 | nil=>intro k Z;rfl
 | cons v V ih =>
  intro k Z
  rw[List.zipIdx_cons,List.zipIdx_cons,List.foldl_cons,List.foldl_cons]
  exact ih (k+1) _
set_option maxHeartbeats 2000000 in
theorem build_5 (V:List Value) (h:V.length=18) (w:World):(Instr.build 31 #[(0,.int .i64 5),(4,.agg V.toArray)]).run Tryz.prog w=.ok (.agg ([Value.int .i64 5,.int .u64 0,.slice none 0 0,.string { data:=#[] }]++(V++[Value.float .f64 0])).toArray) w:=by
 have hz:=set_zip13 V 4 [Value.int .i64 5,.int .u64 0,.slice none 0 0,.string { data:=#[] },.bool false,.int .u8 0,.int .u8 0,.int .u8 0,.int .u8 0,.int .u8 0,.int .u8 0,.int .u8 0,.int .u8 0,.int .u8 0,.int .u8 0,.int .u8 0,.int .u8 0,.int .u8 0,.int .u8 0,.int .u8 0,.int .u8 0,.int .i64 0,.float .f64 0] (by rw[h];decide)
 rw[h] at hz
 have e:([Value.int .i64 5,.int .u64 0,.slice none 0 0,.string { data:=#[] },.bool false,.int .u8 0,.int .u8 0,.int .u8 0,.int .u8 0,.int .u8 0,.int .u8 0,.int .u8 0,.int .u8 0,.int .u8 0,.int .u8 0,.int .u8 0,.int .u8 0,.int .u8 0,.int .u8 0,.int .u8 0,.int .u8 0,.int .i64 0,.float .f64 0].take 4++V++[Value.int .i64 5,.int .u64 0,.slice none 0 0,.string { data:=#[] },.bool false,.int .u8 0,.int .u8 0,.int .u8 0,.int .u8 0,.int .u8 0,.int .u8 0,.int .u8 0,.int .u8 0,.int .u8 0,.int .u8 0,.int .u8 0,.int .u8 0,.int .u8 0,.int .u8 0,.int .u8 0,.int .u8 0,.int .i64 0,.float .f64 0].drop (4+18))=[Value.int .i64 5,.int .u64 0,.slice none 0 0,.string { data:=#[] }]++(V++[Value.float .f64 0]):=by
  show ([Value.int .i64 5,.int .u64 0,.slice none 0 0,.string { data:=#[] }]++V)++[Value.float .f64 0]=_
  rw[List.append_assoc]
 rw[e,show (4:Nat)=4+0 from rfl,←fold_off] at hz
 clear e
 go_simp
theorem two_boxes {w w1:World} {Q P:List Value} {t u:TypeId} (h:(w.alloc (.cells Q.toArray t)).alloc (.cells P.toArray u)=w1):Row w1 w.heap.size t Q∧Row w1 (w.heap.size+1) u P∧Below w.heap.size w w1:=by
 subst h
 have h1:Row (w.alloc (.cells Q.toArray t)) w.heap.size t Q:=Row.new w _ _
 have hb1:Below w.heap.size w (w.alloc (.cells Q.toArray t)):=(Below.refl _ w).alloc (Nat.le_refl _) _
 have hb2:Below (w.alloc (.cells Q.toArray t)).heap.size (w.alloc (.cells Q.toArray t)) ((w.alloc (.cells Q.toArray t)).alloc (.cells P.toArray u)):=(Below.refl _ _).alloc (Nat.le_refl _) _
 have h2:Row ((w.alloc (.cells Q.toArray t)).alloc (.cells P.toArray u)) (w.alloc (.cells Q.toArray t)).heap.size u P:=Row.new _ _ _
 have hs:(w.alloc (.cells Q.toArray t)).heap.size=w.heap.size+1:=Array.size_push _
 rw[hs] at h2
 exact⟨h1.later hb2 h1.lt,h2,hb1.trans (hb2.mono hb1.size)⟩
theorem req_cells {w:World} {g:Nat} {t:TypeId} {r:Req} (hn:r.src.Ok) (h:Row w g t (reqV r)) :
  w.cell? ⟨g,0,none⟩=some (.string (bstr r.op))∧w.cell? ⟨g,1,none⟩=some (.string (bstr r.path))∧w.rangeAt g 2 (adrV r.src)∧w.cell? ⟨g,19,none⟩=some (.float .f64 r.cost):=by
 refine⟨by rw[h.cell];rfl,by rw[h.cell];rfl,range_of_row (A:=[_,_]) (B:=adrV r.src) (C:=[.float .f64 r.cost]) h,?_⟩
 rw[h.cell]
 unfold reqV
 rw[List.getElem?_append_right (by simp),List.getElem?_append_right (by rw[length_adrV hn];simp),length_adrV hn]
 rfl
theorem one_box {w w1:World} {Q:List Value} {t:TypeId} (h:w.alloc (.cells Q.toArray t)=w1):Row w1 w.heap.size t Q∧Below w.heap.size w w1:=by
 subst h
 exact⟨Row.new w _ _,(Below.refl _ w).alloc (Nat.le_refl _) _⟩
end Go.Proofs.YtjieebmcbpdeiaaGreatDoor
