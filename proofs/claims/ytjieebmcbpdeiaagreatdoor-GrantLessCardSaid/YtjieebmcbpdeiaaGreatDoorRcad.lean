import Derived.Test.YtjieebmcbpdeiaaGreatDoorRcac
import Derived.Test.YtjieebmcbpdeiaaGreatDoorRcaa
import Derived.ChangeKeysEq
import Derived.Laws.StructEq
import Derived.Test.YtjieebmcbpdeiaaGreatDoorRcab
import Derived.Great.FillDense
import Derived.Great.BuildSlice
import Derived.Maps.AppendAt
namespace Go.Proofs.YtjieebmcbpdeiaaGreatDoor
set_option maxRecDepth 100000
open Go Go.RowKit
theorem rank_zero (b:Nat) (h:magC b=0):rankC b=0:=by
 unfold rankC;rw[h];cases negC b<;>rfl
theorem rank_pos (b:Nat) (h:magC b≠0):rankC b≠0:=by
 unfold rankC;cases negC b<;>simp<;>omega
theorem nan_zero:nanC 0=false:=by decide
theorem order_zero (b:Nat) (hb:b < 2^64) (hn:nanC b=false) (h:magC b=0):FloatKind.f64.format.order b 0=some .eq:=by
 rw[order_of b 0 hb (by omega),if_neg (by rw[hn,nan_zero];simp),rank_zero b h,rank_zero 0 (by decide),compare_self]
theorem order_other (b:Nat) (hb:b < 2^64) (hn:nanC b=false) (h:magC b≠0):(FloatKind.f64.format.order b 0=some .lt∨FloatKind.f64.format.order b 0=some .gt):=by
 rw[order_of b 0 hb (by omega),if_neg (by rw[hn,nan_zero];simp),rank_zero 0 (by decide)]
 have h0:=rank_pos b h
 rcases Int.lt_trichotomy (rankC b) 0 with h1 | h1 | h1
 ·exact .inl (by rw[cmp_lt h1])
 ·exact absurd h1 h0
 ·exact .inr (by rw[cmp_gt h1])
theorem text_nan (b:Nat) (h:nanC b=true):textC b=[]:=by unfold textC;rw[if_pos h]
theorem text_of (b:Nat) (h:nanC b=false):textC b=(if negC b then [45] else [])++bodyC (magC b):=by unfold textC;rw[if_neg (by rw[h];simp)]
theorem body_fin (a:Nat) (h0:a≠0) (h1:a≠2047*2^52):bodyC a=numL 10 (oddC (sigC a))++112 :: intL (powC a+twosC (sigC a)):=by unfold bodyC;rw[if_neg h0,if_neg h1]
theorem fin_bounds (b:Nat) (hn:nanC b=false) (h0:magC b≠0) (h1:magC b≠2047*2^52):0 < oddC (sigC (magC b))∧oddC (sigC (magC b)) < 2^53∧-1074≤powC (magC b)+twosC (sigC (magC b))∧powC (magC b)+twosC (sigC (magC b))≤1100:=by
 have hle:magC b < 2047*2^52:=by
  unfold nanC at hn
  have:=of_decide_eq_false hn
  omega
 have hf:FinC (magC b):=⟨by omega,hle⟩
 have hs:=sig_pos _ hf
 obtain⟨g1,-⟩:=fit_of _ hf
 obtain⟨o1,o2⟩:=odd_twos (sigC (magC b)) (by omega)
 have hsl:sigC (magC b) < 2^53:=by rcases g1 with ⟨_,h,_⟩ | ⟨_,h,_,_⟩<;>omega
 have hpow:-1074≤powC (magC b)∧powC (magC b)≤971:=by rcases g1 with ⟨_,_,h⟩ | ⟨_,_,h,h'⟩<;>omega
 have ht:=twos_le (sigC (magC b)) 53 hs hsl
 have hle2:oddC (sigC (magC b))≤oddC (sigC (magC b))*2^twosC (sigC (magC b)):=Nat.le_mul_of_pos_right _ (Nat.pow_pos (by omega))
 rw[←o2] at hle2
 refine⟨by omega,by omega,by omega,by omega⟩
def flatP (l:List (List UInt8)):List UInt8:=l.flatMap fun w=>47 :: w
theorem flatP_app (l k:List (List UInt8)):flatP (l++k)=flatP l++flatP k:=by unfold flatP;rw[List.flatMap_append]
theorem flatP_one (w:List UInt8):flatP [w]=47 :: w:=by unfold flatP;simp
theorem flatP_eq_nil (l:List (List UInt8)):flatP l=[]↔l=[]:=by
 cases l with
 | nil=>exact⟨fun _=>rfl,fun _=>rfl⟩
 | cons w l=>constructor<;>intro h<;>cases h
theorem flatP_last (l:List (List UInt8)) (h:l≠[]):flatP l=flatP l.dropLast++47 :: l.getLast h:=by
 conv=>lhs;rw[←List.dropLast_concat_getLast h]
 rw[flatP_app,flatP_one]
theorem joinP_flat (l:List (List UInt8)):joinP l=if l=[] then [47] else flatP l:=rfl
def alongL (l:List (List UInt8)) (w:List UInt8):Option (List (List UInt8)) :=
 if w=[]∨w=[46] then some l
 else if w=[46,46] then (if l=[] then none else some l.dropLast)
 else if nameL w then some (l++[w]) else none
theorem goN_along (l:List (List UInt8)) (w:List UInt8) (ws:List (List UInt8)):goN l (w :: ws)=match alongL l w with
  | none=>none
  | some k=>goN k ws:=by
 rw[goN]
 unfold alongL
 split
 ·rfl
 ·split
  ·split<;>rfl
  ·split<;>rfl
theorem along_names (l k:List (List UInt8)) (w:List UInt8) (hl:∀v∈l,nameL v=true) (h:alongL l w=some k):∀v∈k,nameL v=true:=by
 refine goN_names [w] l k hl ?_
 rw[goN_along,h];rfl
theorem nameL_len (w:List UInt8) (h:nameL w=true):w.length≤64:=by
 unfold nameL at h
 simp only[Bool.and_eq_true,decide_eq_true_iff] at h
 exact h.1.1.1.2
theorem right_norm (p:List UInt8):rightL p=decide (normL p=some p):=by
 by_cases h:rightL p=true
 ·rw[h]
  symm
  rw[decide_eq_true_iff]
  obtain⟨r,rfl⟩:=right_head p h
  by_cases hr:r=[]
  ·subst hr;rfl
  ·have h':(decide (r=[])||(decide (r.length+1≤256)&&(splitL 47 r).all nameL))=true:=h
   rw[decide_eq_false hr,Bool.false_or,Bool.and_eq_true,decide_eq_true_iff,List.all_eq_true] at h'
   obtain⟨h1,h2⟩:=h'
   have he:=splitL_ne 47 r
   have e1:=(joinP_split (splitL 47 r) he h2).1
   rw[glueL_split] at e1
   show (match goN [] (splitL 47 r) with
    | none=>none
    | some l=>if (joinP l).length≤256 then some (joinP l) else none)=_
   rw[goN_self (splitL 47 r) [] h2,List.nil_append]
   show (if (joinP (splitL 47 r)).length≤256 then some (joinP (splitL 47 r)) else none)=_
   rw[e1,if_pos (by rw[List.length_cons];exact h1)]
 ·have hf:rightL p=false:=by simpa using h
  rw[hf]
  symm
  rw[decide_eq_false_iff_not]
  intro e
  exact h (normL_right p p e).1
theorem namesL_right (p r:List UInt8) (h:rightL p=true) (e:p=47 :: r) (hr:r≠[]):namesL p=splitL 47 r:=by
 subst e
 show (if rightL (47 :: r)=true∧r≠[] then splitL 47 r else [])=_
 rw[if_pos ⟨h,hr⟩]
theorem namesL_off (p:List UInt8) (h:rightL p=false∨p=[47]):namesL p=[]:=by
 rcases h with h | h
 ·unfold namesL
  split
  ·rw[if_neg]
   rintro ⟨h1,-⟩
   rw[h] at h1;cases h1
  ·rfl
 ·subst h;rfl
def underN (top p:List UInt8):Bool:=rightL top&&rightL p&&(decide ((namesL top).length≤(namesL p).length)&&decide (namesL top=(namesL p).take (namesL top).length))
theorem underN_eq (top p:List UInt8):underN top p=underL top p:=by
 unfold underN underL
 by_cases h1:rightL top=true
 ·by_cases h2:rightL p=true
  ·rw[h1,h2,Bool.true_and,Bool.true_and]
   obtain⟨r,rfl⟩:=right_head top h1
   obtain⟨q,rfl⟩:=right_head p h2
   by_cases hr:r=[]
   ·subst hr
    rw[namesL_off [47] (.inr rfl)]
    simp
   ·have n1:=namesL_right _ r h1 rfl hr
    have hL:=splitL_ne 47 r
    have hrl:0 < r.length:=List.length_pos_iff.2 hr
    have hne:(47:UInt8) :: r≠[47]:=fun e=>hr (List.cons.inj e).2
    by_cases hq:q=[]
    ·subst hq
     rw[n1,namesL_off [47] (.inr rfl),decide_eq_false hne,decide_eq_false (show ¬[47]=(47:UInt8) :: r from fun e=>hne e.symm),decide_eq_false (show ¬((47:UInt8) :: r).length < [(47:UInt8)].length by simp)]
     rw[decide_eq_false (show ¬(splitL 47 r).length≤([]:List (List UInt8)).length by
      intro h;exact hL (List.length_eq_zero_iff.1 (Nat.le_zero.1 h)))]
     rfl
    ·have n2:=namesL_right _ q h2 rfl hq
     rw[n1,n2,decide_eq_false hne,Bool.false_or]
     rw[Bool.eq_iff_iff]
     simp only[Bool.and_eq_true,Bool.or_eq_true,decide_eq_true_iff]
     constructor
     ·rintro ⟨-,h4⟩
      have e:splitL 47 q=splitL 47 r++(splitL 47 q).drop (splitL 47 r).length:=by
       conv=>lhs;rw[←List.take_append_drop (splitL 47 r).length (splitL 47 q),←h4]
      by_cases hd:(splitL 47 q).drop (splitL 47 r).length=[]
      ·refine⟨trivial,.inl ?_⟩
       rw[hd,List.append_nil] at e
       rw[←glueL_split 47 q,e,glueL_split]
      ·refine⟨trivial,.inr ?_⟩
       have e2:q=r++47 :: glueL 47 ((splitL 47 q).drop (splitL 47 r).length):=by
        conv=>lhs;rw[←glueL_split 47 q,e,glueL_app 47 _ _ hL hd,glueL_split]
       generalize glueL 47 ((splitL 47 q).drop (splitL 47 r).length)=z at e2
       subst e2
       refine⟨⟨by simp,?_⟩,?_⟩
       ·rw[List.length_cons,List.take_succ_cons,List.take_left'];rfl
       ·rw[List.getD_eq_getElem?_getD,List.length_cons,List.getElem?_cons_succ,List.getElem?_append_right (Nat.le_refl _),Nat.sub_self];rfl
     ·rintro ⟨-,h | ⟨⟨h3,h4⟩,h5⟩⟩
      ·have e:=(List.cons.inj h).2
       subst e
       exact⟨Nat.le_refl _,by rw[List.take_length]⟩
      ·have e:q=r++47 :: q.drop (r.length+1):=by
        rw[List.length_cons,List.take_succ_cons] at h4
        have h4':q.take r.length=r:=(List.cons.inj h4).2
        rw[List.length_cons,List.length_cons] at h3
        have hlt:r.length < q.length:=by omega
        rw[List.length_cons,List.getD_eq_getElem?_getD,List.getElem?_cons_succ,List.getElem?_eq_getElem hlt] at h5
        have h5':q[r.length]=47:=h5
        conv=>lhs;rw[←List.take_append_drop r.length q,h4',List.drop_eq_getElem_cons hlt,h5']
       have e3:splitL 47 q=splitL 47 r++splitL 47 (q.drop (r.length+1)):=by
        conv=>lhs;rw[e]
        exact splitL_app 47 r _
       rw[e3]
       refine⟨by rw[List.length_append];omega,?_⟩
       rw[List.take_left'];rfl
  ·have hf:rightL p=false:=by simpa using h2
   rw[hf,Bool.and_false,Bool.false_and,Bool.false_and]
 ·have hf:rightL top=false:=by simpa using h1
  rw[hf];rfl
theorem names_sum (p:List UInt8):(namesL p).length≤p.length+1:=by
 unfold namesL
 split
 ·split
  ·have:=splitL_len 47 ‹_›;rw[List.length_cons];omega
  ·simp
 ·simp
theorem bstr_is (l k:List UInt8):((bstr l).toList==k)=decide (l=k):=by
 rw[bstr_toList,Bool.eq_iff_iff,beq_iff_eq,decide_eq_true_iff]
theorem tail_bstr (x:UInt8) (r:List UInt8) (n:Nat) (h:n=r.length+1):(bstr (x :: r)).extract 1 n=bstr r:=by
 subst h
 rw[extract_bstr12,List.drop_succ_cons,List.drop_zero,Nat.add_sub_cancel,List.take_length]
def prdV (p:Prd) (A:Option Addr) (c:Nat):List Value:=[.int .i64 p.kind,.int .u64 (p.time:Int),.slice A p.names.length c,.string (bstr p.path)]++(rngV p.net++[.float .f64 p.cost])
theorem length_prdV (p:Prd) (h:p.net.a.Ok) (A:Option Addr) (c:Nat):(prdV p A c).length=23:=by
 unfold prdV
 rw[List.length_append,List.length_append,length_rngV' _ h];rfl
theorem size_prd:(Tryz.prog.info? 31).map (·.size)=some 23:=by kernel_rfl
theorem prd_cells {w:World} {g:Nat} {t:TypeId} {p:Prd} {A:Option Addr} {c:Nat} (hn:p.net.a.Ok) (h:Row w g t (prdV p A c)) :
  w.cell? ⟨g,0,none⟩=some (.int .i64 p.kind)∧w.cell? ⟨g,1,none⟩=some (.int .u64 (p.time:Int))∧w.cell? ⟨g,2,none⟩=some (.slice A p.names.length c)∧w.cell? ⟨g,3,none⟩=some (.string (bstr p.path)) ∧
  w.rangeAt g 4 (rngV p.net)∧w.cell? ⟨g,22,none⟩=some (.float .f64 p.cost):=by
 refine⟨by rw[h.cell];rfl,by rw[h.cell];rfl,by rw[h.cell];rfl,by rw[h.cell];rfl,range_of_row (A:=[_,_,_,_]) (B:=rngV p.net) (C:=[.float .f64 p.cost]) h,?_⟩
 rw[h.cell]
 unfold prdV
 rw[List.getElem?_append_right (by simp),List.getElem?_append_right (by rw[length_rngV' _ hn];simp),length_rngV' _ hn]
 rfl
structure PrdAt (w:World) (p:Prd) (A:Option Addr) (c:Nat):Prop where
 ok:p.Ok
 names:Sl w A c (strsV p.names)
 lo:-9223372036854775808≤p.kind
 hi:p.kind≤9223372036854775807
 path:p.path.length≤4000
 sum:sumS p.names≤4000
theorem cells_byte:Tryz.prog.cellsOf 5=1:=by kernel_rfl
theorem part_byte (xs:List UInt8) (i:Nat) (h:i < xs.length) (w:World):(Go.part 5 (byts xs).toArray (i*1)).run Tryz.prog w=.ok (.int .u8 ((xs.getD i 0).toNat:Int)) w:=by
 have hc:(byts xs).toArray[i*1]?=some (.int .u8 ((xs.getD i 0).toNat:Int)):=by
  rw[Nat.mul_one,List.getElem?_toArray,get_byts _ _ h]
 simp only[Go.part,isAgg,Sem.run_bind,run_underlying Tryz.underlying5,Result.andThen_ok,Sem.run_pure,hc]
 rfl
theorem run_items (xs ys:List UInt8) (is:List Nat) (hx:∀i∈is,i < xs.length) (hy:∀i∈is,i < ys.length) (w:World) :
  (Op.eqItems 9999 5 1 (byts xs).toArray (byts ys).toArray is).run Tryz.prog w=.ok (is.all fun i=>decide (xs.getD i 0=ys.getD i 0)) w:=by
 induction is with
 | nil=>simp[Op.eqItems]
 | cons i is ih =>
  have h:=ih (fun j hj=>hx j (by simp[hj])) (fun j hj=>hy j (by simp[hj]))
  simp only[Op.eqItems,Sem.run_bind,part_byte xs i (hx i (by simp)) w,part_byte ys i (hy i (by simp)) w,Result.andThen_ok,run_equalIn_int w 9998 5 .u8 .u8 _ _ Tryz.underlying5,List.all_cons]
  generalize xs.getD i 0=a
  generalize ys.getD i 0=b
  by_cases e:a=b
  ·subst e
   simp only[BEq.rfl,Bool.not_true,Bool.false_eq_true,if_false,decide_true,Bool.true_and,h]
  ·have e':((a.toNat:Int)==(b.toNat:Int))=false:=by
    rw[beq_eq_false_iff_ne]
    intro h
    exact e (UInt8.toNat_inj.1 (by omega))
   simp only[e',e,Bool.not_false,if_true,decide_false,Bool.false_and,Sem.run_pure]
theorem all_getD (xs ys:List UInt8) (h:xs.length=ys.length):((List.range xs.length).all fun i=>decide (xs.getD i 0=ys.getD i 0))=decide (xs=ys):=by
 rw[Bool.eq_iff_iff,List.all_eq_true,decide_eq_true_iff]
 constructor
 ·intro hall
  apply List.ext_getElem h
  intro i h1 h2
  have:=hall i (by simpa using h1)
  simpa [h1,h2] using this
 ·rintro rfl i _
  simp
theorem run_eq_bytes (t:TypeId) (n:Nat) (i0:TypeInfo) (hu:Tryz.prog.underlying t=some (.array n 5)) (hi:Tryz.prog.info? 5=some i0) (xs ys:List UInt8) (hx:xs.length=n) (hy:ys.length=n) (w:World) :
  (Op.equalIn 10000 t (.agg (byts xs).toArray) (.agg (byts ys).toArray)).run Tryz.prog w=.ok (decide (xs=ys)) w:=by
 rw[run_equalIn_array w 9999 _ _ hu hi,cells_byte,run_items xs ys (List.range n) (fun i h=>by rw[hx];simpa using h) (fun i h=>by rw[hy];simpa using h) w,←hx,all_getD xs ys (by rw[hx,hy])]
theorem part_v6 (a:Adr) (w:World):(Go.part 4 (adrV a).toArray 0).run Tryz.prog w=.ok (.bool a.v6) w:=by
 simp only[Go.part,isAgg,Sem.run_bind,run_underlying Tryz.underlying4,Result.andThen_ok,Sem.run_pure]
 rfl
theorem isAgg16 (w:World):(isAgg 24).run Tryz.prog w=.ok true w:=by kernel_rfl
theorem sizeOf16 (w:World):(sizeOf 24).run Tryz.prog w=.ok 16 w:=by kernel_rfl
theorem part_b (a:Adr) (h:a.Ok) (w:World):(Go.part 24 (adrV a).toArray 1).run Tryz.prog w=.ok (.agg (byts a.b).toArray) w:=by
 have e:(adrV a).toArray.extract 1 17=(byts a.b).toArray:=by
  rw[List.extract_toArray]
  unfold adrV
  congr 1
  show (byts a.b).take 16=byts a.b
  exact List.take_of_length_le (by rw[length_byts,h];exact Nat.le_refl _)
 simp only[Go.part,Sem.run_bind,isAgg16,Result.andThen_ok,if_true,sizeOf16,Sem.run_pure]
 rw[e]
theorem run_items_d (d:Nat) (xs ys:List UInt8) (is:List Nat) (hx:∀i∈is,i < xs.length) (hy:∀i∈is,i < ys.length) (w:World) :
  (Op.eqItems (d+1) 5 1 (byts xs).toArray (byts ys).toArray is).run Tryz.prog w=.ok (is.all fun i=>decide (xs.getD i 0=ys.getD i 0)) w:=by
 induction is with
 | nil=>simp[Op.eqItems]
 | cons i is ih =>
  have h:=ih (fun j hj=>hx j (by simp[hj])) (fun j hj=>hy j (by simp[hj]))
  simp only[Op.eqItems,Sem.run_bind,part_byte xs i (hx i (by simp)) w,part_byte ys i (hy i (by simp)) w,Result.andThen_ok,run_equalIn_int w d 5 .u8 .u8 _ _ Tryz.underlying5,List.all_cons]
  generalize xs.getD i 0=a
  generalize ys.getD i 0=b
  by_cases e:a=b
  ·subst e
   simp only[BEq.rfl,Bool.not_true,Bool.false_eq_true,if_false,decide_true,Bool.true_and,h]
  ·have e':((a.toNat:Int)==(b.toNat:Int))=false:=by
    rw[beq_eq_false_iff_ne]
    intro h
    exact e (UInt8.toNat_inj.1 (by omega))
   simp only[e',e,Bool.not_false,if_true,decide_false,Bool.false_and,Sem.run_pure]
theorem eq_adr9 (a b:Adr) (ha:a.Ok) (hb:b.Ok) (w:World):(Op.equalIn 9999 26 (.agg (adrV a).toArray) (.agg (adrV b).toArray)).run Tryz.prog w=.ok (a.v6==b.v6&&decide (a.b=b.b)) w:=by
 rw[run_equalIn_struct w 9998 26 _ _ (by kernel_rfl) (by kernel_rfl)]
 obtain⟨i0,hi,_⟩:=info_parts infoByte
 have h16:(Op.equalIn 9998 24 (.agg (byts a.b).toArray) (.agg (byts b.b).toArray)).run Tryz.prog w=.ok (decide (a.b=b.b)) w:=by
  rw[run_equalIn_array w 9997 _ _ Tryz.underlying24 hi,cells_byte,run_items_d 9996 a.b b.b (List.range 16) (fun i h=>by rw[ha];simpa using h) (fun i h=>by rw[hb];simpa using h) w]
  have:=all_getD a.b b.b (by rw[ha,hb])
  rw[ha] at this
  rw[this]
 have hb4:=run_equalIn_bool' (P:=Tryz.prog) w 9997 4 a.v6 b.v6 Tryz.underlying4
 cases hv:(a.v6==b.v6)<;>cases hd:decide (a.b=b.b)<;>rw[hv] at hb4<;>rw[hd] at h16 <;>
  simp[Program.fieldsOf,Tryz.underlying26,Op.eqFields,Sem.run_bind,part_v6,part_b a ha,part_b b hb,hb4,h16]
theorem part_ra (r:Rng) (h:r.a.Ok) (w:World):(Go.part 26 (rngV r).toArray 0).run Tryz.prog w=.ok (.agg (adrV r.a).toArray) w:=by
 have e:(rngV r).toArray.extract 0 17=(adrV r.a).toArray:=by
  rw[List.extract_toArray]
  congr 1
  unfold rngV
  show (adrV r.a++[Value.int .i64 r.n]).take 17=adrV r.a
  exact List.take_left' (length_adrV h)
 have h1:(isAgg 26).run Tryz.prog w=.ok true w:=by kernel_rfl
 have h2:(sizeOf 26).run Tryz.prog w=.ok 17 w:=by kernel_rfl
 simp only[Go.part,Sem.run_bind,h1,Result.andThen_ok,if_true,h2,Sem.run_pure]
 rw[e]
theorem part_rn (r:Rng) (h:r.a.Ok) (w:World):(Go.part 3 (rngV r).toArray 17).run Tryz.prog w=.ok (.int .i64 r.n) w:=by
 have e:(rngV r).toArray[17]?=some (.int .i64 r.n):=by
  rw[List.getElem?_toArray]
  unfold rngV
  rw[List.getElem?_append_right (by rw[length_adrV h];exact Nat.le_refl _),length_adrV h];rfl
 simp only[Go.part,isAgg,Sem.run_bind,run_underlying Tryz.underlying3,Result.andThen_ok,Sem.run_pure]
 rw[if_neg (by decide),e];rfl
theorem eq_rng (a b:Rng) (ha:a.a.Ok) (hb:b.a.Ok) (w:World):(Op.equalIn 10000 28 (.agg (rngV a).toArray) (.agg (rngV b).toArray)).run Tryz.prog w=.ok ((a.a.v6==b.a.v6&&decide (a.a.b=b.a.b))&&a.n==b.n) w:=by
 rw[run_equalIn_struct w 9999 28 _ _ (by kernel_rfl) (by kernel_rfl)]
 have h1:=eq_adr9 a.a b.a ha hb w
 have h2:=run_equalIn_int (P:=Tryz.prog) w 9998 3 .i64 .i64 a.n b.n Tryz.underlying3
 cases hv:(a.a.v6==b.a.v6&&decide (a.a.b=b.a.b))<;>cases hd:(a.n==b.n)<;>rw[hv] at h1<;>rw[hd] at h2 <;>
  simp[Program.fieldsOf,Tryz.underlying28,Op.eqFields,Sem.run_bind,part_ra a ha,part_ra b hb,part_rn a ha,part_rn b hb,h1,h2]
theorem wpList_open {P:Program} {ops:Array Oper} {Q:Exit→Act→World→Prop} {a:Act} {w:World} {rest:List Oper} {d:Option Nat} {op:Op} {t:TypeId} {pos:String} {af:Array Edge} {g:Option (Nat×Bool)}
  (hw:Region.wanted ⟨d,op,t,pos,af,g⟩ (yielded ops a.tmps)=true) (h:wpList P ops Q (⟨d,op,t,pos,af,none⟩ :: rest) a w):wpList P ops Q (⟨d,op,t,pos,af,g⟩ :: rest) a w:=by
 unfold wpList at h ⊢
 rw[if_pos hw]
 rw[if_pos (show Region.wanted ⟨d,op,t,pos,af,none⟩ (yielded ops a.tmps)=true from rfl)] at h
 exact h
theorem bstr_empty17 (s:List UInt8):(bstr s).toList.isEmpty=decide (s=[]):=by
 rw[bstr_toList]
 cases s<;>rfl
theorem bstr_is15 (l k:List UInt8):((bstr l).toList==k)=decide (l=k):=by
 rw[bstr_toList,Bool.eq_iff_iff,beq_iff_eq,decide_eq_true_iff]
theorem text_len (b:Nat):(textC b).length≤100:=by
 cases hn:nanC b with
 | true=>rw[text_nan b hn];simp
 | false =>
  rw[text_of b hn,List.length_append]
  have h1:(if negC b=true then [(45:UInt8)] else []).length≤1:=by split<;>simp
  have h2:(bodyC (magC b)).length≤60:=by
   by_cases h0:magC b=0
   ·rw[h0];decide
   ·by_cases hi:magC b=2047*2^52
    ·rw[hi];decide
    ·obtain⟨b1,b2,b3,b4⟩:=fin_bounds b hn h0 hi
     rw[body_fin _ h0 hi,List.length_append,List.length_cons]
     have x1:=numL_len 10 (by omega) 20 (oddC (sigC (magC b))) (by omega)
     generalize powC (magC b)+(twosC (sigC (magC b)):Int)=P at *
     have x2:(intL P).length≤22:=by
      have:=numL_len 10 (by omega) 20 P.natAbs (by omega)
      unfold intL
      split
      ·rw[List.length_cons];omega
      ·omega
     omega
  omega
theorem PrdAt.later {w w':World} {p:Prd} {A:Option Addr} {c B:Nat} (h:PrdAt w p A c) (hB:w.heap.size≤B) (hb:Below B w w'):PrdAt w' p A c :=
 ⟨h.ok,h.names.later hB hb,h.lo,h.hi,h.path,h.sum⟩
theorem cat_blank17 (a b:List UInt8):bstr a++({ data:=#[32] } : ByteArray)++bstr b=bstr (a++32 :: b):=by
 rw[show ({ data:=#[32] } : ByteArray)=bstr [32] from rfl,bstr_cat12,bstr_cat12]
 congr 1
 simp
def sameP (p q:Prd):Bool:=decide (p.kind=q.kind)&&decide (p.time=q.time)&&decide (p.names=q.names)&&decide (p.path=q.path)&&sameR p.net q.net&&decide (p.cost=q.cost)
theorem sameP_iff (p q:Prd):sameP p q=true↔p=q:=by
 unfold sameP
 simp only[Bool.and_eq_true,decide_eq_true_iff,sameR_iff]
 constructor
 ·rintro ⟨⟨⟨⟨⟨h1,h2⟩,h3⟩,h4⟩,h5⟩,h6⟩
  obtain⟨k,t,ns,pa,r,c⟩:=p
  obtain⟨k',t',ns',pa',r',c'⟩:=q
  simp only at h1 h2 h3 h4 h5 h6
  subst h1 h2 h3 h4 h5 h6
  rfl
 ·rintro rfl
  exact⟨⟨⟨⟨⟨rfl,rfl⟩,rfl⟩,rfl⟩,rfl⟩,rfl⟩
def numAns (o:Option Nat):Value:=.tuple #[.int .u64 ((o.getD 0:Nat):Int),.bool o.isSome]
theorem words_far (s:List UInt8) (h0:s≠[]) (h:512 < s.length):wordsL s=none:=by
 unfold wordsL
 rw[if_neg h0,if_neg (fun k=>by omega)]
theorem words_ink (s:List UInt8) (h0:s≠[]) (h:s.all inkB=false):wordsL s=none:=by
 unfold wordsL
 rw[if_neg h0,if_neg (fun k=>by rw[h] at k;cases k.2.1)]
theorem words_split (s:List UInt8) (h0:s≠[]) (hl:s.length≤512) (h:s.all inkB=true):wordsL s=if (splitL 32 s).all (fun p=>decide (p≠[]))=true then some (splitL 32 s) else none:=by
 unfold wordsL
 rw[if_neg h0]
 by_cases hk:(splitL 32 s).all (fun p=>decide (p≠[]))=true
 ·rw[if_pos ⟨hl,h,hk⟩,if_pos hk]
 ·rw[if_neg (fun k=>hk k.2.2),if_neg hk]
theorem bstr_empty (s:List UInt8):(bstr s).toList.isEmpty=decide (s=[]):=by
 rw[bstr_toList]
 cases s<;>rfl
def parsV (o:Option Adr):Value:=match o with
 | none=>.tuple #[.agg (adrV zeroA).toArray,.bool false]
 | some a=>.tuple #[.agg (adrV a).toArray,.bool true]
theorem glue_sum (x:UInt8) (l:List (List UInt8)) (h:l≠[]):sumS l=(glueL x l).length+1:=by
 induction l with
 | nil=>exact absurd rfl h
 | cons p l ih =>
  cases l with
  | nil=>show (p.length+1+0)=p.length+1;rfl
  | cons q l =>
   have:=ih (by simp)
   show p.length+1+sumS (q :: l)=(p++x :: glueL x (q :: l)).length+1
   rw[this,List.length_append,List.length_cons];omega
theorem names_sum17 (s:List UInt8) (h:s.length≤3999):sumS ((namesC s).getD [])≤4000:=by
 unfold namesC
 split
 ·show sumS (splitL 44 s)≤4000
  have h1:=glue_sum 44 (splitL 44 s) (splitL_ne 44 s)
  rw[glueL_split 44 s] at h1
  omega
 ·decide
theorem cands_len (b:List UInt8):(candsP b).length=6:=rfl
def candQ (b:List UInt8) (j:Nat):Prd:=(candsP b).getD j zeroP
theorem cand_mem (b:List UInt8) (j:Nat) (h:j < 6):candQ b j∈candsP b:=by
 unfold candQ
 rw[List.getD_eq_getElem?_getD,List.getElem?_eq_getElem (by rw[cands_len];exact h)]
 exact List.getElem_mem _
theorem parsR_out (o:Option Rng):parsR o=.tuple #[.agg (rngV (o.getD zeroR)).toArray,.bool o.isSome]:=by cases o<;>rfl
def GavePrd (o:Option Prd) (w:World) (e:Ending) (w':World):Prop :=
 ∃(A:Option Addr) (c:Nat),e=.returned (.tuple #[.agg (prdV (o.getD zeroP) A c).toArray,.bool o.isSome])∧PrdAt w' (o.getD zeroP) A c∧Below w.heap.size w w'
theorem zero_at (w:World):PrdAt w zeroP none 0:=⟨zeroP_ok,sl_none16 w,by decide,by decide,by decide,by decide⟩
theorem PrdAt.apart {w w':World} {p:Prd} {A:Option Addr} {c g:Nat} (h:PrdAt w p A c) (hg:w.grownBy w' (some g)) (hne:∀a,A=some a→a.block≠g):PrdAt w' p A c :=
 ⟨h.ok,h.names.apart hg (fun _=>hne),h.lo,h.hi,h.path,h.sum⟩
def GaveRowF (o:Option (List (List UInt8))) (w:World) (e:Ending) (w':World):Prop :=
 ∃(A:Option Addr) (c:Nat),e=.returned (.tuple #[.slice A (o.getD []).length c,.bool o.isSome])∧Sl w' A c (strsV (o.getD []))∧(∀g,g < w.heap.size→∀a,A=some a→a.block≠g)∧Below w.heap.size w w'
theorem normL_head (s:List UInt8) (h:s.getD 0 0≠47):normL s=none:=by
 unfold normL
 split
 ·exact absurd rfl h
 ·rfl
theorem normL_none (r:List UInt8) (h:goN [] (splitL 47 r)=none):normL (47 :: r)=none:=by
 show (match goN [] (splitL 47 r) with
  | none=>none
  | some l=>if (joinP l).length≤256 then some (joinP l) else none)=none
 rw[h]
theorem normL_some (r:List UInt8) (l:List (List UInt8)) (h:goN [] (splitL 47 r)=some l):normL (47 :: r)=if (joinP l).length≤256 then some (joinP l) else none:=by
 show (match goN [] (splitL 47 r) with
  | none=>none
  | some l=>if (joinP l).length≤256 then some (joinP l) else none)=_
 rw[h]
theorem goN_at (l ps:List (List UInt8)) (k:Nat) (h:k < ps.length):goN l (ps.drop k)=match alongL l (ps.getD k []) with
  | none=>none
  | some m=>goN m (ps.drop (k+1)):=by
 rw[List.drop_eq_getElem_cons h,goN_along,List.getD_eq_getElem?_getD,List.getElem?_eq_getElem h];rfl
theorem flatP_le (l:List (List UInt8)) (h:∀w∈l,w.length≤64):(flatP l).length≤65*l.length:=by
 unfold flatP
 induction l with
 | nil=>exact Nat.le_refl _
 | cons w l ih =>
  have:=ih (fun v hv=>h v (List.mem_cons_of_mem _ hv))
  have:=h w (List.mem_cons_self ..)
  rw[List.flatMap_cons,List.length_append,List.length_cons,List.length_cons];omega
structure Req where
 op:List UInt8
 path:List UInt8
 src:Adr
 cost:Nat
structure Req.Ok (r:Req):Prop where
 src:r.src.Ok
 cost:r.cost < 2^64
 op:r.op.length≤1000
 path:r.path.length≤1000
def reqV (r:Req):List Value:=[.string (bstr r.op),.string (bstr r.path)]++(adrV r.src++[.float .f64 r.cost])
def pathHolds (top:List UInt8) (o:Option (List UInt8)):Bool:=o.isSome&&underL top (o.getD [])
def holdsL (p:Prd) (r:Req) (t:Nat):Bool :=
 if textP p=[] then false
 else if p.kind=1 then decide (t < p.time)
 else if p.kind=2 then decide (p.time≤t)
 else if p.kind=3 then decide (r.op∈p.names)
 else if p.kind=4 then pathHolds p.path (normL r.path)
 else if p.kind=5 then hasR p.net r.src
 else atMostC r.cost p.cost
def holdsT (s:List UInt8) (r:Req) (t:Nat):Bool:=(parseP s).isSome&&holdsL ((parseP s).getD zeroP) r t
def holdsA (l:List (List UInt8)) (r:Req) (t:Nat):Bool:=l.all fun s=>holdsT s r t
theorem length_reqV (r:Req) (h:r.src.Ok):(reqV r).length=20:=by
 unfold reqV
 rw[List.length_append,List.length_append,length_adrV h];rfl
theorem size_req:(Tryz.prog.info? 33).map (·.size)=some 20:=by kernel_rfl
theorem reqV_one (r:Req):(reqV r).toArray.all (·.oneCell')=true:=by
 have h:=adrV_one' r.src
 rw[List.all_toArray] at h ⊢
 unfold reqV
 rw[List.all_append,List.all_append,h];rfl
theorem path_right (p:Prd) (h:textP p≠[]) (hk:p.kind=4):rightL p.path=true:=by
 obtain⟨h2,-,-,-⟩:=textP_ne p h
 unfold wordsP at h2
 rw[if_neg (by rw[hk];decide),if_neg (by rw[hk];decide),if_neg (by rw[hk];decide)] at h2
 cases hr:rightL p.path with
 | true=>rfl
 | false =>
  rw[if_neg (fun h=>by rw[hr] at h;cases h.2),if_neg (by rw[hk];decide),if_neg (by rw[hk];decide)] at h2
  exact absurd rfl h2
theorem right_len (p:List UInt8) (h:rightL p=true):p.length≤256:=by
 unfold rightL at h
 split at h
 ·rename_i r
  rw[Bool.or_eq_true,Bool.and_eq_true,decide_eq_true_iff,decide_eq_true_iff] at h
  rcases h with h | ⟨h,-⟩
  ·rw[h];decide
  ·rw[List.length_cons];exact h
 ·cases h
theorem norm_len (s p:List UInt8) (h:normL s=some p):p.length≤256:=right_len p (normL_right s p h).1
theorem prdV_one (p:Prd) (A:Option Addr) (c:Nat):(prdV p A c).toArray.all (·.oneCell')=true:=by
 have h:=rngV_one' p.net
 rw[List.all_toArray] at h ⊢
 unfold prdV
 rw[List.all_append,List.all_append,h];rfl
theorem prd_zero:prdV zeroP none 0=[Value.int .i64 0,.int .u64 0,.slice none 0 0,.string { data:=#[] },.bool false,.int .u8 0,.int .u8 0,.int .u8 0,.int .u8 0,.int .u8 0,.int .u8 0,.int .u8 0,.int .u8 0,.int .u8 0,.int .u8 0,.int .u8 0,.int .u8 0,.int .u8 0,.int .u8 0,.int .u8 0,.int .u8 0,.int .i64 0,.float .f64 0]:=rfl
theorem build_1 (n:Nat) (k:Int) (w:World):(Instr.build 31 #[(0,.int .i64 k),(1,.int .u64 n)]).run Tryz.prog w=.ok (.agg (prdV ⟨k,n,[],[],zeroR,0⟩ none 0).toArray) w:=by
 go_simp
 rfl
theorem two_boxes {w w1:World} {Q P:List Value} {t u:TypeId} (h:(w.alloc (.cells Q.toArray t)).alloc (.cells P.toArray u)=w1):Row w1 w.heap.size t Q∧Row w1 (w.heap.size+1) u P∧Below w.heap.size w w1:=by
 subst h
 have h1:Row (w.alloc (.cells Q.toArray t)) w.heap.size t Q:=Row.new w _ _
 have hb1:Below w.heap.size w (w.alloc (.cells Q.toArray t)):=(Below.refl _ w).alloc (Nat.le_refl _) _
 have hb2:Below (w.alloc (.cells Q.toArray t)).heap.size (w.alloc (.cells Q.toArray t)) ((w.alloc (.cells Q.toArray t)).alloc (.cells P.toArray u)):=(Below.refl _ _).alloc (Nat.le_refl _) _
 have h2:Row ((w.alloc (.cells Q.toArray t)).alloc (.cells P.toArray u)) (w.alloc (.cells Q.toArray t)).heap.size u P:=Row.new _ _ _
 have hs:(w.alloc (.cells Q.toArray t)).heap.size=w.heap.size+1:=Array.size_push _
 rw[hs] at h2
 exact⟨h1.later hb2 h1.lt,h2,hb1.trans (hb2.mono hb1.size)⟩
theorem req_cells {w:World} {g:Nat} {t:TypeId} {r:Req} (hn:r.src.Ok) (h:Row w g t (reqV r)) :
  w.cell? ⟨g,0,none⟩=some (.string (bstr r.op))∧w.cell? ⟨g,1,none⟩=some (.string (bstr r.path))∧w.rangeAt g 2 (adrV r.src)∧w.cell? ⟨g,19,none⟩=some (.float .f64 r.cost):=by
 refine⟨by rw[h.cell];rfl,by rw[h.cell];rfl,range_of_row (A:=[_,_]) (B:=adrV r.src) (C:=[.float .f64 r.cost]) h,?_⟩
 rw[h.cell]
 unfold reqV
 rw[List.getElem?_append_right (by simp),List.getElem?_append_right (by rw[length_adrV hn];simp),length_adrV hn]
 rfl
theorem one_box {w w1:World} {Q:List Value} {t:TypeId} (h:w.alloc (.cells Q.toArray t)=w1):Row w1 w.heap.size t Q∧Below w.heap.size w w1:=by
 subst h
 exact⟨Row.new w _ _,(Below.refl _ w).alloc (Nat.le_refl _) _⟩
def fairL (l:List UInt8):Prop:=∀c∈l,inkB c=true∧c≠32
theorem fair_nil:fairL []:=fun _ hc=>absurd hc List.not_mem_nil
theorem fair_cons {c:UInt8} {l:List UInt8} (hc:inkB c=true∧c≠32) (h:fairL l):fairL (c :: l):=by
 intro d hd
 rcases List.mem_cons.1 hd with rfl | hd
 ·exact hc
 ·exact h d hd
theorem fair_app {a b:List UInt8} (ha:fairL a) (hb:fairL b):fairL (a++b):=by
 intro d hd
 rcases List.mem_append.1 hd with hd | hd
 ·exact ha d hd
 ·exact hb d hd
theorem hexD_fair (i:Nat) (h:i < 16):inkB (hexD i)=true∧hexD i≠32:=by
 have key:∀i:Fin 16,inkB (hexD i.1)=true∧hexD i.1≠32:=by decide +kernel
 exact key ⟨i,h⟩
theorem num_fair (b n:Nat) (h2:2≤b) (hb:b≤16):fairL (numL b n):=by
 induction n using Nat.strongRecOn with
 | _ n ih =>
  by_cases h:n < b
  ·rw[numL_small b n h]
   exact fair_cons (hexD_fair n (by omega)) fair_nil
  ·rw[numL_great b n h2 (by omega)]
   exact fair_app (ih (n/b) (Nat.div_lt_self (by omega) (by omega))) (fair_cons (hexD_fair _ (Nat.lt_of_lt_of_le (Nat.mod_lt _ (by omega)) hb)) fair_nil)
theorem glue_fair (x:UInt8) (ps:List (List UInt8)) (hx:inkB x=true∧x≠32) (h:∀p∈ps,fairL p):fairL (glueL x ps):=by
 intro c hc
 rcases mem_glue x ps c hc with rfl | ⟨p,hp,hc⟩
 ·exact hx
 ·exact h p hp c hc
theorem joinN_fair (l:List Nat):fairL (joinN l):=by
 rw[joinN_glue]
 refine glue_fair 58 _ (by decide) fun p hp=>?_
 obtain⟨n,_,rfl⟩:=List.mem_map.1 hp
 exact num_fair 16 n (by omega) (by omega)
theorem textN_fair (l:List Nat):fairL (textN l):=by
 unfold textN
 simp only[]
 split
 ·exact joinN_fair l
 ·exact fair_app (joinN_fair _) (fair_cons (by decide) (fair_cons (by decide) (joinN_fair _)))
theorem textA_fair (a:Adr):fairL (textA a):=by
 unfold textA
 split
 ·split
  ·exact textN_fair _
  ·have n:∀k,fairL (numL 10 k):=fun k=>num_fair 10 k (by omega) (by omega)
   have d:inkB 46=true∧(46:UInt8)≠32:=by decide
   exact fair_app (fair_app (fair_app (n _) (fair_cons d (n _))) (fair_cons d (n _))) (fair_cons d (n _))
 ·exact fair_nil
theorem textR_fair (r:Rng):fairL (textR r):=by
 by_cases h:textR r=[]
 ·rw[h];exact fair_nil
 ·rw[(textR_ne r h).2]
  exact fair_app (textA_fair _) (fair_cons (by decide) (num_fair 10 _ (by omega) (by omega)))
theorem low_fair (c:UInt8) (h:lowB c=true):inkB c=true∧c≠32:=by
 unfold lowB at h
 rw[Bool.and_eq_true,decide_eq_true_iff,decide_eq_true_iff] at h
 refine⟨?_,?_⟩
 ·unfold inkB
  rw[Bool.and_eq_true,decide_eq_true_iff,decide_eq_true_iff];omega
 ·rintro rfl
  exact absurd h.1 (by decide)
theorem sign_fair (c:UInt8) (h:signB c=true):inkB c=true∧c≠32:=by
 have key:∀i:Fin 256,signB (UInt8.ofNat i.1)=true→inkB (UInt8.ofNat i.1)=true∧UInt8.ofNat i.1≠32:=by decide +kernel
 have e:UInt8.ofNat c.toNat=c:=UInt8.ofNat_toNat
 have:=key ⟨c.toNat,c.toNat_lt⟩
 rw[e] at this
 exact this h
theorem join16_fair (l:List (List UInt8)):fairL (joinL16 l):=by
 unfold joinL16
 split
 ·rename_i h
  refine glue_fair 44 l (by decide) fun p hp c hc=>?_
  have:=riseL_names l h p hp
  unfold name16 at this
  rw[Bool.and_eq_true,List.all_eq_true] at this
  exact low_fair c (this.2 c hc)
 ·exact fair_nil
theorem right_fair (p:List UInt8) (h:rightL p=true):fairL p:=by
 obtain⟨r,rfl⟩:=right_head p h
 refine fair_cons (by decide) ?_
 have h:(decide (r=[])||(decide (r.length+1≤256)&&(splitL 47 r).all nameL))=true:=h
 rw[Bool.or_eq_true,decide_eq_true_iff,Bool.and_eq_true,List.all_eq_true] at h
 rcases h with rfl | ⟨-,h⟩
 ·exact fair_nil
 ·rw[←glueL_split 47 r]
  refine glue_fair 47 _ (by decide) fun p hp c hc=>?_
  have:=h p hp
  unfold nameL at this
  rw[Bool.and_eq_true,List.all_eq_true] at this
  exact sign_fair c (this.2 c hc)
theorem intL_fair (p:Int):fairL (intL p):=by
 unfold intL
 split
 ·exact fair_cons (by decide) (num_fair 10 _ (by omega) (by omega))
 ·exact num_fair 10 _ (by omega) (by omega)
theorem bodyC_fair (a:Nat):fairL (bodyC a):=by
 unfold bodyC
 split
 ·exact fair_cons (by decide) fair_nil
 ·split
  ·exact fair_cons (by decide) (fair_cons (by decide) (fair_cons (by decide) fair_nil))
  ·exact fair_app (num_fair 10 _ (by omega) (by omega)) (fair_cons (by decide) (intL_fair _))
theorem textC_fair (b:Nat):fairL (textC b):=by
 unfold textC
 split
 ·exact fair_nil
 ·refine fair_app ?_ (bodyC_fair _)
  split
  ·exact fair_cons (by decide) fair_nil
  ·exact fair_nil
theorem words_two (a b:List UInt8) (ha:fairL a) (hb:fairL b) (ha0:a≠[]) (hb0:b≠[]) (hl:a.length+b.length≤511):wordsL (a++32 :: b)=some [a,b]:=by
 have e:splitL 32 (a++32 :: b)=[a,b]:=by
  rw[splitL_app,splitL_end 32 a (fun c hc=>(ha c hc).2),splitL_end 32 b (fun c hc=>(hb c hc).2)];rfl
 unfold wordsL
 rw[if_neg (by simp),e,if_pos]
 refine⟨by rw[List.length_append,List.length_cons];omega,?_,?_⟩
 ·rw[List.all_append,List.all_cons,List.all_eq_true.2 (fun c hc=>(ha c hc).1),List.all_eq_true.2 (fun c hc=>(hb c hc).1)];rfl
 ·simp[ha0,hb0]
theorem two_words (s a b:List UInt8) (h:wordsL s=some [a,b]):s=a++32 :: b∧a≠[]∧b≠[]∧a.length+b.length≤511:=by
 rcases words_some s _ h with ⟨-,h⟩ | ⟨-,h1,-,h2,h3⟩
 ·cases h
 ·have e:=glueL_split 32 s
  rw[←h3] at e h2
  have e:a++32 :: b=s:=e
  rw[←e] at h1 ⊢
  rw[List.length_append,List.length_cons] at h1
  simp at h2
  exact⟨rfl,h2.1,h2.2,by omega⟩
def toldP (p:Prd):List UInt8×List UInt8 :=
 if p.kind=1 then ([98,101,102,111,114,101],numL 10 p.time)
 else if p.kind=2 then ([115,105,110,99,101],numL 10 p.time)
 else if p.kind=3 then ([111,112],joinL16 p.names)
 else if p.kind=4 then ([112,97,116,104],p.path)
 else if p.kind=5 then ([110,101,116],textR p.net)
 else if p.kind=6 then ([99,111,115,116],textC p.cost)
 else ([],[])
def readP (a b:List UInt8):Option Prd :=
 if a=[98,101,102,111,114,101] then (numberL b).map fun n=>⟨1,n,[],[],zeroR,0⟩
 else if a=[115,105,110,99,101] then (numberL b).map fun n=>⟨2,n,[],[],zeroR,0⟩
 else if a=[111,112] then (namesC b).map fun l=>⟨3,0,l,[],zeroR,0⟩
 else if a=[112,97,116,104] then (if rightL b=true then some ⟨4,0,[],b,zeroR,0⟩ else none)
 else if a=[110,101,116] then (parseR b).map fun r=>⟨5,0,[],[],r,0⟩
 else if a=[99,111,115,116] then (parseC b).map fun c=>⟨6,0,[],[],zeroR,c⟩
 else none
def parse2 (s:List UInt8):Option Prd:=match wordsL s with
 | some [a,b]=>readP a b
 | _=>none
theorem told_words (p:Prd) (h:(wordsP p).2≠[]):toldP p=wordsP p:=by
 unfold toldP
 rcases wordsP_ways p h with ⟨e,hw⟩ | ⟨e,hw⟩ | ⟨e,hw⟩ | ⟨e,hw⟩ | ⟨e,hw⟩ | ⟨e,hw⟩<;>rw[hw,e]<;>rfl
theorem wordsP_fair (p:Prd) (h:(wordsP p).2≠[]):fairL (wordsP p).1∧fairL (wordsP p).2∧(wordsP p).1≠[]:=by
 have w:∀l:List UInt8,(l.all fun c=>inkB c&&decide (c≠32))=true→fairL l:=by
  intro l hl c hc
  have:=List.all_eq_true.1 hl c hc
  rw[Bool.and_eq_true,decide_eq_true_iff] at this
  exact this
 have hr:p.kind=4→(wordsP p).2=p.path→rightL p.path=true:=by
  intro hk he
  cases hr:rightL p.path with
  | true=>rfl
  | false =>
   exfalso
   apply h
   unfold wordsP
   rw[hk,hr];rfl
 rcases wordsP_ways p h with ⟨e,hw⟩ | ⟨e,hw⟩ | ⟨e,hw⟩ | ⟨e,hw⟩ | ⟨e,hw⟩ | ⟨e,hw⟩<;>rw[hw] at hr ⊢<;>refine⟨w _ (by dsimp only;decide),?_,by dsimp only;simp⟩
 ·exact num_fair 10 _ (by omega) (by omega)
 ·exact num_fair 10 _ (by omega) (by omega)
 ·exact join16_fair _
 ·exact right_fair _ (hr e rfl)
 ·exact textR_fair _
 ·exact textC_fair _
theorem textP_of (p:Prd) (a b:List UInt8) (hw:wordsP p=(a,b)) (hb:b≠[]) (ho:onlyP p=true) (hl:a.length+b.length≤511):textP p=a++32 :: b:=by
 unfold textP
 rw[hw,if_neg]
 rintro (h | h | h)
 ·exact hb h
 ·rw[ho] at h;cases h
 ·have h:511 < a.length+b.length:=h
  omega
theorem read_some (a b:List UInt8) (p:Prd) (h:readP a b=some p):p.Ok∧onlyP p=true∧wordsP p=(a,b):=by
 unfold readP at h
 split at h
 ·rename_i e
  obtain⟨n,hn,rfl⟩:=Option.map_eq_some_iff.1 h
  have h1:=numberL_lt b
  rw[hn] at h1
  have hv:numL 10 n=b:=by
   unfold numberL at hn
   split at hn
   ·cases hn
   ·rename_i m hm
    split at hn
    ·cases hn;exact ((valueL_iff 10 20 (by omega) (by omega) b _).1 hm).1
    ·cases hn
  refine⟨⟨zeroR_ok,h1,by show (0:Nat) < 2^64;decide⟩,rfl,?_⟩
  show (_,numL 10 n)=_
  rw[hv,e]
 split at h
 ·rename_i e
  obtain⟨n,hn,rfl⟩:=Option.map_eq_some_iff.1 h
  have h1:=numberL_lt b
  rw[hn] at h1
  have hv:numL 10 n=b:=by
   unfold numberL at hn
   split at hn
   ·cases hn
   ·rename_i m hm
    split at hn
    ·cases hn;exact ((valueL_iff 10 20 (by omega) (by omega) b _).1 hm).1
    ·cases hn
  refine⟨⟨zeroR_ok,h1,by show (0:Nat) < 2^64;decide⟩,rfl,?_⟩
  show (_,numL 10 n)=_
  rw[hv,e]
 split at h
 ·rename_i e
  obtain⟨l,hn,rfl⟩:=Option.map_eq_some_iff.1 h
  refine⟨⟨zeroR_ok,by show (0:Nat) < 2^64;decide,by show (0:Nat) < 2^64;decide⟩,rfl,?_⟩
  have hv:joinL16 l=b:=by
   unfold namesC at hn
   split at hn
   ·rename_i hr
    cases hn
    unfold joinL16
    rw[if_pos hr,glueL_split]
   ·cases hn
  show (_,joinL16 l)=_
  rw[hv,e]
 split at h
 ·rename_i e
  split at h
  ·rename_i hr
   cases h
   refine⟨⟨zeroR_ok,by show (0:Nat) < 2^64;decide,by show (0:Nat) < 2^64;decide⟩,rfl,?_⟩
   unfold wordsP
   rw[if_neg (by simp),if_neg (by simp),if_neg (by simp),if_pos ⟨rfl,hr⟩,e]
  ·cases h
 split at h
 ·rename_i e
  obtain⟨r,hn,rfl⟩:=Option.map_eq_some_iff.1 h
  obtain⟨h1,h2,h3⟩:=(parseR_iff b r).1 hn
  have:=checkR_lim r h2
  refine⟨⟨⟨h1,by show _≤r.n;omega,by show r.n≤_;omega⟩,by show (0:Nat) < 2^64;decide,by show (0:Nat) < 2^64;decide⟩,rfl,?_⟩
  show (_,textR r)=_
  rw[h3,e]
 split at h
 ·rename_i e
  obtain⟨c,hn,rfl⟩:=Option.map_eq_some_iff.1 h
  obtain⟨h1,-,h3⟩:=(parseC_iff b c).1 hn
  refine⟨⟨zeroR_ok,by show (0:Nat) < 2^64;decide,h1⟩,rfl,?_⟩
  show (_,textC c)=_
  rw[h3,e]
 ·cases h
theorem read_self (p:Prd) (ho:p.Ok) (h2:(wordsP p).2≠[]) (hon:onlyP p=true):readP (wordsP p).1 (wordsP p).2=some p:=by
 obtain⟨o1,o2,o3,o4,o5⟩:=only_parts p hon
 have hr:p.kind=4→(wordsP p).2=p.path→rightL p.path=true:=by
  intro hk he
  cases hr:rightL p.path with
  | true=>rfl
  | false =>
   exfalso
   apply h2
   unfold wordsP
   rw[hk,hr];rfl
 obtain⟨k,t,ns,pa,r,c⟩:=p
 simp only at o1 o2 o3 o4 o5
 rcases wordsP_ways _ h2 with ⟨e,hw⟩ | ⟨e,hw⟩ | ⟨e,hw⟩ | ⟨e,hw⟩ | ⟨e,hw⟩ | ⟨e,hw⟩<;>simp only at e<;>subst e<;>rw[hw] at h2 hr ⊢<;>simp only at h2 hr ⊢
 ·obtain rfl:ns=[]:=o2.resolve_left (by decide)
  obtain rfl:pa=[]:=o3.resolve_left (by decide)
  obtain rfl:r=zeroR:=o4.resolve_left (by decide)
  obtain rfl:c=0:=o5.resolve_left (by decide)
  show (numberL (numL 10 t)).map _=_
  rw[number_num t ho.time];rfl
 ·obtain rfl:ns=[]:=o2.resolve_left (by decide)
  obtain rfl:pa=[]:=o3.resolve_left (by decide)
  obtain rfl:r=zeroR:=o4.resolve_left (by decide)
  obtain rfl:c=0:=o5.resolve_left (by decide)
  show (numberL (numL 10 t)).map _=_
  rw[number_num t ho.time];rfl
 ·obtain rfl:t=0:=(o1.resolve_left (by decide)).resolve_left (by decide)
  obtain rfl:pa=[]:=o3.resolve_left (by decide)
  obtain rfl:r=zeroR:=o4.resolve_left (by decide)
  obtain rfl:c=0:=o5.resolve_left (by decide)
  show (namesC (joinL16 ns)).map _=_
  rw[namesC_join ns h2];rfl
 ·obtain rfl:t=0:=(o1.resolve_left (by decide)).resolve_left (by decide)
  obtain rfl:ns=[]:=o2.resolve_left (by decide)
  obtain rfl:r=zeroR:=o4.resolve_left (by decide)
  obtain rfl:c=0:=o5.resolve_left (by decide)
  show (if rightL pa=true then _ else _)=_
  rw[if_pos (by simpa using hr)]
 ·obtain rfl:t=0:=(o1.resolve_left (by decide)).resolve_left (by decide)
  obtain rfl:ns=[]:=o2.resolve_left (by decide)
  obtain rfl:pa=[]:=o3.resolve_left (by decide)
  obtain rfl:c=0:=o5.resolve_left (by decide)
  show (parseR (textR r)).map _=_
  rw[parseR_text r ho.net h2];rfl
 ·obtain rfl:t=0:=(o1.resolve_left (by decide)).resolve_left (by decide)
  obtain rfl:ns=[]:=o2.resolve_left (by decide)
  obtain rfl:pa=[]:=o3.resolve_left (by decide)
  obtain rfl:r=zeroR:=o4.resolve_left (by decide)
  show (parseC (textC c)).map _=_
  rw[parseC_text c ho.cost h2];rfl
theorem parse2_some (s:List UInt8) (p:Prd) (h:parse2 s=some p):∃a b,wordsL s=some [a,b]∧readP a b=some p:=by
 unfold parse2 at h
 split at h
 ·rename_i a b hw
  exact⟨a,b,hw,h⟩
 ·cases h
theorem parse_two (s:List UInt8):parse2 s=parseP s:=by
 apply Option.ext
 intro p
 constructor
 ·intro h
  obtain⟨a,b,hw,hr⟩:=parse2_some s p h
  obtain⟨rfl,ha,hb,hl⟩:=two_words s a b hw
  obtain⟨ho,hon,hp⟩:=read_some a b p hr
  exact (parseP_iff _ p).2 ⟨ho,textP_of p a b hp hb hon hl,by simp⟩
 ·intro h
  obtain⟨ho,rfl,hne⟩:=(parseP_iff s p).1 h
  obtain⟨h2,hon,hl,he⟩:=textP_ne p hne
  obtain⟨f1,f2,f3⟩:=wordsP_fair p h2
  unfold parse2
  rw[he,words_two _ _ f1 f2 f3 h2 hl]
  exact read_self p ho h2 hon
theorem text_hit (p:Prd) (h:parseP ((toldP p).1++32 :: (toldP p).2)=some p):textP p=(toldP p).1++32 :: (toldP p).2:=((parseP_iff _ p).1 h).2.1
theorem text_miss (p:Prd) (ho:p.Ok) (h:parseP ((toldP p).1++32 :: (toldP p).2)≠some p):textP p=[]:=by
 by_cases h0:textP p=[]
 ·exact h0
 ·obtain⟨h2,-,-,he⟩:=textP_ne p h0
  rw[told_words p h2,←he] at h
  exact absurd ((parseP_iff _ p).2 ⟨ho,rfl,h0⟩) h
theorem amost_any (a:Adr) (w:World) :
  Calls Tryz.prog 76 #[.agg (adrV a).toArray] w fun e w'=>e=.returned (.int .i64 (mostA a.v6:Nat))∧Below w.heap.size w w':=by
 obtain⟨w1,hw1⟩:∃w1,w1=w.alloc (.cells (adrV a).toArray 26):=⟨_,rfl⟩
 have hr:Row w1 w.heap.size 26 (adrV a):=by rw[hw1];exact Row.new w _ _
 have hb:Below w.heap.size w w1:=by rw[hw1];exact (Below.refl _ w).alloc (Nat.le_refl _) _
 have hc6:=adr_v6 hr
 obtain⟨V,hV⟩:∃V,V=adrV a:=⟨_,rfl⟩
 rw[←hV] at hw1 ⊢
 clear hV hr
 cases h6:a.v6 with
 | true =>
  rw[h6] at hc6
  go_enter Tryz.func76,Tryz.ntmps76
  subst hw1
  go_wp2
  go_ret
  exact⟨rfl,hb⟩
 | false =>
  rw[h6] at hc6
  go_enter Tryz.func76,Tryz.ntmps76
  subst hw1
  go_wp2
  go_ret
  exact⟨rfl,hb⟩
def aheadB (m:Nat):UInt8:=maskB 255 m
theorem ahead_bits:∀m:Nat,m≤8→bits BinOp.xor IntKind.u8 IntKind.u8.max (255/2^m)=((aheadB m).toNat:Int):=by
 have h:∀m:Fin 9,bits BinOp.xor IntKind.u8 IntKind.u8.max (255/2^m.1)=((aheadB m.1).toNat:Int):=by decide +kernel
 intro m hm
 exact h ⟨m,by omega⟩
set_option maxHeartbeats 1000000 in
theorem aahead_any (n:Int) (w:World) :
  Calls Tryz.prog 77 #[.int .i64 n] w fun e w'=>e=.returned (.int .u8 ((aheadB (min n.toNat 8)).toNat:Int))∧w=w':=by
 obtain⟨Y,hY⟩:∃Y,Y=aheadB (min n.toNat 8):=⟨_,rfl⟩
 rw[←hY]
 have HY:=Lib.hid hY
 clear hY
 by_cases h0:n < 0
 ·have HE:=Lib.hid (show bits BinOp.xor IntKind.u8 IntKind.u8.max 255=(Y.toNat:Int) by
   rw[HY.out,show min n.toNat 8=0 by omega];exact ahead_bits 0 (by omega))
  have h1:(if n < 0 then (0:Int) else n)=0:=if_pos h0
  have h2:max n 0=0:=by omega
  have h3:min (0:Int) 8=0:=by omega
  go_enter Tryz.func77,Tryz.ntmps77
  go_wp2
  go_ret
  exact⟨by rw[←HE.out];rfl,rfl⟩
 ·by_cases h8:8 < n
  ·have HE:=Lib.hid (show bits BinOp.xor IntKind.u8 IntKind.u8.max 0=(Y.toNat:Int) by
    rw[HY.out,show min n.toNat 8=8 by omega];exact ahead_bits 8 (by omega))
   have h1:(if n < 0 then (0:Int) else n)=n:=if_neg h0
   have h2:max n 0=n:=by omega
   have h3:min n 8=8:=by omega
   go_enter Tryz.func77,Tryz.ntmps77
   go_wp2
   go_ret
   exact⟨by rw[←HE.out];rfl,rfl⟩
  ·have HE:=Lib.hid (show bits BinOp.xor IntKind.u8 IntKind.u8.max (255/2^n.toNat)=(Y.toNat:Int) by
    rw[HY.out,show min n.toNat 8=n.toNat by omega];exact ahead_bits _ (by omega))
   have h1:(if n < 0 then (0:Int) else n)=n:=if_neg h0
   have h8':n≤8:=by omega
   have h0':0≤n:=by omega
   have h2:max n 0=n:=by omega
   have h3:min n 8=n:=by omega
   go_enter Tryz.func77,Tryz.ntmps77
   go_wp2
   go_ret
   exact⟨by rw[←HE.out];rfl,rfl⟩
theorem and_ahead:∀(x:UInt8) (m:Nat),m≤8→bits BinOp.and IntKind.u8 (x.toNat:Int) ((aheadB m).toNat:Int)=((maskB x m).toNat:Int):=by
 have h:∀x:Fin 256,∀m:Fin 9,bits BinOp.and IntKind.u8 ((UInt8.ofNat x.1).toNat:Int) ((aheadB m.1).toNat:Int)=((maskB (UInt8.ofNat x.1) m.1).toNat:Int):=by decide +kernel
 intro x m hm
 have:=h ⟨x.toNat,x.toNat_lt⟩ ⟨m,by omega⟩
 rwa [UInt8.ofNat_toNat] at this
end Go.Proofs.YtjieebmcbpdeiaaGreatDoor
