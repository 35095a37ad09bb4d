import Derived.Test.YtjieebmcbpdeiaaGreatDoorRows
import Derived.Handy
import Derived.Lib.Hide
import Derived.WalkSpells
import Derived.WalkLawsBesides
import Derived.Laws.AppendOwnNone
import Derived.Laws.CopyOwn
import Derived.Deep.AppendLies
import Derived.Deep.RegionHeld3
import Derived.WalkKit
import Derived.ProofKit
import Derived.OpenShut
import Derived.ShutString
import Derived.ChangeOld
import Derived.Below
import Derived.Deep.DeepHandedRow
import Derived.Lib.LaidTab
import Derived.SizedLaws
import Derived.Deep.MidRow
import Derived.Laws.Rows
import Derived.Laws.Tables
import Derived.Laws.CopyRow
import Derived.Laws.ResultCell
import Derived.Laws.BytesString
import Derived.Laws.Strings
import Derived.Laws.IdiomStrings
import Derived.OwnWalk
namespace Go.Proofs.YtjieebmcbpdeiaaGreatDoor
open Go
def u (v:BitVec 32):Int:=(v.toNat:Int)
theorem u_bd (v:BitVec 32):0≤u v∧u v < 4294967296:=by
 unfold u;have:=v.isLt;omega
theorem ofInt_u (v:BitVec 32):BitVec.ofInt 32 (u v)=v:=by
 unfold u;simp
theorem wrap_u (v:BitVec 32):IntKind.u32.wrap (u v)=u v:=by
 rw[IntKind.wrap_u32];have:=u_bd v;omega
@[go_sem] theorem u_and (a b:BitVec 32):bits .and .u32 (u a) (u b)=u (a &&& b):=by
 show IntKind.u32.wrap ((BitVec.ofInt 32 (u a) &&& BitVec.ofInt 32 (u b)).toNat:Int)=_
 rw[ofInt_u,ofInt_u];exact wrap_u _
@[go_sem] theorem u_or (a b:BitVec 32):bits .or .u32 (u a) (u b)=u (a ||| b):=by
 show IntKind.u32.wrap ((BitVec.ofInt 32 (u a) ||| BitVec.ofInt 32 (u b)).toNat:Int)=_
 rw[ofInt_u,ofInt_u];exact wrap_u _
@[go_sem] theorem u_xor (a b:BitVec 32):bits .xor .u32 (u a) (u b)=u (a ^^^ b):=by
 show IntKind.u32.wrap ((BitVec.ofInt 32 (u a) ^^^ BitVec.ofInt 32 (u b)).toNat:Int)=_
 rw[ofInt_u,ofInt_u];exact wrap_u _
@[go_sem] theorem u_andNot (a b:BitVec 32):bits .andNot .u32 (u a) (u b)=u (a &&& ~~~b):=by
 show IntKind.u32.wrap ((BitVec.ofInt 32 (u a) &&& ~~~BitVec.ofInt 32 (u b)).toNat:Int)=_
 rw[ofInt_u,ofInt_u];exact wrap_u _
@[go_sem] theorem u_not (a:BitVec 32):bits .xor .u32 IntKind.u32.max (u a)=u (~~~a):=by
 show IntKind.u32.wrap ((BitVec.ofInt 32 4294967295 ^^^ BitVec.ofInt 32 (u a)).toNat:Int)=_
 rw[ofInt_u,show BitVec.ofInt 32 4294967295=BitVec.allOnes 32 from by decide,BitVec.allOnes_xor];exact wrap_u _
@[go_sem] theorem u_add (a b:BitVec 32):IntKind.u32.wrap (u a+u b)=u (a+b):=by
 rw[IntKind.wrap_u32];unfold u;rw[BitVec.toNat_add];omega
@[go_sem] theorem u_shl (a:BitVec 32) (k:Nat):IntKind.u32.wrap (u a*2^k)=u (a <<< k):=by
 rw[IntKind.wrap_u32];unfold u
 rw[BitVec.toNat_shiftLeft,Nat.shiftLeft_eq]
 simp
@[go_sem] theorem u_shr (a:BitVec 32) (k:Nat):u a/2^k=u (a >>> k):=by
 unfold u
 rw[BitVec.toNat_ushiftRight,Nat.shiftRight_eq_div_pow]
 simp
@[go_sem] theorem u_shr3 (x:BitVec 32):u x/(8:Int)=u (x >>> 3):=u_shr x 3
@[go_sem] theorem u_shr8 (x:BitVec 32):u x/(256:Int)=u (x >>> 8):=u_shr x 8
@[go_sem] theorem u_shr10 (x:BitVec 32):u x/(1024:Int)=u (x >>> 10):=u_shr x 10
@[go_sem] theorem u_shr16 (x:BitVec 32):u x/(65536:Int)=u (x >>> 16):=u_shr x 16
@[go_sem] theorem u_shr24 (x:BitVec 32):u x/(16777216:Int)=u (x >>> 24):=u_shr x 24
end Go.Proofs.YtjieebmcbpdeiaaGreatDoor
namespace Go.Proofs.YtjieebmcbpdeiaaGreatDoor
open Go.RowKit
@[go_sem] theorem and31 (n:Int):bits .and .u64 (IntKind.u64.wrap n) 31=n%32:=by
 show IntKind.u64.wrap ((BitVec.ofInt 64 (IntKind.u64.wrap n) &&& BitVec.ofInt 64 31).toNat:Int)=_
 have h1:(BitVec.ofInt 64 (IntKind.u64.wrap n)).toNat=(n%18446744073709551616).toNat:=by
  rw[IntKind.wrap_u64,BitVec.toNat_ofInt];simp
 have h2:(BitVec.ofInt 64 31).toNat=2^5 - 1:=by decide
 rw[BitVec.toNat_and,h1,h2,Nat.and_two_pow_sub_one_eq_mod,IntKind.wrap_u64]
 omega
end Go.Proofs.YtjieebmcbpdeiaaGreatDoor
namespace Go.Proofs.YtjieebmcbpdeiaaGreatDoor
open Go Go.RowKit
def Row (w:World) (g:Nat) (t:TypeId) (xs:List Value):Prop:=w.heap[g]?=some (.cells xs.toArray t (0,0))
theorem Row.lt {w:World} {g t:Nat} {xs:List Value} (h:Row w g t xs):g < w.heap.size:=by
 unfold Row at h
 exact (Array.getElem?_eq_some_iff.1 h).1
theorem Row.cell {w:World} {g t:Nat} {xs:List Value} (h:Row w g t xs) (i:Nat):w.cell? ⟨g,i,none⟩=xs[i]?:=by
 rw[cell_of_row w g i _ t (0,0) h];simp
theorem Row.free {w:World} {g t:Nat} {xs:List Value} (h:Row w g t xs) (i:Nat):w.frozen? ⟨g,i,none⟩=false :=
 frozen_of_row w g i _ t h
theorem Row.set {w:World} {g t:Nat} {xs:List Value} (h:Row w g t xs) (i:Nat) (v:Value):Row (w.setCell ⟨g,i,none⟩ v) g t (xs.set i v):=by
 unfold Row at h ⊢
 rw[heap_setCell_same w g i _ t v h]
 simp
theorem Row.far {w:World} {g t:Nat} {xs:List Value} (h:Row w g t xs) (a:Addr) (v:Value) (hne:g≠a.block):Row (w.setCell a v) g t xs:=by
 unfold Row at h ⊢
 rw[heap_setCell_other w a g v hne];exact h
theorem Row.drew {w:World} {g t:Nat} {xs:List Value} (h:Row w g t xs):Row w.drew g t xs:=h
theorem Row.new (w:World) (t:TypeId) (xs:List Value):Row (w.alloc (.cells xs.toArray t)) w.heap.size t xs:=heap_alloc_new w _
theorem Row.later {w w':World} {g t:Nat} {xs:List Value} {B:Nat} (h:Row w g t xs) (hb:Below B w w') (hg:g < B):Row w' g t xs:=by
 unfold Row at h ⊢
 rw[hb.block g hg];exact h
def Rd (w:World) (A:Option Addr) (xs:List Value):Prop :=
 xs=[]∨∃b o,A=some ⟨b,o,none⟩∧b < w.heap.size∧∀i,i < xs.length→w.cell? ⟨b,o+i,none⟩=xs[i]?
theorem Rd.later {w w':World} {A:Option Addr} {xs:List Value} {B:Nat} (h:Rd w A xs) (hB:w.heap.size≤B) (hb:Below B w w'):Rd w' A xs:=by
 rcases h with h | ⟨b,o,rfl,hlt,hc⟩
 ·exact .inl h
 ·refine .inr ⟨b,o,rfl,by have:=hb.size;omega,fun i hi=>?_⟩
  rw[hb.cell (p:=⟨b,o+i,none⟩) (by show b < B;omega)];exact hc i hi
theorem Rd.row {w:World} {g t:Nat} {xs ys:List Value} (h:Row w g t (xs++ys)):Rd w (some ⟨g,0,none⟩) xs :=
 .inr ⟨g,0,rfl,h.lt,fun i hi=>by rw[Nat.zero_add,h.cell,List.getElem?_append_left hi]⟩
theorem Rd.get {w:World} {A:Option Addr} {xs:List Value} (h:Rd w A xs) {i:Nat} (hi:i < xs.length):∃b o,A=some ⟨b,o,none⟩∧b < w.heap.size∧w.cell? ⟨b,o+i,none⟩=xs[i]?:=by
 rcases h with h | ⟨b,o,rfl,hlt,hc⟩
 ·subst h;simp at hi
 ·exact⟨b,o,rfl,hlt,hc i hi⟩
structure Sl (w:World) (A:Option Addr) (c:Nat) (xs:List Value):Prop where
 rd:Rd w A xs
 room:xs.length≤c
 bare:A=none→c=0
theorem Sl.later {w w':World} {A:Option Addr} {c:Nat} {xs:List Value} {B:Nat} (h:Sl w A c xs) (hB:w.heap.size≤B) (hb:Below B w w'):Sl w' A c xs :=
 ⟨h.rd.later hB hb,h.room,h.bare⟩
theorem Sl.cut {w:World} {b o c k:Nat} {xs:List Value} (h:Sl w (some ⟨b,o,none⟩) c xs) (hk:k≤xs.length):Sl w (some ⟨b,o+k,none⟩) (c - k) (xs.drop k):=by
 refine⟨?_,by have:=h.room;rw[List.length_drop];omega,fun h=>by cases h⟩
 rcases h.rd with hn | ⟨b',o',hA,hlt,hc⟩
 ·subst hn;exact .inl (by simp)
 ·injection hA with hA
  injection hA with h1 h2
  subst h1 h2
  refine .inr ⟨b,o+k,rfl,hlt,fun i hi=>?_⟩
  rw[List.length_drop] at hi
  rw[Nat.add_assoc,hc (k+i) (by omega),List.getElem?_drop]
theorem Sl.of_own {w:World} {base t n:Nat} {v:Value} {xs:List Value} (h:w.ownsRow base t 1 v n xs):∃A c,v=.slice A n c∧xs.length=n∧Sl w A c xs:=by
 have hn:xs.length=n:=by have:=h.1;omega
 rcases h.2 with ⟨rfl,rfl⟩ | ⟨g,cap,cur,rfl,_,hg,hle,_,hs,htake⟩
 ·exact⟨none,0,rfl,hn,⟨.inl (List.eq_nil_of_length_eq_zero hn),by omega,fun _=>rfl⟩⟩
 ·refine⟨some ⟨g,0,none⟩,cap,rfl,hn,⟨.inr ⟨g,0,rfl,(Array.getElem?_eq_some_iff.1 hg).1,fun i hi=>?_⟩,by omega,fun h=>by cases h⟩⟩
  rw[Nat.zero_add,cell_of_row w g i cur t (0,0) hg,←htake,List.getElem?_take,if_pos (by omega)]
  simp
theorem Rd.at_add {w:World} {ad:Addr} {xs:List Value} (h:Rd w (some ad) xs):∀j v,xs[j]?=some v→w.cell? (ad.add j)=some v:=by
 intro j v hv
 have hj:j < xs.length:=(List.getElem?_eq_some_iff.1 hv).1
 obtain⟨b,o,hA,_,hc⟩:=h.get hj
 injection hA with hA
 subst hA
 rw[Addr.add_lit,hc];exact hv
theorem own_later {w w':World} {base t n B:Nat} {v:Value} {xs:List Value} (h:w.ownsRow base t 1 v n xs) (hb:Below B w w') (hB:w.heap.size≤B):w'.ownsRow base t 1 v n xs:=by
 refine⟨h.1,?_⟩
 rcases h.2 with hn | ⟨g,cap,cur,rfl,hbg,hg,rest⟩
 ·exact .inl hn
 ·exact .inr ⟨g,cap,cur,rfl,hbg,(hb.block g (Nat.lt_of_lt_of_le (Array.getElem?_eq_some_iff.1 hg).1 hB)).trans hg,rest⟩
theorem run_append_sl {P:Program} (w:World) (base:Nat) (t ty e:TypeId) (i:TypeInfo) (z:Value) (bytes:Nat) (ht:P.underlying t=some (.slice e)) (hi:P.info? e=some i) (hz:i.zero=some z)
  (hsize:i.size=1) (hby:i.bytes=bytes) (hzs:z.cells.size=1) (v:Value) (n:Nat) (xs:List Value) (hown:w.ownsRow base e 1 v n xs)
  (A:Option Addr) (m c:Nat) (news:List Value) (hm:m=news.length) (hsl:Sl w A c news) (h1:∀u∈news,u.oneCell'=true)
  (h63:n+m≤maxLen) (hbytes:(n+m)*bytes≤140737488355328) (hbase:base≤w.heap.size) :
  ∃v' w',(Builtin.append_ #[t,t] ty #[v,.slice A m c]).run P w=.ok v' w'∧w'.ownsRow base e 1 v' (n+m) (xs++news)∧w.grownBy w' v.ownBlock:=by
 subst hm
 cases A with
 | none =>
  have hc:=hsl.bare rfl
  have hl:=hsl.room
  obtain rfl:news=[]:=List.eq_nil_of_length_eq_zero (by omega)
  subst hc
  exact⟨v,w,run_append_owned_none (P:=P) (w:=w) base t ty e i 1 ht hi v n xs hown,by simpa using hown,World.grownBy.refl w _⟩
 | some ad =>
  obtain⟨v',w',h1',h2,h3,_⟩:=run_append_own (P:=P) w base t ty e i z 1 bytes ht hi hz hsize hby hzs (by omega) v n xs hown ad news.length c news (by omega) hsl.rd.at_add h1 h63 hbytes hbase
  exact⟨v',w',h1',h2,h3⟩
theorem below_step {a b c:World} (h:Below a.heap.size a b) (k:Below b.heap.size b c):Below a.heap.size a c:=h.trans (k.mono h.size)
theorem wpList_append_sl {P:Program} {w:World} {ops:Array Oper} {rest:List Oper} {o:Oper} {a:Act} {Q:Exit→Act→World→Prop} (hgd:o.guard=none) (s x:Operand) (t:TypeId)
  (ho:o.op=.call { callee:=.builtin .append,args:=#[s,x],argTypes:=#[t,t] })
  (base:Nat) (e:TypeId) (i:TypeInfo) (z:Value) (bytes:Nat) (ht:P.underlying t=some (.slice e)) (hi:P.info? e=some i) (hz:i.zero=some z)
  (hsize:i.size=1) (hby:i.bytes=bytes) (hzs:z.cells.size=1)
  (v:Value) (n:Nat) (xs:List Value) (hs:a.eval s=v) (hown:w.ownsRow base e 1 v n xs)
  (A:Option Addr) (m c:Nat) (news:List Value) (hx:a.eval x=.slice A m c) (hm:m=news.length) (hsl:Sl w A c news) (h1:∀u∈news,u.oneCell'=true)
  (h63:n+m≤maxLen) (hbytes:(n+m)*bytes≤140737488355328) (hbase:base≤w.heap.size)
  (h:∀v' w',w'.ownsRow base e 1 v' (n+m) (xs++news)→w.grownBy w' v.ownBlock→wpList P ops Q rest (a.put o.dst v') w'):wpList P ops Q (o :: rest) a w:=by
 subst hm
 cases A with
 | none =>
  have hc:=hsl.bare rfl
  have hl:=hsl.room
  obtain rfl:news=[]:=List.eq_nil_of_length_eq_zero (by omega)
  subst hc
  refine wpList_append_own_none hgd s x t ho base e i 1 ht hi v n xs hs hown hx (h v w ?_ (World.grownBy.refl w _))
  simpa using hown
 | some ad=>exact wpList_append_own w hgd s x t ho base e i z 1 bytes ht hi hz hsize hby hzs (by omega) v n xs hs hown ad news.length c news hx (by omega) hsl.rd.at_add h1 h63 hbytes hbase fun v' w' h2 h3 _=>h v' w' h2 h3
def byts (xs:List UInt8):List Value:=xs.map fun b=>Value.int .u8 (b.toNat:Int)
theorem length_byts (xs:List UInt8):(byts xs).length=xs.length:=by unfold byts;simp
theorem get_byts (xs:List UInt8) (i:Nat) (h:i < xs.length):(byts xs)[i]?=some (.int .u8 ((xs.getD i 0).toNat:Int)):=by
 unfold byts;simp[h]
theorem byts_append (xs ys:List UInt8):byts (xs++ys)=byts xs++byts ys:=by unfold byts;simp
theorem byts_one (xs:List UInt8):∀v∈byts xs,v.oneCell'=true:=by
 intro v hv
 obtain⟨_,_,rfl⟩:=List.mem_map.1 hv
 rfl
theorem put_some (l:List Value) (d:List Deferred) (i:Nat) (v:Value):({ tmps:=l.toArray,defers:=d } : Act).put (some i) v={ tmps:=(l.set i v).toArray,defers:=d }:=by
 simp[Act.put]
theorem wpAnyH_narrow {P:Program} {md:Region.Mode} {ops:Array Oper} {Q:Exit→Act→World→Prop} {S S':World→Prop} (hS:∀w,S' w→S w) :
  ∀(fuel:Nat) (listed:Array Bool) (a:Act) (w:World),wpAnyH P md ops Q S' fuel listed a w→wpAnyH P md ops Q S fuel listed a w
 | 0,_,_,_,h=>h
 | fuel+1,_,_,_,h=>⟨h.1,fun i hi=>wpOp_mono (fun a' w' h'=>⟨hS _ h'.1,wpAnyH_narrow hS fuel _ a' w' h'.2⟩) (h.2 i hi)⟩
section
variable {P:Program} {md:Region.Mode} {ops:Array Oper} {Q:Exit→Act→World→Prop} {S:World→Prop} {fuel:Nat} {listed:Array Bool} {a:Act} {w:World}
theorem rtake (i:Nat) (o:Oper) (d:Option Tmp) (v:Value) (hi:ops[i]?=some o) (hd:o.dst=d) (hs:Region.noSelect ops=true) (hf:Region.free md ops listed i=true) (hr:(Region.ready md ops listed).contains i=true)
  (hQ:∀c a w,Q (.panic c) (a.put d v) w→Q (.panic c) a w) (hw:Region.wanted o (yielded ops a.tmps)=true) (hS:S w) (hy:∀w,S w→(execOp a.eval o).run P w=.ok (.value v) w)
  (h:wpAnyH P md ops Q S fuel (listed.setIfInBounds i true) (a.put d v) w):wpAnyH P md ops Q S (fuel+1) listed a w:=by
 subst hd
 exact wpAnyH_take hi hs hf hr hQ (Or.inl ⟨hw,hy⟩) hS h
end
open Go.ChangeShapes Go.WideShapes Go.ChangeAt Go.RowKit
theorem own:ownKnob Tryz.prog.godebug=none:=by kernel_rfl
theorem laidOut:laidOutB Tryz.prog=true:=by kernel_rfl
theorem ints_of_list {k:IntKind} (l:List Value) (h:∀i,i < l.length→∃z,l[i]?=some (.int k z)∧(Lit.int k z).wf=true) :
  ∃zs:List Int,zs.length=l.length∧l=zs.map (Value.int k)∧∀i,i < l.length→(Lit.int k (zs.getD i 0)).wf=true:=by
 induction l with
 | nil=>exact⟨[],rfl,rfl,fun i hi=>by simp at hi⟩
 | cons c l ih =>
  obtain⟨z,hz,hw⟩:=h 0 (by simp)
  obtain⟨zs,h1,h2,h3⟩:=ih (fun i hi=>by simpa using h (i+1) (by simpa using hi))
  simp at hz
  subst hz
  refine⟨z :: zs,by simp[h1],by simp[h2],fun i hi=>?_⟩
  cases i with
  | zero=>simpa using hw
  | succ i=>simpa using h3 i (by simpa using hi)
theorem bytes_of_ints (zs:List Int) (h:∀j,j < zs.length→0≤zs.getD j 0∧zs.getD j 0≤255):∃l:List UInt8,l.length=zs.length∧zs.map (Value.int .u8)=byts l:=by
 induction zs with
 | nil=>exact⟨[],rfl,rfl⟩
 | cons z zs ih =>
  have h0:=h 0 (by simp)
  obtain⟨l,h1,h2⟩:=ih (fun j hj=>by simpa using h (j+1) (by simpa using hj))
  simp only[List.getD_cons_zero] at h0
  refine⟨UInt8.ofNat z.toNat :: l,by simp[h1],?_⟩
  show Value.int .u8 z :: zs.map (Value.int .u8)=Value.int .u8 ((UInt8.ofNat z.toNat).toNat:Int) :: byts l
  rw[h2,UInt8.toNat_ofNat']
  congr 2
  omega
end Go.Proofs.YtjieebmcbpdeiaaGreatDoor
namespace Go.Proofs.YtjieebmcbpdeiaaGreatDoor
open Go.RowKit
theorem infoByte:(Tryz.prog.info? 5).map (fun i=>(i.zero,i.size,i.bytes))=some (some (.int .u8 0),1,1):=by kernel_rfl
end Go.Proofs.YtjieebmcbpdeiaaGreatDoor
namespace Go.Proofs.YtjieebmcbpdeiaaGreatDoor
open Go Go.RowKit
theorem all_one {xs:List Value} (h:∀v∈xs,v.oneCell'=true):xs.toArray.all (·.oneCell')=true:=by
 simpa using h
theorem row_new_set {w w3:World} {old:Array Value} {t:TypeId} {xs:List Value} (h:(w.alloc (.cells old t)).setRow w.heap.size xs.toArray=w3):Row w3 w.heap.size t xs∧Below w.heap.size w w3:=by
 subst h
 exact⟨setRow_heap _ _ _ _ _ _ (heap_alloc_new w _),below_setRow ((Below.refl _ _).alloc (Nat.le_refl _) _) (Nat.le_refl _) _⟩
theorem range_of_row {w:World} {g:Nat} {t:TypeId} {A B C:List Value} (h:Row w g t (A++(B++C))):w.rangeAt g A.length B:=by
 intro j v hj
 have hl:j < B.length:=(List.getElem?_eq_some_iff.1 hj).1
 rw[h.cell,List.getElem?_append_right (by omega),show A.length+j - A.length=j by omega,List.getElem?_append_left hl,hj]
theorem grown_of_below {w w':World} (h:Below w.heap.size w w') (row:Option Nat):w.grownBy w' row:=⟨h.os,h.tape,h.output,h.size,fun k hk _=>h.block k hk⟩
theorem grown_trans {a b c:World} {row:Option Nat} (h:a.grownBy b row) (k:b.grownBy c row):a.grownBy c row :=
 ⟨k.os.trans h.os,k.tape.trans h.tape,k.output.trans h.output,Nat.le_trans h.size k.size,fun i hi hr=>(k.block i (Nat.lt_of_lt_of_le hi h.size) hr).trans (h.block i hi hr)⟩
theorem grown_refl (w:World) (row:Option Nat):w.grownBy w row:=⟨rfl,rfl,rfl,Nat.le_refl _,fun _ _ _=>rfl⟩
theorem grown_setRow (w:World) (g:Nat) (cs:Array Value):w.grownBy (w.setRow g cs) (some g) :=
 ⟨rfl,rfl,rfl,by simp[World.setRow],fun k _ hr=>setRow_other w g k cs (fun e=>hr (by rw[e]))⟩
theorem grown_setCell (w:World) (g i:Nat) (v:Value):w.grownBy (w.setCell ⟨g,i,none⟩ v) (some g) :=
 ⟨rfl,rfl,rfl,by simp[World.setCell],fun k _ hr=>Below.heap_setCell _ _ _ _ (fun e=>hr (by rw[e]))⟩
theorem Row.setRow {w:World} {g t:Nat} {xs:List Value} (h:Row w g t xs) (ys:List Value):Row (w.setRow g ys.toArray) g t ys :=
 setRow_heap w g _ _ t _ h
theorem Row.grown {w w':World} {g k t:Nat} {xs:List Value} (h:Row w g t xs) (hg:w.grownBy w' (some k)) (hne:g≠k):Row w' g t xs:=by
 have hl:=h.lt
 unfold Row at h ⊢
 rw[hg.block g hl (fun e=>hne (Option.some.inj e))];exact h
theorem Sl.apart {w w':World} {A:Option Addr} {g c:Nat} {xs:List Value} (h:Sl w A c xs) (hg:w.grownBy w' (some g)) (hne:0 < xs.length→∀a,A=some a→a.block≠g):Sl w' A c xs:=by
 refine⟨?_,h.room,h.bare⟩
 rcases h.rd with hn | ⟨b,o,hA,hlt,hc⟩
 ·exact .inl hn
 ·subst hA
  refine .inr ⟨b,o,rfl,Nat.lt_of_lt_of_le hlt hg.size,fun i hi=>?_⟩
  rw[World.cell?_of_block (w:=w) (hg.block b hlt (fun e=>hne (by omega) _ rfl (Option.some.inj e)))]
  exact hc i hi
theorem Sl.pre {w:World} {A:Option Addr} {c:Nat} {xs ys:List Value} (h:Sl w A c (xs++ys)):Sl w A c xs:=by
 refine⟨?_,by have:=h.room;rw[List.length_append] at this;omega,h.bare⟩
 by_cases h0:xs=[]
 ·exact .inl h0
 ·have hx:0 < xs.length:=List.length_pos_iff.2 h0
  rcases h.rd with hn | ⟨b,o,hA,hlt,hc⟩
  ·exact absurd (List.append_eq_nil_iff.1 hn).1 h0
  ·refine .inr ⟨b,o,hA,hlt,fun i hi=>?_⟩
   rw[hc i (by rw[List.length_append];omega),List.getElem?_append_left hi]
theorem Sl.take {w:World} {A:Option Addr} {c k:Nat} {xs:List Value} (h:Sl w A c xs):Sl w A c (xs.take k):=by
 have e:xs=xs.take k++xs.drop k:=(List.take_append_drop k xs).symm
 rw[e] at h
 exact h.pre
theorem index_bytes (A:Option Addr) (b o n c k:Nat) (hA:A=some ⟨b,o,none⟩) (hk:k < n) (w:World) :
  (Instr.indexAt 81 (.slice A n c) (.int .i64 k)).run Tryz.prog w=.ok (.pointer (some ⟨b,o+k,none⟩)) w:=by
 subst hA
 have h:(k:Int) < (n:Int):=by omega
 go_simp
theorem byts_set (ys:List UInt8) (j:Nat) (y:UInt8):(byts ys).set j (.int .u8 (y.toNat:Int))=byts (ys.set j y):=by
 unfold byts;rw[List.map_set]
theorem row_range {w:World} {g:Nat} {t:TypeId} {xs:List Value} (h:Row w g t xs):w.rangeAt g 0 xs:=by
 have:=range_of_row (A:=[]) (C:=[]) (by rw[List.append_nil];exact h:Row w g t ([]++(xs++[])))
 exact this
theorem Sl.hpos {w:World} {A:Option Addr} {c:Nat} {xs:List Value} (h:Sl w A c xs) (h0:0 < xs.length):∃ad,A=some ad∧∀j v,xs[j]?=some v→w.cell? (ad.add j)=some v:=by
 obtain⟨b,o,rfl,_,_⟩:=h.rd.get h0
 exact⟨_,rfl,h.rd.at_add⟩
theorem step_alloc {P:Program} {w:World} {ops:Array Oper} {o:Oper} {a:Act} {K:Act→World→Prop} {Q:Exit→Act→World→Prop} {E:Prop} (dst:Option Tmp) (hdst:o.dst=dst) (hgd:Region.wanted o (yielded ops a.tmps)=true)
  (v:Value) (ob:Obj) (hrun:(execOp a.eval o).run P w=.ok (.value v) (w.alloc ob))
  (h:∀w',w'=w.alloc ob→Below w.heap.size w w'→K (a.put dst v) w'):if Region.wanted o (yielded ops a.tmps)=true then Oper.wp P o a w K Q else E:=by
 subst hdst
 rw[if_pos hgd]
 unfold Oper.wp
 rw[hrun]
 exact h _ rfl ((Below.refl _ w).alloc (Nat.le_refl _) ob)
theorem row_set {w w4:World} {g t:Nat} {old xs:List Value} (h0:Row w g t old) (h:w.setRow g xs.toArray=w4):Row w4 g t xs∧w.grownBy w4 (some g):=by
 subst h
 exact⟨h0.setRow _,grown_setRow _ _ _⟩
theorem own_of_row {w:World} {g t base:Nat} {xs:List Value} (h:Row w g t xs) (hb:base≤g) (hm:xs.length≤maxLen):w.ownsRow base t 1 (.slice (some ⟨g,0,none⟩) xs.length xs.length) xs.length xs :=
 ⟨by rw[Nat.mul_one],.inr ⟨g,xs.length,xs.toArray,rfl,hb,h,Nat.le_refl _,hm,by rw[List.size_toArray,Nat.mul_one],by rw[Nat.mul_one];exact List.take_length⟩⟩
theorem results_row_tmp {P:Program} {fn:Func} {p u:Tmp} {ty:TypeId} (h:fn.results=#[.cell p ty,.tmp u]) (tmps:Array Value) (w:World) (g:Nat) (t:TypeId) (cs:Array Value) (fr:Nat×Nat) (d:TypeDesc)
  (hp:tmps.getD p undef=.pointer (some ⟨g,0,none⟩)) (hg:w.heap[g]?=some (.cells cs t fr))
  (hu:P.underlying ty=some d) (hd:(match d with | .struct _ | .array _ _=>true | _=>false)=true) (hi:(P.info? ty).map (·.size)=some cs.size) (v:Value) (hv:tmps.getD u undef=v) :
  (results fn tmps).run P w=.ok (.tuple #[.agg cs,v]) w:=by
 rw[results_cell_tmp h,hp,hv]
 simp[asAddr,Result.andThen,run_loadVar_row w g t ty cs fr d hg hu hd hi]
section
variable {P:Program} {w:World} {ops:Array Oper} {o:Oper} {a:Act} {K:Act→World→Prop} {Q:Exit→Act→World→Prop} {E:Prop}
theorem put_none (l:List Value) (d:List Deferred) (v:Value):({ tmps:=l.toArray,defers:=d } : Act).put none v={ tmps:=l.toArray,defers:=d }:=rfl
theorem step_load_mid (dst:Option Tmp) (hdst:o.dst=dst) (hgd:Region.wanted o (yielded ops a.tmps)=true) (ty:TypeId) (x:Operand) (ho:o.op=.load ty x)
  (b off:Nat) (hx:a.eval x=.pointer (some ⟨b,off,none⟩)) (cs:List Value) (d:TypeDesc) (hc:w.rangeAt b off cs)
  (hu:P.underlying ty=some d) (hd:d.isRow=true) (hi:(P.info? ty).map (·.size)=some cs.length)
  (h:K (a.put dst (.agg cs.toArray)) w):if Region.wanted o (yielded ops a.tmps)=true then Oper.wp P o a w K Q else E:=by
 subst hdst;rw[if_pos hgd];exact wp_load_mid ty x ho b off hx cs d hc hu hd hi h
theorem run_load_op (ty:TypeId) (x:Operand) (ho:o.op=.load ty x)
  (b off:Nat) (hx:a.eval x=.pointer (some ⟨b,off,none⟩)) (cs:List Value) (d:TypeDesc) (hc:w.rangeAt b off cs)
  (hu:P.underlying ty=some d) (hd:d.isRow=true) (hi:(P.info? ty).map (·.size)=some cs.length):(execOp a.eval o).run P w=.ok (.value (.agg cs.toArray)) w:=by
 unfold execOp
 simp only[ho,hx,Instr.loadAt,Instr.sureAddr,Sem.run_bind,Sem.run_pure,Result.andThen_ok,run_loadVar_mid w b off ty cs d hc hu hd hi]
theorem run_store_row (ty:TypeId) (g off:Nat) (t:TypeId) (cur cs:List Value) (hr:Row w g t cur) (hfit:off+cs.length≤cur.length) (hi:(P.info? ty).map (·.size)=some cs.length) (h1:∀v∈cs,v.oneCell'=true) :
  (Instr.storeAt ty (.pointer (some ⟨g,off,none⟩)) (.agg cs.toArray)).run P w=.ok () (w.setRow g (splice cur off cs).toArray):=by
 have hst:=run_storeCells_at P g off t cs 0 cur.toArray w hr (by simpa using hfit) h1
 cases hq:P.info? ty with
 | none=>simp[hq] at hi
 | some i =>
  have hs:i.size=cs.length:=by simpa [hq] using hi
  simp only[Nat.add_zero] at hst
  simp[Instr.storeAt,Instr.sureAddr,storeVar,sizeOf,typeInfo,hq,Value.cells,hs,hst,splice]
theorem step_store_row (dst:Option Tmp) (hdst:o.dst=dst) (hgd:Region.wanted o (yielded ops a.tmps)=true) (ty:TypeId) (x y:Operand) (ho:o.op=.store ty x y)
  (g off:Nat) (t:TypeId) (cur cs:List Value) (hx:a.eval x=.pointer (some ⟨g,off,none⟩)) (hy:a.eval y=.agg cs.toArray) (hr:Row w g t cur) (hfit:off+cs.length≤cur.length) (hi:(P.info? ty).map (·.size)=some cs.length) (h1:∀v∈cs,v.oneCell'=true)
  (h:∀w',Row w' g t (splice cur off cs)→w.grownBy w' (some g)→K (a.put dst undef) w'):if Region.wanted o (yielded ops a.tmps)=true then Oper.wp P o a w K Q else E:=by
 subst hdst
 rw[if_pos hgd]
 unfold Oper.wp execOp
 simp only[ho,hx,hy,run_store_row ty g off t cur cs hr hfit hi h1,Sem.run_bind,Sem.run_pure,Result.andThen_ok]
 exact h _ (hr.setRow _) (grown_setRow _ _ _)
theorem step_copy_row (dst:Option Tmp) (hdst:o.dst=dst) (hgd:Region.wanted o (yielded ops a.tmps)=true) (d s:Operand) (dT sT:TypeId)
  (ho:o.op=.call { callee:=.builtin .copy,args:=#[d,s],argTypes:=#[dT,sT] }) (elem:TypeId) (hu:P.underlying dT=some (.slice elem)) (hsz:(P.info? elem).map (·.size)=some 1)
  (g off dLen dCap:Nat) (ad:Addr) (sLen sCap:Nat) (hd:a.eval d=.slice (some ⟨g,off,none⟩) dLen dCap) (hs:a.eval s=.slice (some ad) sLen sCap)
  (t:TypeId) (cur:List Value) (hg:Row w g t cur) (cs:List Value) (n:Nat) (hl:cs.length=n) (hn:n=Nat.min sLen dLen)
  (hsrc:∀j v,cs[j]?=some v→w.cell? (ad.add j)=some v) (hfit:off+cs.length≤cur.length) (h1:∀v∈cs,v.oneCell'=true)
  (h:∀w',Row w' g t (splice cur off cs)→w.grownBy w' (some g)→K (a.put dst (goInt n)) w'):if Region.wanted o (yielded ops a.tmps)=true then Oper.wp P o a w K Q else E:=by
 subst hl hdst
 rw[if_pos hgd]
 have hrun:=run_copy_row (P:=P) w dT sT o.type elem g off dLen dCap ad sLen sCap cur.toArray t cs hu hsz hg hn hsrc (by simpa using hfit) h1
 unfold Oper.wp
 simp[execOp,ho,resolve,invoke,builtin,hd,hs,hrun,Result.andThen]
 have hR:=hg.setRow (splice cur off cs)
 have hG:=grown_setRow w g (splice cur off cs).toArray
 simp only[splice] at hR hG h
 exact h _ hR hG
end
section
variable {P:Program} {md:Region.Mode} {ops:Array Oper} {Q:Exit→Act→World→Prop} {S:World→Prop} {fuel:Nat} {listed:Array Bool} {a:Act} {w:World}
theorem rskip (i:Nat) (o:Oper) (d:Option Tmp) (hi:ops[i]?=some o) (hd:o.dst=d) (hs:Region.noSelect ops=true) (hf:Region.free md ops listed i=true) (hr:(Region.ready md ops listed).contains i=true)
  (hQ:∀c a w,Q (.panic c) (a.put d undef) w→Q (.panic c) a w) (hw:Region.wanted o (yielded ops a.tmps)=false) (hS:S w)
  (h:wpAnyH P md ops Q S fuel (listed.setIfInBounds i true) (a.put d undef) w):wpAnyH P md ops Q S (fuel+1) listed a w:=by
 subst hd
 exact wpAnyH_take hi hs hf hr hQ (Or.inr ⟨hw,rfl⟩) hS h
end
theorem own_base {w:World} {b b' t n:Nat} {v:Value} {xs:List Value} (h:w.ownsRow b t 1 v n xs) (hb:b'≤b):w.ownsRow b' t 1 v n xs:=by
 obtain⟨hl,h | ⟨g,cap,cur,rfl,hg,h⟩⟩:=h
 ·exact⟨hl,.inl h⟩
 ·exact⟨hl,.inr ⟨g,cap,cur,rfl,Nat.le_trans hb hg,h⟩⟩
def bstr (l:List UInt8):ByteArray:=⟨l.toArray⟩
theorem foldl_push (l:List UInt8) (s:ByteArray):(l.map fun b=>(b.toNat:Int)).foldl (fun r n=>r.push (UInt8.ofNat n.toNat)) s=⟨s.data++l.toArray⟩:=by
 induction l generalizing s with
 | nil=>simp
 | cons b l ih =>
  rw[List.map_cons,List.foldl_cons,ih]
  simp[ByteArray.push]
theorem conv_bytes {w:World} {A:Option Addr} {c:Nat} {l:List UInt8} (h:Sl w A c (byts l)) (n:Nat) (hn:n=l.length) :
  (convert 81 9 (.slice A n c)).run Tryz.prog w=.ok (.string (bstr l)) w:=by
 subst hn
 rw[run_convert_bytes_string w _ _ 5 A l.length c Tryz.underlying81 Tryz.underlying5 Tryz.underlying9]
 cases A with
 | none =>
  have hc:=h.bare rfl
  have hr:=h.room
  rw[length_byts] at hr
  obtain rfl:l=[]:=List.eq_nil_of_length_eq_zero (by omega)
  rfl
 | some ad =>
  have e:byts l=(l.map fun b=>(b.toNat:Int)).map (Value.int .u8):=by unfold byts;simp
  have hld:(loadCells ad l.length).run Tryz.prog w=.ok ((l.map fun b=>(b.toNat:Int)).map (Value.int .u8)).toArray w:=by
   have:=run_loadCells_list (P:=Tryz.prog) w ad (byts l) h.rd.at_add
   rw[length_byts,e] at this
   exact this
  rw[run_bytesToString w ad l.length c _ hld,foldl_push]
  simp[bstr]
theorem sl_of_own {w:World} {base t n g cap:Nat} {xs:List Value} (h:w.ownsRow base t 1 (.slice (some ⟨g,0,none⟩) n cap) n xs):Sl w (some ⟨g,0,none⟩) cap xs:=by
 obtain⟨A3,c3,he,_,h3⟩:=Sl.of_own h
 injection he with e1 e2 e3
 subst e1 e3
 exact h3
theorem bstr_inj {a b:List UInt8} (h:bstr a=bstr b):a=b:=by
 unfold bstr at h
 injection h with h
 injection h
theorem index_bstr (l:List UInt8) (k:Nat) (hk:k < l.length) (w:World):(Instr.index 9 (.string (bstr l)) (.int .i64 (k:Int))).run Tryz.prog w=.ok (.int .u8 ((l.getD k 0).toNat:Int)) w:=by
 have hs:(k:Int) < ((bstr l).size:Int):=by unfold bstr;simp[ByteArray.size];omega
 obtain⟨S,hS⟩:∃S,S=bstr l:=⟨_,rfl⟩
 have hz:k < S.size:=by rw[hS];unfold bstr;simpa [ByteArray.size] using hk
 have hg:S[k]=l[k]:=by subst hS;rfl
 have HG:=Lib.hid hg
 rw[←hS] at hs ⊢
 clear hS hg
 go_simp
 rw[HG.out]
theorem bstr_toList (l:List UInt8):(bstr l).toList=l:=by rw[ByteArray.toList_eq];rfl
theorem bstr_beq (l k:List UInt8):((bstr l).toList==(bstr k).toList)=decide (l=k):=by
 rw[bstr_toList,bstr_toList]
 by_cases h:l=k
 ·subst h;simp
 ·rw[decide_eq_false h,beq_eq_false_iff_ne];exact h
theorem bstr_cat12 (a b:List UInt8):bstr a++bstr b=bstr (a++b):=by
 apply ByteArray.ext
 show (ByteArray.append _ _).data=_
 simp[bstr]
def hexD (n:Nat):UInt8:=if n < 10 then UInt8.ofNat (48+n) else UInt8.ofNat (87+n)
theorem set_two (X rest:List Value) (n:Nat) (hn:X.length=n) (y z a b:Value):((X++y :: z :: rest).set n a).set (n+1) b=(X++[a,b])++rest:=by
 subst hn
 rw[List.set_append_right _ _ (Nat.le_refl _),Nat.sub_self,List.set_cons_zero,List.set_append_right _ _ (by omega),show X.length+1 - X.length=1 by omega,List.set_cons_succ,List.set_cons_zero,List.append_assoc]
 rfl
theorem size_bstr (l:List UInt8):(bstr l).size=l.length:=by unfold bstr;simp[ByteArray.size]
theorem bytesRow_list (l:List UInt8) (cap:Nat):bytesRow (bstr l) cap=(byts l++List.replicate (cap - l.length) (Value.int .u8 0)).toArray:=by
 unfold bytesRow byts
 rw[size_bstr]
 apply Array.ext'
 simp[bstr]
theorem conv_string (w:World) (l:List UInt8):∃c w',(convert 9 81 (.string (bstr l))).run Tryz.prog w=.ok (.slice (some ⟨w.heap.size,0,none⟩) l.length c) w'∧Sl w' (some ⟨w.heap.size,0,none⟩) c (byts l)∧Below w.heap.size w w':=by
 have h:=run_bytes_of_string (P:=Tryz.prog) w 9 81 5 (bstr l) Tryz.underlying9 Tryz.underlying81 Tryz.underlying5
 rw[size_bstr] at h
 refine⟨_,_,h,⟨?_,by rw[length_byts];exact grownCap_ge w l.length 0 5,fun h=>by cases h⟩,((Below.refl _ w).drew).alloc (Nat.le_refl _) _⟩
 refine .inr ⟨w.heap.size,0,rfl,by rw[World.size_alloc];show w.heap.size < w.heap.size+1;omega,fun i hi=>?_⟩
 rw[Nat.zero_add,cell_of_row _ w.heap.size i _ _ _ (Go.heap_alloc_new w.drew _),bytesRow_list]
 rw[List.getElem?_toArray,List.getElem?_append_left hi]
theorem wpList_conv_string {w:World} {ops:Array Oper} {rest:List Oper} {o:Oper} {a:Act} {Q:Exit→Act→World→Prop} (hgd:o.guard=none) (x:Operand)
  (ho:o.op=.convert 9 81 x) (l:List UInt8) (hx:a.eval x=.string (bstr l))
  (h:∀A c w',Sl w' A c (byts l)→Below w.heap.size w w'→wpList Tryz.prog ops Q rest (a.put o.dst (.slice A l.length c)) w'):wpList Tryz.prog ops Q (o :: rest) a w:=by
 refine wpList_plain hgd fun _ hK=>?_
 obtain⟨c,w',hrun,hs,hb⟩:=conv_string w l
 unfold Oper.wp execOp
 simp only[ho,hx,hrun,Sem.run_bind,Sem.run_pure,Result.andThen_ok]
 exact hK _ _ (h _ _ _ hs hb)
def strsV (ss:List (List UInt8)):List Value:=ss.map fun l=>.string (bstr l)
theorem length_strsV (ss:List (List UInt8)):(strsV ss).length=ss.length:=by unfold strsV;simp
theorem get_strsV (ss:List (List UInt8)) (i:Nat) (h:i < ss.length):(strsV ss)[i]?=some (.string (bstr (ss.getD i []))):=by unfold strsV;simp[h]
theorem strsV_append (ss qs:List (List UInt8)):strsV (ss++qs)=strsV ss++strsV qs:=by unfold strsV;simp
theorem strsV_one (ss:List (List UInt8)):∀v∈strsV ss,v.oneCell'=true:=by
 intro v hv
 obtain⟨_,_,rfl⟩:=List.mem_map.1 hv
 rfl
theorem strsV_take (ss:List (List UInt8)) (k:Nat):strsV (ss.take k)=(strsV ss).take k:=by unfold strsV;rw[List.map_take]
theorem index_strs (A:Option Addr) (b o n c k:Nat) (hA:A=some ⟨b,o,none⟩) (hk:k < n) (w:World) :
  (Instr.indexAt 23 (.slice A n c) (.int .i64 k)).run Tryz.prog w=.ok (.pointer (some ⟨b,o+k,none⟩)) w:=by
 subst hA
 have h:(k:Int) < (n:Int):=by omega
 go_simp
theorem infoStr:(Tryz.prog.info? 9).map (fun i=>(i.zero,i.size,i.bytes))=some (some (.string ByteArray.empty),1,16):=by kernel_rfl
def sumS (ss:List (List UInt8)):Nat:=(ss.map fun l=>l.length+1).sum
theorem sumS_len (ss:List (List UInt8)):ss.length≤sumS ss:=by
 unfold sumS
 induction ss with
 | nil=>simp
 | cons l ss ih=>simp only[List.map_cons,List.sum_cons,List.length_cons];omega
theorem sumS_mem (ss:List (List UInt8)) (l:List UInt8) (h:l∈ss):l.length+1≤sumS ss:=by
 unfold sumS
 induction ss with
 | nil=>cases h
 | cons q ss ih =>
  simp only[List.map_cons,List.sum_cons]
  rcases List.mem_cons.1 h with rfl | h
  ·omega
  ·have:=ih h;omega
theorem strs_cell {w:World} {b o c:Nat} {ss:List (List UInt8)} (h:Sl w (some ⟨b,o,none⟩) c (strsV ss)) (k:Nat) (hk:k < ss.length):w.cell? ⟨b,o+k,none⟩=some (.string (bstr (ss.getD k []))):=by
 obtain⟨b',o',hA,_,hc⟩:=h.rd.get (i:=k) (by rw[length_strsV];exact hk)
 cases hA
 rw[hc,get_strsV _ _ hk]
theorem sl_made {w w':World} {t:TypeId} (xs:List Value) (h:w'=w.alloc (.cells xs.toArray t)) (n:Nat) (hn:xs.length=n):Sl w' (some ⟨w.heap.size,0,none⟩) n xs:=by
 subst h hn
 exact⟨Rd.row (ys:=[]) (by rw[List.append_nil];exact Row.new w t xs),Nat.le_refl _,fun h=>by cases h⟩
def numF:Nat→Nat→Nat→List UInt8
 | 0,_,n=>[hexD n]
 | k+1,b,n=>if n < b then [hexD n] else numF k b (n/b)++[hexD (n%b)]
def numL (b n:Nat):List UInt8:=numF n b n
theorem numF_fuel (b:Nat) (hb:2≤b):∀(k n:Nat),n≤k→numF k b n=numL b n:=by
 intro k
 induction k using Nat.strongRecOn with
 | _ k ih =>
  intro n hk
  cases k with
  | zero => obtain rfl : n = 0 := by omega
            rfl
  | succ k =>
   unfold numL
   cases n with
   | zero=>show (if 0 < b then [hexD 0] else _)=[hexD 0];rw[if_pos (by omega)]
   | succ n =>
    rw[numF,numF]
    by_cases h:n+1 < b
    ·rw[if_pos h,if_pos h]
    ·rw[if_neg h,if_neg h]
     have hd:(n+1)/b≤n:=by
      have:(n+1)/b < n+1:=Nat.div_lt_self (by omega) (by omega)
      omega
     rw[ih k (by omega) _ (by omega),ih n (by omega) _ hd]
theorem numL_small (b n:Nat) (h:n < b):numL b n=[hexD n]:=by
 unfold numL
 cases n with
 | zero=>rfl
 | succ n=>rw[numF,if_pos h]
theorem numL_great (b n:Nat) (hb:2≤b) (h:b≤n):numL b n=numL b (n/b)++[hexD (n%b)]:=by
 have hn:n=(n - 1)+1:=by omega
 have hd:n/b < n:=Nat.div_lt_self (by omega) (by omega)
 unfold numL
 rw[hn,numF,if_neg (by omega),←hn,numF_fuel b hb (n - 1) (n/b) (by omega)]
 rfl
theorem numL_ne (b n:Nat):numL b n≠[]:=by
 unfold numL
 cases n with
 | zero=>simp[numF]
 | succ n=>rw[numF];split<;>simp
theorem numL_pos (b n:Nat):0 < (numL b n).length:=List.length_pos_iff.2 (numL_ne b n)
theorem numL_len (b:Nat) (hb:2≤b):∀(k n:Nat),n < b^(k+1)→(numL b n).length≤k+1:=by
 intro k
 induction k with
 | zero=>intro n h;rw[numL_small b n (by simpa using h)];simp
 | succ k ih =>
  intro n h
  by_cases hs:n < b
  ·rw[numL_small b n hs];simp
  ·rw[numL_great b n hb (by omega),List.length_append]
   have:n/b < b^(k+1):=Nat.div_lt_of_lt_mul (by rw[Nat.pow_succ] at h;rwa [Nat.mul_comm])
   have:=ih _ this
   simp;omega
def zerosL:List Nat→Nat
 | []=>0
 | n :: l=>if n=0 then zerosL l+1 else 0
theorem zerosL_le (l:List Nat):zerosL l≤l.length:=by
 induction l with
 | nil=>exact Nat.le_refl _
 | cons n l ih=>rw[zerosL];split<;>simp<;>omega
def joinN:List Nat→List UInt8
 | []=>[]
 | [n]=>numL 16 n
 | n :: m :: l=>numL 16 n++58 :: joinN (m :: l)
structure Adr where
 v6:Bool
 b:List UInt8
def Adr.Ok (a:Adr):Prop:=a.b.length=16
def adrV (a:Adr):List Value:=.bool a.v6 :: byts a.b
theorem length_adrV {a:Adr} (h:a.Ok):(adrV a).length=17:=by unfold adrV;rw[List.length_cons,length_byts,h]
theorem adrV_one (a:Adr):∀v∈adrV a,v.oneCell'=true:=by
 intro v hv
 rcases List.mem_cons.1 hv with rfl | hv
 ·rfl
 ·obtain⟨_,_,rfl⟩:=List.mem_map.1 hv;rfl
def checkA (a:Adr):Bool:=a.v6||(a.b.drop 4).all (·==0)
def numsA (a:Adr):List Nat:=(List.range 8).map fun i=>(a.b.getD (2*i) 0).toNat*256+(a.b.getD (2*i+1) 0).toNat
def bestL (l:List Nat):Nat:=(List.range l.length).foldl (fun best i=>if zerosL (l.drop i) > zerosL (l.drop best) then i else best) 0
def textN (l:List Nat):List UInt8 :=
 let best:=bestL l
 let n:=zerosL (l.drop best)
 if n < 2 then joinN l else joinN (l.take best)++58 :: 58 :: joinN (l.drop (best+n))
def textA (a:Adr):List UInt8 :=
 if checkA a then
  if a.v6 then textN (numsA a)
  else numL 10 (a.b.getD 0 0).toNat++46 :: numL 10 (a.b.getD 1 0).toNat++46 :: numL 10 (a.b.getD 2 0).toNat++46 :: numL 10 (a.b.getD 3 0).toNat
 else []
set_option maxRecDepth 100000
theorem size_adr:(Tryz.prog.info? 26).map (·.size)=some 17:=by kernel_rfl
theorem adr_cell {w:World} {g:Nat} {a:Adr} (h:a.Ok) (hr:Row w g 26 (adrV a)) (k:Nat) (hk:k < 16):w.cell? ⟨g,1+k,none⟩=some (.int .u8 ((a.b.getD k 0).toNat:Int)):=by
 rw[hr.cell,Nat.add_comm]
 show (byts a.b)[k]?=_
 rw[get_byts _ _ (by rw[h];exact hk)]
theorem adr_v6 {w:World} {g:Nat} {a:Adr} (hr:Row w g 26 (adrV a)):w.cell? ⟨g,0,none⟩=some (.bool a.v6):=by rw[hr.cell];rfl
def bestK (l:List Nat) (k:Nat):Nat:=(List.range k).foldl (fun best i=>if zerosL (l.drop i) > zerosL (l.drop best) then i else best) 0
theorem bestK_succ (l:List Nat) (k:Nat):bestK l (k+1)=if zerosL (l.drop k) > zerosL (l.drop (bestK l k)) then k else bestK l k:=by
 unfold bestK
 rw[List.range_succ,List.foldl_append];rfl
theorem bestK_le (l:List Nat) (k:Nat):bestK l k≤k:=by
 induction k with
 | zero=>exact Nat.le_refl _
 | succ k ih=>rw[bestK_succ];split<;>omega
def digI (b:Nat) (c:UInt8):Int:=(List.range b).foldl (fun d j=>if hexD j=c then (j:Int) else d) (-1)
theorem digI_succ (b:Nat) (c:UInt8):digI (b+1) c=if hexD b=c then (b:Int) else digI b c:=by
 unfold digI
 rw[List.range_succ,List.foldl_append];rfl
theorem digI_bd (b:Nat) (c:UInt8):-1≤digI b c∧digI b c < b:=by
 induction b with
 | zero=>exact⟨by show (-1:Int)≤-1;omega,by show (-1:Int) < _;omega⟩
 | succ b ih=>rw[digI_succ];split<;>omega
theorem digI_hex (b:Nat) (c:UInt8) (h:0≤digI b c):hexD (digI b c).toNat=c:=by
 induction b with
 | zero=>exact absurd h (by show ¬(0:Int)≤-1;omega)
 | succ b ih =>
  rw[digI_succ] at h ⊢
  split
  ·rename_i e;simpa using e
  ·rename_i e;rw[if_neg e] at h;exact ih h
def foldV (b:Nat):Nat→List UInt8→Option Nat
 | n,[]=>some n
 | n,c :: s=>if digI b c < 0 then none else foldV b (n*b+(digI b c).toNat) s
def optI:Option Nat→Int
 | none=>-1
 | some n=>n
def valueL (b most:Nat) (s:List UInt8):Option Nat :=
 if s.length=0∨most < s.length then none
 else match foldV b 0 s with
  | none=>none
  | some n=>if numL b n=s then some n else none
theorem hexD_inj:∀i j:Nat,i < 16→j < 16→hexD i=hexD j→i=j:=by
 have h:∀i j:Fin 16,hexD i.1=hexD j.1→i=j:=by decide
 intro i j hi hj he
 exact congrArg Fin.val (h ⟨i,hi⟩ ⟨j,hj⟩ he)
theorem hexD_sign:∀i:Nat,i < 16→hexD i≠46∧hexD i≠58:=by
 have h:∀i:Fin 16,hexD i.1≠46∧hexD i.1≠58:=by decide
 intro i hi
 exact h ⟨i,hi⟩
theorem digI_hexD (b d:Nat) (hb:b≤16) (hd:d < b):digI b (hexD d)=d:=by
 induction b with
 | zero=>omega
 | succ b ih =>
  rw[digI_succ]
  by_cases h:d=b
  ·rw[if_pos (by rw[h]),h]
  ·rw[if_neg (fun e=>h (hexD_inj d b (by omega) (by omega) e.symm)),ih (by omega) (by omega)]
theorem foldV_append (b:Nat) (s t:List UInt8):∀n,foldV b n (s++t)=(foldV b n s).bind fun m=>foldV b m t:=by
 induction s with
 | nil=>intro n;rfl
 | cons c s ih =>
  intro n
  rw[List.cons_append,foldV,foldV]
  split
  ·rfl
  ·exact ih _
theorem foldV_one (b n d:Nat) (hb:b≤16) (hd:d < b):foldV b n [hexD d]=some (n*b+d):=by
 rw[foldV,digI_hexD b d hb hd,if_neg (by omega)];rfl
theorem foldV_num (b:Nat) (h2:2≤b) (hb:b≤16) (n:Nat):foldV b 0 (numL b n)=some n:=by
 induction n using Nat.strongRecOn with
 | _ n ih =>
  by_cases h:n < b
  ·rw[numL_small b n h,foldV_one b 0 n hb h];simp
  ·rw[numL_great b n h2 (by omega),foldV_append,ih (n/b) (Nat.div_lt_self (by omega) (by omega))]
   show foldV b (n/b) [hexD (n%b)]=_
   rw[foldV_one b _ _ hb (Nat.mod_lt _ (by omega)),Nat.mul_comm,Nat.div_add_mod]
theorem valueL_iff (b most:Nat) (h2:2≤b) (hb:b≤16) (p:List UInt8) (n:Nat):valueL b most p=some n↔numL b n=p∧p.length≤most:=by
 unfold valueL
 constructor
 ·intro h
  by_cases hbad:p.length=0∨most < p.length
  ·rw[if_pos hbad] at h;cases h
  ·rw[if_neg hbad] at h
   cases hf:foldV b 0 p with
   | none=>rw[hf] at h;cases h
   | some m =>
    rw[hf] at h
    by_cases he:numL b m=p
    ·simp only[if_pos he] at h
     cases h
     exact⟨he,by omega⟩
    ·simp only[if_neg he] at h;cases h
 ·rintro ⟨rfl,hl⟩
  have hp:=numL_pos b n
  rw[if_neg (by omega),foldV_num b h2 hb]
  simp
theorem numL_sign (b n:Nat) (h2:2≤b) (hb:b≤16):∀c∈numL b n,c≠46∧c≠58:=by
 induction n using Nat.strongRecOn with
 | _ n ih =>
  by_cases h:n < b
  ·rw[numL_small b n h]
   intro c hc
   rw[List.mem_singleton.1 hc]
   exact hexD_sign n (by omega)
  ·rw[numL_great b n h2 (by omega)]
   intro c hc
   rcases List.mem_append.1 hc with h1 | h1
   ·exact ih (n/b) (Nat.div_lt_self (by omega) (by omega)) c h1
   ·rw[List.mem_singleton.1 h1]
    exact hexD_sign _ (Nat.lt_of_lt_of_le (Nat.mod_lt _ (by omega)) hb)
theorem numL_inj (b m n:Nat) (h2:2≤b) (hb:b≤16) (h:numL b m=numL b n):m=n:=by
 have h1:=foldV_num b h2 hb m
 rw[h,foldV_num b h2 hb n] at h1
 exact (Option.some.inj h1).symm
def splitL (x:UInt8):List UInt8→List (List UInt8)
 | []=>[[]]
 | c :: s=>if c=x then [] :: splitL x s else match splitL x s with
  | []=>[[c]]
  | p :: ps=>(c :: p) :: ps
theorem splitL_ne (x:UInt8) (s:List UInt8):splitL x s≠[]:=by
 cases s with
 | nil=>simp[splitL]
 | cons c s =>
  rw[splitL]
  split
  ·simp
  ·split<;>simp
theorem splitL_hit (x:UInt8) (p t:List UInt8) (h:∀c∈p,c≠x):splitL x (p++x :: t)=p :: splitL x t:=by
 induction p with
 | nil=>simp[splitL]
 | cons c p ih =>
  rw[List.cons_append,splitL,if_neg (h c (List.mem_cons_self ..)),ih (fun q hq=>h q (List.mem_cons_of_mem _ hq))]
theorem splitL_end (x:UInt8) (p:List UInt8) (h:∀c∈p,c≠x):splitL x p=[p]:=by
 induction p with
 | nil=>rfl
 | cons c p ih=>rw[splitL,if_neg (h c (List.mem_cons_self ..)),ih (fun q hq=>h q (List.mem_cons_of_mem _ hq))]
theorem extract_bstr12 (l:List UInt8) (i j:Nat):(bstr l).extract i j=bstr ((l.drop i).take (j - i)):=ByteArray.extract_mk l i j
theorem splitL_len (x:UInt8) (s:List UInt8):(splitL x s).length≤s.length+1:=by
 induction s with
 | nil=>exact Nat.le_refl _
 | cons c s ih =>
  rw[splitL]
  split
  ·simp;exact ih
  ·split
   ·simp
   ·rename_i h;rw[h] at ih;simp at ih ⊢;omega
def glueL (x:UInt8):List (List UInt8)→List UInt8
 | []=>[]
 | [p]=>p
 | p :: q :: ps=>p++x :: glueL x (q :: ps)
theorem glueL_cons (x:UInt8) (p:List UInt8) (ps:List (List UInt8)) (h:ps≠[]):glueL x (p :: ps)=p++x :: glueL x ps:=by
 cases ps with
 | nil=>exact absurd rfl h
 | cons q ps=>rfl
theorem splitL_glue (x:UInt8) (ps:List (List UInt8)) (h:ps≠[]) (hx:∀p∈ps,∀c∈p,c≠x):splitL x (glueL x ps)=ps:=by
 induction ps with
 | nil=>exact absurd rfl h
 | cons p ps ih =>
  by_cases he:ps=[]
  ·subst he
   exact splitL_end x p (hx p (List.mem_cons_self ..))
  ·rw[glueL_cons x p ps he,splitL_hit x p _ (hx p (List.mem_cons_self ..)),ih he (fun q hq=>hx q (List.mem_cons_of_mem _ hq))]
theorem glueL_split (x:UInt8) (s:List UInt8):glueL x (splitL x s)=s:=by
 induction s with
 | nil=>rfl
 | cons c s ih =>
  rw[splitL]
  split
  ·rename_i h
   rw[glueL_cons x [] _ (splitL_ne x s),ih,h];rfl
  ·cases hsp:splitL x s with
   | nil=>exact absurd hsp (splitL_ne x s)
   | cons p ps =>
    rw[hsp] at ih
    show glueL x ((c :: p) :: ps)=_
    by_cases he:ps=[]
    ·subst he
     show c :: p=_
     rw[show p=s from ih]
    ·rw[glueL_cons x _ ps he]
     rw[glueL_cons x _ ps he] at ih
     rw[List.cons_append,ih]
theorem mem_glue (x:UInt8) (ps:List (List UInt8)) (c:UInt8) (h:c∈glueL x ps):c=x∨∃p∈ps,c∈p:=by
 induction ps with
 | nil=>cases h
 | cons p ps ih =>
  by_cases he:ps=[]
  ·subst he
   exact .inr ⟨p,List.mem_cons_self ..,h⟩
  ·rw[glueL_cons x p ps he] at h
   rcases List.mem_append.1 h with h | h
   ·exact .inr ⟨p,List.mem_cons_self ..,h⟩
   ·rcases List.mem_cons.1 h with h | h
    ·exact .inl h
    ·rcases ih h with h | ⟨q,hq,hc⟩
     ·exact .inl h
     ·exact .inr ⟨q,List.mem_cons_of_mem _ hq,hc⟩
theorem splitL_piece (x:UInt8) (s:List UInt8):∀p∈splitL x s,p.length≤s.length:=by
 induction s with
 | nil=>intro p hp;rw[splitL] at hp;rw[List.mem_singleton.1 hp];exact Nat.le_refl _
 | cons c s ih =>
  intro p hp
  rw[splitL] at hp
  split at hp
  ·rcases List.mem_cons.1 hp with rfl | hp
   ·simp
   ·have:=ih p hp;rw[List.length_cons];omega
  ·split at hp
   ·rw[List.mem_singleton.1 hp];simp
   ·rename_i q qs hq
    rcases List.mem_cons.1 hp with rfl | hp
    ·have:=ih q (by rw[hq];exact List.mem_cons_self ..);rw[List.length_cons,List.length_cons];omega
    ·have:=ih p (by rw[hq];exact List.mem_cons_of_mem _ hp);rw[List.length_cons];omega
theorem splitL_cons (x c:UInt8) (s:List UInt8):splitL x (c :: s)=if c=x then [] :: splitL x s else match splitL x s with
  | []=>[[c]]
  | p :: ps=>(c :: p) :: ps:=rfl
theorem splitL_app (x:UInt8) (s t:List UInt8):splitL x (s++x :: t)=splitL x s++splitL x t:=by
 have h1:=glueL_split x s
 induction s with
 | nil=>exact splitL_hit x [] t (fun c hc=>by cases hc)
 | cons c s ih =>
  rw[List.cons_append,splitL_cons,splitL_cons x c s,ih (glueL_split x s)]
  by_cases hc:c=x
  ·rw[if_pos hc,if_pos hc];rfl
  ·rw[if_neg hc,if_neg hc]
   cases hs:splitL x s with
   | nil=>exact absurd hs (splitL_ne x s)
   | cons p ps=>rfl
theorem glueL_app (x:UInt8) (a b:List (List UInt8)) (ha:a≠[]) (hb:b≠[]):glueL x (a++b)=glueL x a++x :: glueL x b:=by
 induction a with
 | nil=>exact absurd rfl ha
 | cons p ps ih =>
  by_cases hp:ps=[]
  ·subst hp
   rw[List.cons_append,List.nil_append,glueL_cons x p b hb];rfl
  ·rw[List.cons_append,glueL_cons x p _ (by simp[hp]),ih hp,glueL_cons x p ps hp,List.append_assoc];rfl
theorem two_rows {w w1:World} {A B:List Value} {tA tB:TypeId} (h:(w.alloc (.cells A.toArray tA)).alloc (.cells B.toArray tB)=w1) :
  Row w1 w.heap.size tA A∧Row w1 (w.heap.size+1) tB B∧Below w.heap.size w w1∧w1.heap.size=w.heap.size+2:=by
 subst h
 have s1:(w.alloc (.cells A.toArray tA)).heap.size=w.heap.size+1:=World.size_alloc _ _
 exact⟨heap_alloc2_old w _ _,heap_alloc2_new w _ _,((Below.refl _ w).alloc (Nat.le_refl _) _).alloc (by omega) _,by rw[World.size_alloc,s1]⟩
def goL (b dg most:Nat):List (List UInt8)→Option (List Nat)
 | []=>some []
 | p :: ps=>match valueL b dg p with
  | none=>none
  | some n=>if most < n then none else (goL b dg most ps).map (n :: ·)
def numbersL (b dg most:Nat) (x:UInt8) (s:List UInt8):Option (List Nat):=if s=[] then some [] else goL b dg most (splitL x s)
def bytes6 (l:List Nat):List UInt8:=l.flatMap fun n=>[UInt8.ofNat (n/256),UInt8.ofNat (n%256)]
theorem length_bytes6 (l:List Nat):(bytes6 l).length=2*l.length:=by
 unfold bytes6
 induction l with
 | nil=>rfl
 | cons x t ih=>rw[List.flatMap_cons,List.length_append,ih];simp;omega
theorem bytes6_succ (l:List Nat) (k:Nat) (h:k < l.length):bytes6 (l.take (k+1))=bytes6 (l.take k)++[UInt8.ofNat (l.getD k 0/256),UInt8.ofNat (l.getD k 0%256)]:=by
 unfold bytes6
 rw[List.take_add_one,List.flatMap_append]
 simp[h]
def sixA (l:List Nat):Adr:=⟨true,bytes6 l⟩
def zeroA:Adr:=⟨false,List.replicate 16 0⟩
theorem zeroA_ok:zeroA.Ok:=rfl
theorem joinN_glue (l:List Nat):joinN l=glueL 58 (l.map (numL 16)):=by
 induction l with
 | nil=>rfl
 | cons n l ih =>
  cases l with
  | nil=>rfl
  | cons m l =>
   show numL 16 n++58 :: joinN (m :: l)=_
   rw[ih];rfl
theorem goL_iff (b dg most:Nat) (h2:2≤b) (hb:b≤16) (ps:List (List UInt8)) (l:List Nat) :
  goL b dg most ps=some l↔l.map (numL b)=ps∧∀n∈l,n≤most∧(numL b n).length≤dg:=by
 induction ps generalizing l with
 | nil =>
  rw[goL]
  constructor
  ·intro h;cases h;exact⟨rfl,by simp⟩
  ·rintro ⟨h,_⟩;rw[List.map_eq_nil_iff.1 h]
 | cons p ps ih =>
  rw[goL]
  constructor
  ·intro h
   cases hv:valueL b dg p with
   | none=>rw[hv] at h;cases h
   | some n =>
    rw[hv] at h
    obtain⟨h1,h3⟩:=(valueL_iff b dg h2 hb p n).1 hv
    by_cases hm:most < n
    ·simp only[if_pos hm] at h;cases h
    ·simp only[if_neg hm] at h
     obtain⟨t,ht,rfl⟩:=Option.map_eq_some_iff.1 h
     obtain⟨h4,h5⟩:=(ih t).1 ht
     refine⟨by rw[List.map_cons,h1,h4],?_⟩
     intro q hq
     rcases List.mem_cons.1 hq with rfl | hq
     ·exact⟨by omega,by rw[h1];exact h3⟩
     ·exact h5 q hq
  ·rintro ⟨h,hall⟩
   cases l with
   | nil=>simp at h
   | cons n t =>
    rw[List.map_cons,List.cons.injEq] at h
    have hn:=hall n (List.mem_cons_self ..)
    rw[(valueL_iff b dg h2 hb p n).2 ⟨h.1,by rw[←h.1];exact hn.2⟩]
    simp only[if_neg (show ¬most < n by omega)]
    rw[(ih t).2 ⟨h.2,fun q hq=>hall q (List.mem_cons_of_mem _ hq)⟩];rfl
theorem numbersL_iff (b dg most:Nat) (x:UInt8) (h2:2≤b) (hb:b≤16) (hx:x=46∨x=58) (s:List UInt8) (l:List Nat) :
  numbersL b dg most x s=some l↔s=glueL x (l.map (numL b))∧∀n∈l,n≤most∧(numL b n).length≤dg:=by
 unfold numbersL
 by_cases h0:s=[]
 ·rw[if_pos h0,h0]
  constructor
  ·intro h;cases h;exact⟨rfl,by simp⟩
  ·rintro ⟨h,_⟩
   cases l with
   | nil=>rfl
   | cons n t =>
    have hp:=numL_ne b n
    cases t with
    | nil=>exact absurd h.symm hp
    | cons m t =>
     have:=congrArg List.length h
     simp[glueL] at this
 ·rw[if_neg h0,goL_iff b dg most h2 hb]
  constructor
  ·rintro ⟨h,hall⟩
   exact⟨by rw[h,glueL_split],hall⟩
  ·rintro ⟨h,hall⟩
   refine⟨?_,hall⟩
   have hl:l≠[]:=by
    rintro rfl
    exact h0 h
   rw[h,splitL_glue x _ (by simpa using hl)]
   intro p hp c hc
   obtain⟨n,_,rfl⟩:=List.mem_map.1 hp
   have:=numL_sign b n h2 hb c hc
   rcases hx with rfl | rfl
   ·exact this.1
   ·exact this.2
end Go.Proofs.YtjieebmcbpdeiaaGreatDoor
