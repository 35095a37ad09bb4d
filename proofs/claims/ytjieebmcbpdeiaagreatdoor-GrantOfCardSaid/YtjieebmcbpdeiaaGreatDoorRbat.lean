import Derived.Test.YtjieebmcbpdeiaaGreatDoorRbas
import Derived.Test.YtjieebmcbpdeiaaGreatDoorRbae
import Derived.Test.YtjieebmcbpdeiaaGreatDoorRbaq
import Derived.Deep.DeepCutAuto
import Derived.Test.YtjieebmcbpdeiaaGreatDoorRbar
import Derived.Test.YtjieebmcbpdeiaaGreatDoorRbaa
import Derived.Test.YtjieebmcbpdeiaaGreatDoorCards
import Derived.Test.YtjieebmcbpdeiaaGreatDoorTie
import Derived.Stop.LaidErr
import Derived.Shelf.Vars
import Derived.Test.YtjieebmcbpdeiaaGreatDoorRbao
namespace Go.Proofs.YtjieebmcbpdeiaaGreatDoor
set_option maxRecDepth 100000
open Go Go.RowKit
theorem textC_ne18 (b:Nat) (hb:b < 2^64) (h:nanC b=false):textC b≠[]:=by
 intro he
 have h1:=parse_text b hb h
 rw[he] at h1
 cases h1.symm.trans (show parseC []=none by decide)
theorem top_most (a:Adr) (ha:a.Ok) (hc:checkA a=true):topL a.b (mostA a.v6)=a.b:=by
 rw[top_iff a.b a.b ha]
 exact⟨fun _ _ _=>rfl,fun i h1 h2=>bit_upto a hc i h1 h2⟩
theorem has_most (a:Adr) (ha:a.Ok) (hc:checkA a=true):hasR ⟨a,(mostA a.v6:Nat)⟩ a=true:=by
 rw[hasR_iff]
 exact⟨⟨hc,Int.natCast_nonneg _,Int.le_refl _⟩,rfl,top_most a ha hc⟩
theorem join_one (s:List UInt8) (h:name16 s=true):joinL16 [s]=s:=by
 have hr:riseL [s]=true:=by
  rw[riseL_at]
  refine⟨Nat.le_refl _,by show (1:Nat)≤32;omega,fun i hi=>?_⟩
  have:i=0:=by simp at hi;exact hi
  subst this
  unfold okAt
  rw[show [s].getD 0 []=s from rfl,h];rfl
 unfold joinL16
 rw[if_pos hr];rfl
theorem name16_len (s:List UInt8) (h:name16 s=true):s≠[]∧s.length≤16:=by
 unfold name16 at h
 rw[Bool.and_eq_true,Bool.and_eq_true,decide_eq_true_iff,decide_eq_true_iff] at h
 exact⟨fun he=>by rw[he] at h;exact absurd h.1.1 (by decide),h.1.2⟩
theorem textP_of18 (p:Prd) (h2:(wordsP p).2≠[]) (ho:onlyP p=true) (hl:(wordsP p).1.length+(wordsP p).2.length≤511):textP p≠[]:=by
 unfold textP
 rw[if_neg (fun h=>by
  rcases h with h | h | h
  ·exact h2 h
  ·rw[ho] at h;cases h
  ·omega)]
 intro h
 have:=congrArg List.length h
 rw[List.length_append,List.length_cons] at this
 simp at this
theorem same_zero:sameR zeroR zeroR=true:=(sameR_iff _ _).2 rfl
theorem of_good (r:Req) (hr:r.Ok) (t:Nat):∀p∈ofL r,p.Ok∧textP p≠[]∧holdsL p r t=true:=by
 intro p hp
 unfold ofL at hp
 rw[List.mem_append,List.mem_append,List.mem_append] at hp
 rcases hp with hp | hp | hp | hp
 ·unfold ofOp at hp
  split at hp
  ·rename_i h
   obtain rfl:=List.mem_singleton.1 hp
   obtain⟨n1,n2⟩:=name16_len r.op h
   have hW:wordsP ⟨3,0,[r.op],[],zeroR,0⟩=([111,112],r.op):=by
    unfold wordsP
    rw[if_neg (by show ¬(3:Int)=1;decide),if_neg (by show ¬(3:Int)=2;decide),if_pos rfl,join_one r.op h]
   have ht:textP ⟨3,0,[r.op],[],zeroR,0⟩≠[]:=textP_of18 _ (by rw[hW];exact n1) (by unfold onlyP;rw[same_zero];rfl) (by rw[hW];show 2+r.op.length≤511;omega)
   refine⟨⟨zeroR_ok,by show (0:Nat) < _;omega,by show (0:Nat) < _;omega⟩,ht,?_⟩
   unfold holdsL
   rw[if_neg ht,if_neg (by show ¬(3:Int)=1;decide),if_neg (by show ¬(3:Int)=2;decide),if_pos rfl]
   exact decide_eq_true (List.mem_singleton.2 rfl)
  ·cases hp
 ·unfold ofPath at hp
  split at hp
  ·rename_i x h
   obtain rfl:=List.mem_singleton.1 hp
   obtain⟨n1,n2⟩:=normL_right r.path x h
   have hlen:=right_len x n1
   have hW:wordsP ⟨4,0,[],x,zeroR,0⟩=([112,97,116,104],x):=by
    unfold wordsP
    rw[if_neg (by show ¬(4:Int)=1;decide),if_neg (by show ¬(4:Int)=2;decide),if_neg (by show ¬(4:Int)=3;decide),if_pos ⟨rfl,n1⟩]
   have ht:textP ⟨4,0,[],x,zeroR,0⟩≠[]:=textP_of18 _ (by rw[hW];exact rightL_ne x n1) (by unfold onlyP;rw[same_zero];rfl) (by rw[hW];show 4+x.length≤511;omega)
   refine⟨⟨zeroR_ok,by show (0:Nat) < _;omega,by show (0:Nat) < _;omega⟩,ht,?_⟩
   unfold holdsL
   rw[if_neg ht,if_neg (by show ¬(4:Int)=1;decide),if_neg (by show ¬(4:Int)=2;decide),if_neg (by show ¬(4:Int)=3;decide),if_pos rfl,h]
   show (true&&underL x x)=true
   rw[underL_self,n1];rfl
  ·cases hp
 ·unfold ofNet at hp
  split at hp
  ·rename_i h
   obtain rfl:=List.mem_singleton.1 hp
   have hm:=has_most r.src hr.src h
   have hcr:checkR ⟨r.src,(mostA r.src.v6:Nat)⟩=true:=hm
   have hW:wordsP ⟨5,0,[],[],⟨r.src,(mostA r.src.v6:Nat)⟩,0⟩=([110,101,116],textA r.src++47 :: numL 10 (mostA r.src.v6)):=by
    unfold wordsP
    rw[if_neg (by show ¬(5:Int)=1;decide),if_neg (by show ¬(5:Int)=2;decide),if_neg (by show ¬(5:Int)=3;decide),if_neg (fun h=>absurd h.1 (by show ¬(5:Int)=4;decide)),if_pos rfl]
    unfold textR
    rw[if_pos hcr];rfl
   have hl1:=textA_len r.src
   have hl2:(numL 10 (mostA r.src.v6)).length≤3:=numL_len 10 (by omega) 2 _ (by have:=mostA_le r.src.v6;omega)
   have ht:textP ⟨5,0,[],[],⟨r.src,(mostA r.src.v6:Nat)⟩,0⟩≠[]:=textP_of18 _ (by rw[hW];intro h;have:=congrArg List.length h;rw[List.length_append,List.length_cons] at this;simp at this) rfl (by rw[hW];show 3+(textA r.src++47 :: numL 10 (mostA r.src.v6)).length≤511;rw[List.length_append,List.length_cons];omega)
   have hk:mostA r.src.v6≤128:=mostA_le _
   refine⟨⟨⟨hr.src,by show (-9223372036854775808:Int)≤((mostA r.src.v6:Nat):Int);omega,by show ((mostA r.src.v6:Nat):Int)≤_;omega⟩,by show (0:Nat) < _;omega,by show (0:Nat) < _;omega⟩,ht,?_⟩
   unfold holdsL
   rw[if_neg ht,if_neg (by show ¬(5:Int)=1;decide),if_neg (by show ¬(5:Int)=2;decide),if_neg (by show ¬(5:Int)=3;decide),if_neg (by show ¬(5:Int)=4;decide),if_pos rfl]
   exact hm
  ·cases hp
 ·unfold ofCost at hp
  split at hp
  ·cases hp
  ·rename_i h
   have h:nanC r.cost=false:=by cases hn:nanC r.cost with
    | true=>exact absurd hn h
    | false=>rfl
   obtain rfl:=List.mem_singleton.1 hp
   have hlen:=text_len r.cost
   have hW:wordsP ⟨6,0,[],[],zeroR,r.cost⟩=([99,111,115,116],textC r.cost):=by
    unfold wordsP
    rw[if_neg (by show ¬(6:Int)=1;decide),if_neg (by show ¬(6:Int)=2;decide),if_neg (by show ¬(6:Int)=3;decide),if_neg (fun h=>absurd h.1 (by show ¬(6:Int)=4;decide)),if_neg (by show ¬(6:Int)=5;decide),if_pos rfl]
   have ht:textP ⟨6,0,[],[],zeroR,r.cost⟩≠[]:=textP_of18 _ (by rw[hW];exact textC_ne18 r.cost hr.cost h) (by unfold onlyP;rw[same_zero];rfl) (by rw[hW];show 4+(textC r.cost).length≤511;omega)
   refine⟨⟨zeroR_ok,by show (0:Nat) < _;omega,hr.cost⟩,ht,?_⟩
   unfold holdsL
   rw[if_neg ht,if_neg (by show ¬(6:Int)=1;decide),if_neg (by show ¬(6:Int)=2;decide),if_neg (by show ¬(6:Int)=3;decide),if_neg (by show ¬(6:Int)=4;decide),if_neg (by show ¬(6:Int)=5;decide)]
   show atMostC r.cost r.cost=true
   rw[most_self,h];rfl
theorem text_holds (p:Prd) (ho:p.Ok) (h:textP p≠[]) (r:Req) (t:Nat):holdsT (textP p) r t=holdsL p r t:=by
 unfold holdsT
 rw[(parseP_iff (textP p) p).2 ⟨ho,rfl,h⟩];rfl
theorem text_len18 (p:Prd):(textP p).length≤512:=by
 by_cases h:textP p=[]
 ·rw[h];exact Nat.zero_le _
 ·obtain⟨-,-,hl,he⟩:=textP_ne p h
  rw[he,List.length_append,List.length_cons];omega
theorem of_len (r:Req):(ofL r).length≤4:=by
 unfold ofL ofOp ofPath ofNet ofCost
 rw[List.length_append,List.length_append,List.length_append]
 split<;>split<;>split<;>split<;>simp
theorem gmost_any (a:Adr) (w:World) :
  Calls Tryz.prog 42 #[.agg (adrV a).toArray] w fun e w'=>e=.returned (.int .i64 (mostA a.v6:Nat))∧Below w.heap.size w w':=by
 obtain⟨w1,hw1⟩:∃w1,w1=w.alloc (.cells (adrV a).toArray 26):=⟨_,rfl⟩
 have hr:Row w1 w.heap.size 26 (adrV a):=by rw[hw1];exact Row.new w _ _
 have hb:Below w.heap.size w w1:=by rw[hw1];exact (Below.refl _ w).alloc (Nat.le_refl _) _
 have hc6:=adr_v6 hr
 obtain⟨V,hV⟩:∃V,V=adrV a:=⟨_,rfl⟩
 rw[←hV] at hw1 ⊢
 clear hV hr
 cases h6:a.v6 with
 | true =>
  rw[h6] at hc6
  go_enter Tryz.func42,Tryz.ntmps42
  subst hw1
  go_wp2
  go_ret
  exact⟨rfl,hb⟩
 | false =>
  rw[h6] at hc6
  go_enter Tryz.func42,Tryz.ntmps42
  subst hw1
  go_wp2
  go_ret
  exact⟨rfl,hb⟩
def KeepX (W:World) (x:PrdX):Prop :=
 (x.2.1=none∧x.1.names=[]∧x.2.2=0∨∃g s,x.2.1=some ⟨g,0,none⟩∧x.1.names=[s]∧x.2.2=1∧Row W g 9 [.string (bstr s)]) ∧
 ∀W',Sl W' x.2.1 x.2.2 (strsV x.1.names)→PrdAt W' x.1 x.2.1 x.2.2
theorem KeepX.at {W:World} {x:PrdX} (h:KeepX W x):PrdAt W x.1 x.2.1 x.2.2:=by
 refine h.2 W ?_
 rcases h.1 with ⟨h1,h2,h3⟩ | ⟨g,s,h1,h2,h3,h4⟩
 ·rw[h1,h2,h3];exact sl_none16 W
 ·rw[h1,h2,h3];exact sl_row h4
theorem KeepX.later {W W':World} {x:PrdX} (h:KeepX W x) (hb:Below W.heap.size W W'):KeepX W' x:=by
 refine⟨?_,h.2⟩
 rcases h.1 with h1 | ⟨g,s,h1,h2,h3,h4⟩
 ·exact .inl h1
 ·exact .inr ⟨g,s,h1,h2,h3,h4.later hb h4.lt⟩
theorem KeepX.kept {W W':World} {x:PrdX} {base n:Nat} {v:Value} {ys:List Value} (h:KeepX W x) (hown:W.ownsRow base 31 23 v n ys) (hg:W.grownBy W' v.ownBlock):KeepX W' x:=by
 refine⟨?_,h.2⟩
 rcases h.1 with h1 | ⟨g,s,h1,h2,h3,h4⟩
 ·exact .inl h1
 ·exact .inr ⟨g,s,h1,h2,h3,Row.keptT h4 hown hg ne_types.2⟩
structure OfI (r:Req) (w:World) (o:List Prd) (v:Value) (wx:World):Prop where
 row:∃xs:List PrdX,xs.map (·.1)=o∧wx.ownsRow (w.heap.size+1) 31 23 v xs.length (xs.flatMap prdX)∧∀x∈xs,KeepX wx x
 req:Row wx w.heap.size 33 (reqV r)
 bel:Below w.heap.size w wx
 mx:w.heap.size+1≤wx.heap.size
theorem OfI.later {r:Req} {w wx wy:World} {o:List Prd} {v:Value} (h:OfI r w o v wx) (hb:Below wx.heap.size wx wy):OfI r w o v wy:=by
 obtain⟨xs,h1,h2,h3⟩:=h.row
 exact⟨⟨xs,h1,ownk_later h2 hb (Nat.le_refl _),fun x hx=>(h3 x hx).later hb⟩,h.req.later hb h.req.lt,h.bel.trans (hb.mono h.bel.size),Nat.le_trans h.mx hb.size⟩
theorem OfI.push {r:Req} {w W W':World} {o:List Prd} {v v':Value} (h:OfI r w o v W) {xs:List PrdX} (h1:xs.map (·.1)=o) (own:W.ownsRow (w.heap.size+1) 31 23 v xs.length (xs.flatMap prdX)) (hk:∀x∈xs,KeepX W x)
  (x:PrdX) (hx:KeepX W x) {P:List Value} (hP:P=prdX x) (own':W'.ownsRow (w.heap.size+1) 31 23 v' (xs.length+1) (xs.flatMap prdX++P)) (hg:W.grownBy W' v.ownBlock):OfI r w (o++[x.1]) v' W':=by
 refine⟨⟨xs++[x],by rw[List.map_append,h1];rfl,?_,?_⟩,Row.keptT h.req own hg ne_types.1,h.bel.grown hg h.bel.size (fun k hk=>Nat.le_trans (Nat.le_succ _) (own.lt k hk).1),Nat.le_trans h.mx hg.size⟩
 ·rw[List.length_append,List.flatMap_append,List.flatMap_cons,List.flatMap_nil,List.append_nil,←hP];exact own'
 ·intro y hy
  rcases List.mem_append.1 hy with hy | hy
  ·exact (hk y hy).kept own hg
  ·obtain rfl:=List.mem_singleton.1 hy
   exact hx.kept own hg
theorem OfI.start (r:Req) (w:World):OfI r w [] (.slice none 0 0) (w.alloc (.cells (reqV r).toArray 33)) :=
 ⟨⟨[],rfl,World.ownsRow_nil _ _ _ _,fun _ h=>by cases h⟩,Row.new w _ _,(Below.refl _ w).alloc (Nat.le_refl _) _,by rw[World.size_alloc];exact Nat.le_refl _⟩
theorem keep_op {W:World} {g:Nat} (s:List UInt8) (hs:s.length≤1000) (nm:Row W g 9 [Value.string (bstr s)]):KeepX W (⟨3,0,[s],[],zeroR,0⟩,some ⟨g,0,none⟩,1) :=
 ⟨.inr ⟨g,s,rfl,rfl,rfl,nm⟩,fun _ h=>⟨(at_op s hs nm).ok,h,(at_op s hs nm).lo,(at_op s hs nm).hi,(at_op s hs nm).path,(at_op s hs nm).sum⟩⟩
theorem keep_of {W:World} {p:Prd} (h:PrdAt W p none 0) (hn:p.names=[]):KeepX W (p,none,0) :=
 ⟨.inl ⟨rfl,hn,rfl⟩,fun _ h'=>⟨h.ok,h',h.lo,h.hi,h.path,h.sum⟩⟩
theorem ofOk_most (a:Adr):ofOk a (mostA a.v6:Nat)=checkA a:=by
 unfold ofOk
 rw[decide_eq_true (Int.natCast_nonneg _),decide_eq_true (Int.le_refl _),Bool.and_true,Bool.and_true]
theorem ofR_most (a:Adr) (ha:a.Ok) (h:checkA a=true):ofR a (mostA a.v6:Nat)=⟨a,(mostA a.v6:Nat)⟩:=by
 rw[ofR_good a _ ((ofOk_most a).trans h)]
 unfold topA
 rw[Int.toNat_natCast,top_most a ha h]
theorem few_op (r:Req):(ofOp r).length≤1:=by unfold ofOp;split<;>simp
theorem few_path (r:Req):(ofPath r).length≤1:=by unfold ofPath;split<;>simp
theorem few_net (r:Req):(ofNet r).length≤1:=by unfold ofNet;split<;>simp
set_option maxHeartbeats 4000000 in
theorem pof18_any (r:Req) (w:World) (hr:r.Ok) (_hE:EnvQ w) :
  Calls Tryz.prog 16 #[.agg (reqV r).toArray] w fun e w'=>∃v xs,e=.returned v∧xs.map (·.1)=ofL r∧PrdsOwn w' w.heap.size v xs∧Below w.heap.size w w':=by
 obtain⟨i0,z0,by0,hi,hz0,hsz0,hby0,hzs0,hle0⟩:=infoP18
 have RC:=Lib.hid (fun W g (h:Row W g 33 (reqV r))=>req_row r W g h hr.src)
 have hsA:=Lib.hid (show (Tryz.prog.info? 26).map (·.size)=some (adrV r.src).length by rw[length_adrV hr.src];exact size_adr)
 have hnm:=fun w'=>xname_any r.op (by have:=hr.op;omega) w'
 have hno:=fun w'=>pnormal_any r.path (by have:=hr.path;omega) w'
 have hof:=fun w'=>aof_any r.src hr.src (mostA r.src.v6:Nat) w'
 have hms:=Lib.hid (fun w'=>gmost_any r.src w')
 have hnn:=fun w'=>misnan_any r.cost hr.cost w'
 rw[ofOk_most] at hof
 have h0:(name16 r.op=true→ofOp r=[⟨3,0,[r.op],[],zeroR,0⟩])∧(name16 r.op=false→ofOp r=[]):=⟨fun h=>by unfold ofOp;rw[h];rfl,fun h=>by unfold ofOp;rw[h];rfl⟩
 have h1:((normL r.path).isSome=true→ofPath r=[⟨4,0,[],(normL r.path).getD [],zeroR,0⟩]∧((normL r.path).getD []).length≤256)∧((normL r.path).isSome=false→ofPath r=[]):=by
  cases hn:normL r.path with
  | none=>exact⟨fun h=>by (cases h),fun _=>by unfold ofPath;rw[hn]⟩
  | some x=>exact⟨fun _=>⟨by unfold ofPath;rw[hn];rfl,norm_len _ _ hn⟩,fun h=>by (cases h)⟩
 have h2:(checkA r.src=true→ofNet r=[⟨5,0,[],[],⟨r.src,(mostA r.src.v6:Nat)⟩,0⟩]∧ofR r.src (mostA r.src.v6:Nat)=⟨r.src,(mostA r.src.v6:Nat)⟩)∧(checkA r.src=false→ofNet r=[]):=⟨fun h=>⟨by unfold ofNet;rw[h];rfl,ofR_most _ hr.src h⟩,fun h=>by unfold ofNet;rw[h];rfl⟩
 have h3:(nanC r.cost=false→ofCost r=[⟨6,0,[],[],zeroR,r.cost⟩])∧(nanC r.cost=true→ofCost r=[]):=⟨fun h=>by unfold ofCost;rw[h];rfl,fun h=>by unfold ofCost;rw[h];rfl⟩
 have hRl:(rngV (ofR r.src (mostA r.src.v6:Nat))).length=18:=length_rngV' _ (by unfold ofR;split;exact length_topL _ _;exact zeroR_ok.a)
 have hR1:=rngV_one' (ofR r.src (mostA r.src.v6:Nat))
 have hG:checkA r.src=true→rngV (ofR r.src (mostA r.src.v6:Nat))=rngV ⟨r.src,(mostA r.src.v6:Nat)⟩:=fun h=>by rw[(h2.1 h).2]
 obtain⟨N5,hN5⟩:∃N,N=rngV (ofR r.src (mostA r.src.v6:Nat)):=⟨_,rfl⟩
 rw[←hN5] at hof hRl hR1 hG
 have H0:=Lib.hid h0
 have H1:=Lib.hid h1
 have H2:=Lib.hid h2
 have H3:=Lib.hid h3
 have HG:=Lib.hid hG
 have hRl:=Lib.hid hRl
 have hR1:=Lib.hid hR1
 clear h0 h1 h2 h3 hN5 hG
 generalize name16 r.op=b0 at *
 generalize (normL r.path).isSome=b1 at *
 generalize (normL r.path).getD []=x at *
 generalize checkA r.src=b2 at *
 generalize nanC r.cost=b3 at *
 have hnm:=Lib.hid hnm
 have hno:=Lib.hid hno
 have hof:=Lib.hid hof
 have hnn:=Lib.hid hnn
 have I:=OfI.start r w
 have x0:(reqV r)[0]?=some (.string (bstr r.op)):=rfl
 obtain⟨R,hR⟩:∃R,R=reqV r:=⟨_,rfl⟩
 obtain⟨w1,hw1⟩:∃w1,w1=w.alloc (.cells R.toArray 33):=⟨_,rfl⟩
 rw[←hR] at x0 I ⊢
 rw[←hw1] at I
 have HW:=Lib.hid hw1
 have HR:=Lib.hid hR
 clear hw1 hR
 go_enter Tryz.func16,Tryz.ntmps16
 go_upto_if 10 with (go_at_call 40;rw[←HW.out];refine (hnm.out _).mono ?_;rintro e w2 ⟨rfl,hq⟩;have I:=I.later hq;clear hq)
 clear x0 HW hnm
 go_cut [3] (fun v wx=>OfI r w (ofOp r) v wx)
 case first =>
  cases b0
  ·have HO:=Lib.hid (H0.out.2 rfl)
   go_wp2
   go_meet
   case rel=>rw[HO.out];exact I
  ·have HO:=Lib.hid (H0.out.1 rfl)
   have nmB:=I.bel
   obtain⟨xx,hxo,own,hke⟩:=I.row
   have hmx:=I.mx
   obtain⟨n,hn⟩:∃n,n=xx.length:=⟨_,rfl⟩
   have hn3:n≤3:=by
    have e:n=(xx.map (·.1)).length:=by rw[hn,List.length_map]
    rw[e,hxo]
    simp
   have hbb:(n+1)*by0≤140737488355328:=Nat.le_trans (Nat.mul_le_mul (show n+1≤4 by omega) hle0) (by decide)
   obtain⟨xs,hxs⟩:∃xs,xs=xx.flatMap prdX:=⟨_,rfl⟩
   rw[←hn,←hxs] at own
   have HN:=Lib.hid hn
   have HXS:=Lib.hid hxs
   have HXO:=Lib.hid hxo
   have HKE:=Lib.hid hke
   have HI:=Lib.hid I
   clear hn hxs hxo hke
   have hI:=HI.out.req
   obtain⟨j0,-,-,-⟩:=RC.out _ _ hI
   obtain⟨P3,hP3⟩:∃P,P=prdV ⟨3,0,[r.op],[],zeroR,0⟩ (some ⟨w2.heap.size,0,none⟩) 1:=⟨_,rfl⟩
   have hl3:=Lib.hid (show P3.length=23 by rw[hP3];exact length_prdV _ zeroA_ok _ _)
   have ho3:=Lib.hid (show ∀u∈P3,u.oneCell'=true by have:=prdV_one ⟨3,0,[r.op],[],zeroR,0⟩ (some ⟨w2.heap.size,0,none⟩) 1;rw[←hP3,List.all_toArray] at this;exact fun u hu=>List.all_eq_true.1 this u hu)
   have hB3:=Lib.hid (show ∀w',(Instr.build 31 #[(0,.int .i64 3),(2,.slice (some ⟨w2.heap.size,0,none⟩) 1 1)]).run Tryz.prog w'=.ok (.agg P3.toArray) w' from fun w'=>by rw[hP3];exact build_3 (some ⟨w2.heap.size,0,none⟩) [r.op] 1 w')
   have HP3:=Lib.hid hP3
   clear hP3
   go_wp2_with (first
    | (refine wpList_build2 rfl 31 0 2 _ _ rfl (.int .i64 3) (.slice (some ⟨w2.heap.size,0,none⟩) 1 1) (.agg P3.toArray) rfl rfl (hB3.out _) ?_)
    | (refine wpList_sliceN rfl 44 1 [_] rfl [(0,.agg P3.toArray)] rfl _ (slice_onep P3 hl3.out _) ?_;refine Hid.out ?_))
   refine Lib.hid ?_
   obtain⟨w3,hw2⟩:∃w3,w3=(w2.alloc (.cells [Value.string (bstr r.op)].toArray 9)).alloc (.cells P3.toArray 31):=⟨_,rfl⟩
   rw[←hw2]
   obtain⟨nm,s3,hq⟩:=two_boxes hw2.symm
   have sl3:=sl_row s3
   rw[hl3.out] at sl3
   clear hw2 s3 j0 hI
   have HI:=Lib.hid (HI.out.later hq)
   have HKE:=Lib.hid (fun x hx=>(HKE.out x hx).later hq)
   have own:=ownk_later own hq (Nat.le_refl _)
   have hmx:=Nat.le_trans hmx hq.size
   clear hq
   go_wp2_with (first
    | (at_builtin;refine wpList_append_k rfl (.tmp 11) (.tmp 16) 44 rfl (w.heap.size+1) 31 i0 z0 23 by0 Tryz.underlying44 hi hz0 hsz0 (by omega) hby0 hzs0 _ n xs rfl own (some ⟨w2.heap.size+1,0,none⟩) 1 1 P3 rfl hl3.out sl3 ho3.out (by unfold maxLen;omega) hbb hmx ?_;intro v3 wa3 own3 hg3))
   clear hl3 ho3
   rw[HN.out,HXS.out] at own3
   rw[HN.out,HXS.out] at own
   go_meet
   case rel =>
    rw[show ofOp r=[]++[⟨3,0,[r.op],[],zeroR,0⟩] from HO.out]
    exact OfI.push HI.out HXO.out own HKE.out (⟨3,0,[r.op],[],zeroR,0⟩,some ⟨w2.heap.size,0,none⟩,1) (keep_op r.op hr.op nm) HP3.out own3 hg3
 case rest =>
  rename_i v1
  have I:=hcut
  clear hcut
  have hI:=I.req
  obtain⟨-,j1,-,-⟩:=RC.out _ _ hI
  clear hI
  go_upto_if 24 with (go_at_call 28;refine (hno.out _).mono ?_;rintro e w4 ⟨rfl,hq⟩;have I:=I.later hq;clear hq)
  clear j1 hno
  go_cut [3] (fun v wx=>OfI r w (ofOp r++ofPath r) v wx)
  case first =>
   cases b1
   ·have HO:=Lib.hid (H1.out.2 rfl)
    go_wp2
    go_meet
    case rel=>rw[HO.out,List.append_nil];exact I
   ·have HO:=Lib.hid (H1.out.1 rfl)
    obtain⟨xx,hxo,own,hke⟩:=I.row
    have hmx:=I.mx
    obtain⟨n,hn⟩:∃n,n=xx.length:=⟨_,rfl⟩
    have hn3:n≤3:=by
     have e:n=(xx.map (·.1)).length:=by rw[hn,List.length_map]
     rw[e,hxo]
     have:=few_op r;omega
    have hbb:(n+1)*by0≤140737488355328:=Nat.le_trans (Nat.mul_le_mul (show n+1≤4 by omega) hle0) (by decide)
    obtain⟨xs,hxs⟩:∃xs,xs=xx.flatMap prdX:=⟨_,rfl⟩
    rw[←hn,←hxs] at own
    have HN:=Lib.hid hn
    have HXS:=Lib.hid hxs
    have HXO:=Lib.hid hxo
    have HKE:=Lib.hid hke
    have HI:=Lib.hid I
    clear hn hxs hxo hke
    obtain⟨P4,hP4⟩:∃P,P=prdV ⟨4,0,[],x,zeroR,0⟩ none 0:=⟨_,rfl⟩
    have hl4:=Lib.hid (show P4.length=23 by rw[hP4];exact length_prdV _ zeroA_ok _ _)
    have ho4:=Lib.hid (show ∀u∈P4,u.oneCell'=true by have:=prdV_one ⟨4,0,[],x,zeroR,0⟩ none 0;rw[←hP4,List.all_toArray] at this;exact fun u hu=>List.all_eq_true.1 this u hu)
    have hB4:=Lib.hid (show ∀w',(Instr.build 31 #[(0,.int .i64 4),(3,.string (bstr x))]).run Tryz.prog w'=.ok (.agg P4.toArray) w' from fun w'=>by rw[hP4];exact build_4 x w')
    have HP4:=Lib.hid hP4
    clear hP4
    go_wp2_with (first
     | (refine wpList_build2 rfl 31 0 3 _ _ rfl (.int .i64 4) (.string (bstr x)) (.agg P4.toArray) rfl rfl (hB4.out _) ?_)
     | (refine wpList_sliceN rfl 44 1 [_] rfl [(0,.agg P4.toArray)] rfl _ (slice_onep P4 hl4.out _) ?_;refine Hid.out ?_))
    refine Lib.hid ?_
    obtain⟨w5,hw2⟩:∃w3,w3=w4.alloc (.cells P4.toArray 31):=⟨_,rfl⟩
    rw[←hw2]
    obtain⟨s4,hq⟩:=one_box hw2.symm
    have sl4:=sl_row s4
    rw[hl4.out] at sl4
    clear hw2 s4
    have HI:=Lib.hid (HI.out.later hq)
    have HKE:=Lib.hid (fun x hx=>(HKE.out x hx).later hq)
    have own:=ownk_later own hq (Nat.le_refl _)
    have hmx:=Nat.le_trans hmx hq.size
    clear hq
    go_wp2_with (first
     | (at_builtin;refine wpList_append_k rfl (.tmp 25) (.tmp 28) 44 rfl (w.heap.size+1) 31 i0 z0 23 by0 Tryz.underlying44 hi hz0 hsz0 (by omega) hby0 hzs0 _ n xs rfl own (some ⟨w4.heap.size,0,none⟩) 1 1 P4 rfl hl4.out sl4 ho4.out (by unfold maxLen;omega) hbb hmx ?_;intro v4 wa4 own4 hg4))
    clear hl4 ho4
    rw[HN.out,HXS.out] at own4
    rw[HN.out,HXS.out] at own
    go_meet
    case rel =>
     rw[HO.out.1]
     exact OfI.push HI.out HXO.out own HKE.out (⟨4,0,[],x,zeroR,0⟩,none,0) (keep_of (at_path _ x HO.out.2) rfl) HP4.out own4 hg4
  case rest =>
   have I:=hcut
   clear hcut
   have hI:=I.req
   go_upto_region 7 with fail
   go_cut [6,7] (fun p q wx=>∃g,p=.pointer (some ⟨g,0,none⟩)∧q=.bool b2∧Row wx g 28 N5∧Below wc.heap.size wc wx)
   case first =>
    refine wp_region_noPanic ?_
    refine wp_region_held_drew (S:=fun w'=>Below wc.heap.size wc w') (by kernel_rfl) ((Below.refl _ _).drew) (fun hHeld=>?_)
    have hB:=hHeld
    refine rtake 0 _ (some 31) _ rfl rfl (by kernel_rfl) (by kernel_rfl) (by kernel_rfl) (fun _ _ _ h=>h) (by rfl) hHeld (by intro w hS;go_simp;try with_reducible rfl) ?_
    try (first | (rw[put_some];dsimp only[List.set]) | rw[put_none])
    refine rtake 1 _ (some 32) _ rfl rfl (by kernel_rfl) (by kernel_rfl) (by kernel_rfl) (fun _ _ _ h=>h) (by rfl) hHeld (by intro w hS;exact run_load_op 26 (.tmp 31) rfl _ 2 rfl (adrV r.src) _ (RC.out _ _ (hI.later hS hI.lt)).2.2.1 Tryz.underlying26 rfl hsA.out) ?_
    try (first | (rw[put_some];dsimp only[List.set]) | rw[put_none])
    refine rtake 2 _ (some 33) _ rfl rfl (by kernel_rfl) (by kernel_rfl) (by kernel_rfl) (fun _ _ _ h=>h) (by rfl) hHeld (by intro w hS;go_simp;try with_reducible rfl) ?_
    try (first | (rw[put_some];dsimp only[List.set]) | rw[put_none])
    refine rtake 3 _ (some 34) _ rfl rfl (by kernel_rfl) (by kernel_rfl) (by kernel_rfl) (fun _ _ _ h=>h) (by rfl) hHeld (by intro w hS;exact run_load_op 26 (.tmp 33) rfl _ 2 rfl (adrV r.src) _ (RC.out _ _ (hI.later hS hI.lt)).2.2.1 Tryz.underlying26 rfl hsA.out) ?_
    try (first | (rw[put_some];dsimp only[List.set]) | rw[put_none])
    refine wpAnyH_ready (rs:=[4,9]) (by kernel_rfl) (by simp) (AllReadyH.cons (o:=_) rfl (fun K hK=>?_) (AllReadyH.cons (o:=_) rfl (fun K hK=>?_) AllReadyH.nil))
    ·go_simp
     refine (hms.out _).mono ?_;rintro e wwc4 ⟨rfl,hqwc4⟩
     try go_wp2_with fail
     refine hK.out _ _ (hHeld.trans (hqwc4.mono hHeld.size)) (fun hHeld'=>?_)
     clear hK K
     try (first | (rw[put_some];dsimp only[List.set]) | rw[put_none])
     have hB:=below_step hB hqwc4
     have hB4:Below wwc4.heap.size wwc4 wwc4:=Below.refl _ _
     clear hHeld
     have hHeld:=hHeld'
     refine wpAnyH_ready (rs:=[5,9]) (by kernel_rfl) (by simp) (AllReadyH.cons (o:=_) rfl (fun K hK=>?_) (AllReadyH.cons (o:=_) rfl (fun K hK=>?_) AllReadyH.nil))
     ·go_simp
      refine (hof.out _).mono ?_;rintro e wwc5 ⟨rfl,hqwc5⟩
      try go_wp2_with fail
      refine hK.out _ _ (hHeld.trans (hqwc5.mono hHeld.size)) (fun hHeld'=>?_)
      clear hK K
      try (first | (rw[put_some];dsimp only[List.set]) | rw[put_none])
      have hB:=below_step hB hqwc5
      have hB4:=below_step hB4 hqwc5
      have hB5:Below wwc5.heap.size wwc5 wwc5:=Below.refl _ _
      clear hHeld
      have hHeld:=hHeld'
      refine rtake 6 _ (some 30) _ rfl rfl (by kernel_rfl) (by kernel_rfl) (by kernel_rfl) (fun _ _ _ h=>h) (by rfl) hHeld (by intro w hS;go_simp;try with_reducible rfl) ?_
      try (first | (rw[put_some];dsimp only[List.set]) | rw[put_none])
      refine rtake 7 _ (some 37) _ rfl rfl (by kernel_rfl) (by kernel_rfl) (by kernel_rfl) (fun _ _ _ h=>h) (by rfl) hHeld (by intro w hS;go_simp;try with_reducible rfl) ?_
      try (first | (rw[put_some];dsimp only[List.set]) | rw[put_none])
      refine rtake 8 _ (some 38) _ rfl rfl (by kernel_rfl) (by kernel_rfl) (by kernel_rfl) (fun _ _ _ h=>h) (by rfl) hHeld (by intro w hS;go_simp;try with_reducible rfl) ?_
      try (first | (rw[put_some];dsimp only[List.set]) | rw[put_none])
      refine wpAnyH_ready (rs:=[9]) (by kernel_rfl) (by simp) (AllReadyH.cons (o:=_) rfl (fun K hK=>?_) AllReadyH.nil)
      refine step_alloc (some 6) rfl (by rfl) (.pointer (some ⟨wwc5.heap.size,0,none⟩)) (.cells (rngV zeroR).toArray 28) (by go_simp;try rfl) ?_;intro wwc9 hw hqwc9;have r9:Row wwc9 wwc5.heap.size 28 (rngV zeroR):=(by rw[hw];exact Row.new _ _ _);have hGle:=Lib.hid hB.size;clear hw
      refine hK.out _ _ (hHeld.trans (hqwc9.mono hHeld.size)) (fun hHeld'=>?_)
      clear hK K
      try (first | (rw[put_some];dsimp only[List.set]) | rw[put_none])
      have hB:=below_step hB hqwc9
      have hB4:=below_step hB4 hqwc9
      have hB5:=below_step hB5 hqwc9
      have hB9:Below wwc9.heap.size wwc9 wwc9:=Below.refl _ _
      clear hHeld
      have hHeld:=hHeld'
      refine wpAnyH_ready (rs:=[10]) (by kernel_rfl) (by simp) (AllReadyH.cons (o:=_) rfl (fun K hK=>?_) AllReadyH.nil)
      refine step_store_row none rfl (by rfl) 28 (.tmp 6) (.tmp 37) rfl _ 0 28 _ N5 rfl rfl (r9.later hB9 r9.lt) (by rw[length_rngV' _ zeroR_ok.a,hRl.out];exact Nat.le_refl _) (by rw[hRl.out];exact size_rng) (fun u hu=>List.all_eq_true.1 (by have:=hR1.out;rw[List.all_toArray] at this;exact this) u hu) ?_;intro wwc10 r10 hg10;have hqwc10:=(Below.refl wc.heap.size _).grown hg10 hB.size (fun k h=>by cases h;exact hGle.out);have r10:=row_all (length_rngV' _ zeroR_ok.a) hRl.out r10
      refine hK.out _ _ (hHeld.trans hqwc10) (fun hHeld'=>?_)
      clear hK K
      try (first | (rw[put_some];dsimp only[List.set]) | rw[put_none])
      have hB:=hB.trans hqwc10
      clear hB4 hB5 hB9
      have hB10:Below wwc10.heap.size wwc10 wwc10:=Below.refl _ _
      refine wpAnyH_narrow (S':=fun w'=>Below wwc10.heap.size wwc10 w') (fun _ h=>(hHeld.trans hqwc10).trans (h.mono (hHeld.trans hqwc10).size)) _ _ _ _ ?_
      clear hHeld
      have hHeld:Below wwc10.heap.size wwc10 wwc10:=Below.refl _ _
      refine rtake 11 _ (some 7) _ rfl rfl (by kernel_rfl) (by kernel_rfl) (by kernel_rfl) (fun _ _ _ h=>h) (by rfl) hHeld (by intro w hS;go_simp;try with_reducible rfl) ?_
      try (first | (rw[put_some];dsimp only[List.set]) | rw[put_none])
      refine wpAnyH_done (by kernel_rfl) ?_ _
      refine NoPanic.normal ?_
      go_wp2_with fail
      go_meet
      case rel=>exact⟨_,rfl,rfl,r10,hB⟩
     ·refine step_alloc (some 6) rfl (by rfl) (.pointer (some ⟨wwc4.heap.size,0,none⟩)) (.cells (rngV zeroR).toArray 28) (by go_simp;try rfl) ?_;intro wwc9 hw hqwc9;have r9:Row wwc9 wwc4.heap.size 28 (rngV zeroR):=(by rw[hw];exact Row.new _ _ _);have hGle:=Lib.hid hB.size;clear hw
      refine hK.out _ _ (hHeld.trans (hqwc9.mono hHeld.size)) (fun hHeld'=>?_)
      clear hK K
      try (first | (rw[put_some];dsimp only[List.set]) | rw[put_none])
      have hB:=below_step hB hqwc9
      have hB4:=below_step hB4 hqwc9
      have hB9:Below wwc9.heap.size wwc9 wwc9:=Below.refl _ _
      clear hHeld
      have hHeld:=hHeld'
      refine wpAnyH_ready (rs:=[5]) (by kernel_rfl) (by simp) (AllReadyH.cons (o:=_) rfl (fun K hK=>?_) AllReadyH.nil)
      go_simp
      refine (hof.out _).mono ?_;rintro e wwc5 ⟨rfl,hqwc5⟩
      try go_wp2_with fail
      refine hK.out _ _ (hHeld.trans (hqwc5.mono hHeld.size)) (fun hHeld'=>?_)
      clear hK K
      try (first | (rw[put_some];dsimp only[List.set]) | rw[put_none])
      have hB:=below_step hB hqwc5
      have hB4:=below_step hB4 hqwc5
      have hB9:=below_step hB9 hqwc5
      have hB5:Below wwc5.heap.size wwc5 wwc5:=Below.refl _ _
      clear hHeld
      have hHeld:=hHeld'
      refine rtake 6 _ (some 30) _ rfl rfl (by kernel_rfl) (by kernel_rfl) (by kernel_rfl) (fun _ _ _ h=>h) (by rfl) hHeld (by intro w hS;go_simp;try with_reducible rfl) ?_
      try (first | (rw[put_some];dsimp only[List.set]) | rw[put_none])
      refine rtake 7 _ (some 37) _ rfl rfl (by kernel_rfl) (by kernel_rfl) (by kernel_rfl) (fun _ _ _ h=>h) (by rfl) hHeld (by intro w hS;go_simp;try with_reducible rfl) ?_
      try (first | (rw[put_some];dsimp only[List.set]) | rw[put_none])
      refine rtake 8 _ (some 38) _ rfl rfl (by kernel_rfl) (by kernel_rfl) (by kernel_rfl) (fun _ _ _ h=>h) (by rfl) hHeld (by intro w hS;go_simp;try with_reducible rfl) ?_
      try (first | (rw[put_some];dsimp only[List.set]) | rw[put_none])
      refine wpAnyH_ready (rs:=[10]) (by kernel_rfl) (by simp) (AllReadyH.cons (o:=_) rfl (fun K hK=>?_) AllReadyH.nil)
      refine step_store_row none rfl (by rfl) 28 (.tmp 6) (.tmp 37) rfl _ 0 28 _ N5 rfl rfl (r9.later hB9 r9.lt) (by rw[length_rngV' _ zeroR_ok.a,hRl.out];exact Nat.le_refl _) (by rw[hRl.out];exact size_rng) (fun u hu=>List.all_eq_true.1 (by have:=hR1.out;rw[List.all_toArray] at this;exact this) u hu) ?_;intro wwc10 r10 hg10;have hqwc10:=(Below.refl wc.heap.size _).grown hg10 hB.size (fun k h=>by cases h;exact hGle.out);have r10:=row_all (length_rngV' _ zeroR_ok.a) hRl.out r10
      refine hK.out _ _ (hHeld.trans hqwc10) (fun hHeld'=>?_)
      clear hK K
      try (first | (rw[put_some];dsimp only[List.set]) | rw[put_none])
      have hB:=hB.trans hqwc10
      clear hB4 hB9 hB5
      have hB10:Below wwc10.heap.size wwc10 wwc10:=Below.refl _ _
      refine wpAnyH_narrow (S':=fun w'=>Below wwc10.heap.size wwc10 w') (fun _ h=>(hHeld.trans hqwc10).trans (h.mono (hHeld.trans hqwc10).size)) _ _ _ _ ?_
      clear hHeld
      have hHeld:Below wwc10.heap.size wwc10 wwc10:=Below.refl _ _
      refine rtake 11 _ (some 7) _ rfl rfl (by kernel_rfl) (by kernel_rfl) (by kernel_rfl) (fun _ _ _ h=>h) (by rfl) hHeld (by intro w hS;go_simp;try with_reducible rfl) ?_
      try (first | (rw[put_some];dsimp only[List.set]) | rw[put_none])
      refine wpAnyH_done (by kernel_rfl) ?_ _
      refine NoPanic.normal ?_
      go_wp2_with fail
      go_meet
      case rel=>exact⟨_,rfl,rfl,r10,hB⟩
    ·refine step_alloc (some 6) rfl (by rfl) (.pointer (some ⟨wc.heap.size,0,none⟩)) (.cells (rngV zeroR).toArray 28) (by go_simp;try rfl) ?_;intro wwc9 hw hqwc9;have r9:Row wwc9 wc.heap.size 28 (rngV zeroR):=(by rw[hw];exact Row.new _ _ _);have hGle:=Lib.hid hB.size;clear hw
     refine hK.out _ _ (hHeld.trans (hqwc9.mono hHeld.size)) (fun hHeld'=>?_)
     clear hK K
     try (first | (rw[put_some];dsimp only[List.set]) | rw[put_none])
     have hB:=below_step hB hqwc9
     have hB9:Below wwc9.heap.size wwc9 wwc9:=Below.refl _ _
     clear hHeld
     have hHeld:=hHeld'
     refine wpAnyH_ready (rs:=[4]) (by kernel_rfl) (by simp) (AllReadyH.cons (o:=_) rfl (fun K hK=>?_) AllReadyH.nil)
     go_simp
     refine (hms.out _).mono ?_;rintro e wwc4 ⟨rfl,hqwc4⟩
     try go_wp2_with fail
     refine hK.out _ _ (hHeld.trans (hqwc4.mono hHeld.size)) (fun hHeld'=>?_)
     clear hK K
     try (first | (rw[put_some];dsimp only[List.set]) | rw[put_none])
     have hB:=below_step hB hqwc4
     have hB9:=below_step hB9 hqwc4
     have hB4:Below wwc4.heap.size wwc4 wwc4:=Below.refl _ _
     clear hHeld
     have hHeld:=hHeld'
     refine wpAnyH_ready (rs:=[5]) (by kernel_rfl) (by simp) (AllReadyH.cons (o:=_) rfl (fun K hK=>?_) AllReadyH.nil)
     go_simp
     refine (hof.out _).mono ?_;rintro e wwc5 ⟨rfl,hqwc5⟩
     try go_wp2_with fail
     refine hK.out _ _ (hHeld.trans (hqwc5.mono hHeld.size)) (fun hHeld'=>?_)
     clear hK K
     try (first | (rw[put_some];dsimp only[List.set]) | rw[put_none])
     have hB:=below_step hB hqwc5
     have hB9:=below_step hB9 hqwc5
     have hB4:=below_step hB4 hqwc5
     have hB5:Below wwc5.heap.size wwc5 wwc5:=Below.refl _ _
     clear hHeld
     have hHeld:=hHeld'
     refine rtake 6 _ (some 30) _ rfl rfl (by kernel_rfl) (by kernel_rfl) (by kernel_rfl) (fun _ _ _ h=>h) (by rfl) hHeld (by intro w hS;go_simp;try with_reducible rfl) ?_
     try (first | (rw[put_some];dsimp only[List.set]) | rw[put_none])
     refine rtake 7 _ (some 37) _ rfl rfl (by kernel_rfl) (by kernel_rfl) (by kernel_rfl) (fun _ _ _ h=>h) (by rfl) hHeld (by intro w hS;go_simp;try with_reducible rfl) ?_
     try (first | (rw[put_some];dsimp only[List.set]) | rw[put_none])
     refine rtake 8 _ (some 38) _ rfl rfl (by kernel_rfl) (by kernel_rfl) (by kernel_rfl) (fun _ _ _ h=>h) (by rfl) hHeld (by intro w hS;go_simp;try with_reducible rfl) ?_
     try (first | (rw[put_some];dsimp only[List.set]) | rw[put_none])
     refine wpAnyH_ready (rs:=[10]) (by kernel_rfl) (by simp) (AllReadyH.cons (o:=_) rfl (fun K hK=>?_) AllReadyH.nil)
     refine step_store_row none rfl (by rfl) 28 (.tmp 6) (.tmp 37) rfl _ 0 28 _ N5 rfl rfl (r9.later hB9 r9.lt) (by rw[length_rngV' _ zeroR_ok.a,hRl.out];exact Nat.le_refl _) (by rw[hRl.out];exact size_rng) (fun u hu=>List.all_eq_true.1 (by have:=hR1.out;rw[List.all_toArray] at this;exact this) u hu) ?_;intro wwc10 r10 hg10;have hqwc10:=(Below.refl wc.heap.size _).grown hg10 hB.size (fun k h=>by cases h;exact hGle.out);have r10:=row_all (length_rngV' _ zeroR_ok.a) hRl.out r10
     refine hK.out _ _ (hHeld.trans hqwc10) (fun hHeld'=>?_)
     clear hK K
     try (first | (rw[put_some];dsimp only[List.set]) | rw[put_none])
     have hB:=hB.trans hqwc10
     clear hB9 hB4 hB5
     have hB10:Below wwc10.heap.size wwc10 wwc10:=Below.refl _ _
     refine wpAnyH_narrow (S':=fun w'=>Below wwc10.heap.size wwc10 w') (fun _ h=>(hHeld.trans hqwc10).trans (h.mono (hHeld.trans hqwc10).size)) _ _ _ _ ?_
     clear hHeld
     have hHeld:Below wwc10.heap.size wwc10 wwc10:=Below.refl _ _
     refine rtake 11 _ (some 7) _ rfl rfl (by kernel_rfl) (by kernel_rfl) (by kernel_rfl) (fun _ _ _ h=>h) (by rfl) hHeld (by intro w hS;go_simp;try with_reducible rfl) ?_
     try (first | (rw[put_some];dsimp only[List.set]) | rw[put_none])
     refine wpAnyH_done (by kernel_rfl) ?_ _
     refine NoPanic.normal ?_
     go_wp2_with fail
     go_meet
     case rel=>exact⟨_,rfl,rfl,r10,hB⟩
   case rest =>
    obtain⟨g5,rfl,rfl,rg,hq⟩:=hcut
    have I:=I.later hq
    clear hq hI
    go_upto_if 39 with fail
    go_cut [3] (fun v wx=>OfI r w (ofOp r++ofPath r++ofNet r) v wx)
    case first =>
     cases b2
     ·have HO:=Lib.hid (H2.out.2 rfl)
      go_wp2
      go_meet
      case rel=>rw[HO.out,List.append_nil];exact I
     ·have HO:=Lib.hid (H2.out.1 rfl).1
      have hNR:=HG.out rfl
      have hzN:=Lib.hid (show (Tryz.prog.info? 28).map (·.size)=some N5.length by rw[hRl.out];exact size_rng)
      obtain⟨xx,hxo,own,hke⟩:=I.row
      have hmx:=I.mx
      obtain⟨n,hn⟩:∃n,n=xx.length:=⟨_,rfl⟩
      have hn3:n≤3:=by
       have e:n=(xx.map (·.1)).length:=by rw[hn,List.length_map]
       rw[e,hxo]
       rw[List.length_append];have:=few_op r;have:=few_path r;omega
      have hbb:(n+1)*by0≤140737488355328:=Nat.le_trans (Nat.mul_le_mul (show n+1≤4 by omega) hle0) (by decide)
      obtain⟨xs,hxs⟩:∃xs,xs=xx.flatMap prdX:=⟨_,rfl⟩
      rw[←hn,←hxs] at own
      have HN:=Lib.hid hn
      have HXS:=Lib.hid hxs
      have HXO:=Lib.hid hxo
      have HKE:=Lib.hid hke
      have HI:=Lib.hid I
      clear hn hxs hxo hke
      obtain⟨P5,hP5⟩:∃P,P=prdV ⟨5,0,[],[],⟨r.src,(mostA r.src.v6:Nat)⟩,0⟩ none 0:=⟨_,rfl⟩
      have hl5:=Lib.hid (show P5.length=23 by rw[hP5];exact length_prdV _ hr.src _ _)
      have ho5:=Lib.hid (show ∀u∈P5,u.oneCell'=true by have:=prdV_one ⟨5,0,[],[],⟨r.src,(mostA r.src.v6:Nat)⟩,0⟩ none 0;rw[←hP5,List.all_toArray] at this;exact fun u hu=>List.all_eq_true.1 this u hu)
      have hB5:=Lib.hid (show ∀w',(Instr.build 31 #[(0,.int .i64 5),(4,.agg N5.toArray)]).run Tryz.prog w'=.ok (.agg P5.toArray) w' from fun w'=>by
       refine (build_5 N5 hRl.out w').trans ?_
       rw[hP5,hNR];rfl)
      have HP5:=Lib.hid hP5
      clear hP5 hNR
      go_wp2_with (first
       | (with_reducible refine wpList_load_mid rfl 28 (.tmp 6) rfl g5 0 rfl N5 _ (row_range rg) Tryz.underlying28 rfl hzN.out ?_)
       | (refine wpList_build2 rfl 31 0 4 _ _ rfl (.int .i64 5) (.agg N5.toArray) (.agg P5.toArray) rfl rfl (hB5.out _) ?_)
       | (refine wpList_sliceN rfl 44 1 [_] rfl [(0,.agg P5.toArray)] rfl _ (slice_onep P5 hl5.out _) ?_;refine Hid.out ?_))
      refine Lib.hid ?_
      obtain⟨w7,hw2⟩:∃w3,w3=wc.alloc (.cells P5.toArray 31):=⟨_,rfl⟩
      rw[←hw2]
      obtain⟨s5,hq⟩:=one_box hw2.symm
      have sl5:=sl_row s5
      rw[hl5.out] at sl5
      clear hw2 s5
      have HI:=Lib.hid (HI.out.later hq)
      have HKE:=Lib.hid (fun x hx=>(HKE.out x hx).later hq)
      have own:=ownk_later own hq (Nat.le_refl _)
      have hmx:=Nat.le_trans hmx hq.size
      clear hq
      go_wp2_with (first
       | (at_builtin;refine wpList_append_k rfl (.tmp 40) (.tmp 43) 44 rfl (w.heap.size+1) 31 i0 z0 23 by0 Tryz.underlying44 hi hz0 hsz0 (by omega) hby0 hzs0 _ n xs rfl own (some ⟨wc.heap.size,0,none⟩) 1 1 P5 rfl hl5.out sl5 ho5.out (by unfold maxLen;omega) hbb hmx ?_;intro v5 wa5 own5 hg5))
      clear hl5 ho5
      rw[HN.out,HXS.out] at own5
      rw[HN.out,HXS.out] at own
      go_meet
      case rel =>
       rw[HO.out]
       exact OfI.push HI.out HXO.out own HKE.out (⟨5,0,[],[],⟨r.src,(mostA r.src.v6:Nat)⟩,0⟩,none,0) (keep_of (at_net _ r hr) rfl) HP5.out own5 hg5
    case rest =>
     have I:=hcut
     clear hcut rg
     have hI:=I.req
     obtain⟨-,-,-,j19⟩:=RC.out _ _ hI
     clear hI
     go_upto_if 48 with (go_at_call 43;refine (hnn.out _).mono ?_;rintro e w8 ⟨rfl,rfl⟩)
     go_cut [3] (fun v wx=>OfI r w (ofOp r++ofPath r++ofNet r++ofCost r) v wx)
     case first =>
      cases b3
      ·have HO:=Lib.hid (H3.out.1 rfl)
       obtain⟨xx,hxo,own,hke⟩:=I.row
       have hmx:=I.mx
       obtain⟨n,hn⟩:∃n,n=xx.length:=⟨_,rfl⟩
       have hn3:n≤3:=by
        have e:n=(xx.map (·.1)).length:=by rw[hn,List.length_map]
        rw[e,hxo]
        rw[List.length_append,List.length_append];have:=few_op r;have:=few_path r;have:=few_net r;omega
       have hbb:(n+1)*by0≤140737488355328:=Nat.le_trans (Nat.mul_le_mul (show n+1≤4 by omega) hle0) (by decide)
       obtain⟨xs,hxs⟩:∃xs,xs=xx.flatMap prdX:=⟨_,rfl⟩
       rw[←hn,←hxs] at own
       have HN:=Lib.hid hn
       have HXS:=Lib.hid hxs
       have HXO:=Lib.hid hxo
       have HKE:=Lib.hid hke
       have HI:=Lib.hid I
       clear hn hxs hxo hke
       obtain⟨P6,hP6⟩:∃P,P=prdV ⟨6,0,[],[],zeroR,r.cost⟩ none 0:=⟨_,rfl⟩
       have hl6:=Lib.hid (show P6.length=23 by rw[hP6];exact length_prdV _ zeroA_ok _ _)
       have ho6:=Lib.hid (show ∀u∈P6,u.oneCell'=true by have:=prdV_one ⟨6,0,[],[],zeroR,r.cost⟩ none 0;rw[←hP6,List.all_toArray] at this;exact fun u hu=>List.all_eq_true.1 this u hu)
       have hB6:=Lib.hid (show ∀w',(Instr.build 31 #[(0,.int .i64 6),(5,.float .f64 r.cost)]).run Tryz.prog w'=.ok (.agg P6.toArray) w' from fun w'=>by rw[hP6];exact build_6 r.cost w')
       have HP6:=Lib.hid hP6
       clear hP6
       go_wp2_with (first
        | (refine wpList_build2 rfl 31 0 5 _ _ rfl (.int .i64 6) (.float .f64 r.cost) (.agg P6.toArray) rfl rfl (hB6.out _) ?_)
        | (refine wpList_sliceN rfl 44 1 [_] rfl [(0,.agg P6.toArray)] rfl _ (slice_onep P6 hl6.out _) ?_;refine Hid.out ?_))
       refine Lib.hid ?_
       obtain⟨w9,hw2⟩:∃w3,w3=wc.alloc (.cells P6.toArray 31):=⟨_,rfl⟩
       rw[←hw2]
       obtain⟨s6,hq⟩:=one_box hw2.symm
       have sl6:=sl_row s6
       rw[hl6.out] at sl6
       clear hw2 s6
       have HI:=Lib.hid (HI.out.later hq)
       have HKE:=Lib.hid (fun x hx=>(HKE.out x hx).later hq)
       have own:=ownk_later own hq (Nat.le_refl _)
       have hmx:=Nat.le_trans hmx hq.size
       clear hq
       go_wp2_with (first
        | (at_builtin;refine wpList_append_k rfl (.tmp 49) (.tmp 53) 44 rfl (w.heap.size+1) 31 i0 z0 23 by0 Tryz.underlying44 hi hz0 hsz0 (by omega) hby0 hzs0 _ n xs rfl own (some ⟨wc.heap.size,0,none⟩) 1 1 P6 rfl hl6.out sl6 ho6.out (by unfold maxLen;omega) hbb hmx ?_;intro v6 wa6 own6 hg6))
       clear hl6 ho6
       rw[HN.out,HXS.out] at own6
       rw[HN.out,HXS.out] at own
       go_meet
       case rel =>
        rw[HO.out]
        exact OfI.push HI.out HXO.out own HKE.out (⟨6,0,[],[],zeroR,r.cost⟩,none,0) (keep_of (at_cost _ r.cost hr.cost) rfl) HP6.out own6 hg6
      ·have HO:=Lib.hid (H3.out.2 rfl)
       go_wp2
       go_meet
       case rel=>rw[HO.out,List.append_nil];exact I
     case rest =>
      have I:=hcut
      clear hcut j19
      go_wp2
      go_ret
      obtain⟨xs,h1,h2,h3⟩:=I.row
      refine⟨_,xs,rfl,by rw[h1];unfold ofL;simp only[List.append_assoc],⟨own_base_k h2 (Nat.le_succ _),fun x hx=>(h3 x hx).at⟩,I.bel⟩
theorem gof_any (r:Req) (w:World) (hr:r.Ok) (hE:EnvG w) :
  Calls Tryz.prog 16 #[.agg (reqV r).toArray] w fun e w'=>∃v xs,e=.returned v∧xs.map (·.1)=ofL r∧PrdsOwn w' w.heap.size v xs∧Below w.heap.size w w':=pof18_any r w hr hE
theorem gtxt_any (p:Prd) (A:Option Addr) (c:Nat) (w:World) (h:PrdAt w p A c) (hE:EnvG w) :
  Calls Tryz.prog 20 #[.agg (prdV p A c).toArray] w fun e w'=>e=.returned (.string (bstr (textP p)))∧Below w.heap.size w w':=qtext_any p A c w h hE
theorem gcheck_any (p:Prd) (A:Option Addr) (c:Nat) (w:World) (h:PrdAt w p A c) (hE:EnvG w) :
  Calls Tryz.prog 19 #[.agg (prdV p A c).toArray] w fun e w'=>e=.returned (.bool (!decide (textP p=[])))∧Below w.heap.size w w':=qcheck_any p A c w h hE
open Go Go.ChangeShapes Go.WideShapes Go.ChangeAt Go.RowKit
theorem shape_most {W:World} (h:W.ShapedOpen Tryz.prog):∃m,W.cell? ⟨1,0,none⟩=some (.int .i64 m) :=
 Go.Proofs.cell_of_shapedOpen_int (zero:=#[.int .i64 0]) (t:=3) h (of_decide_eq_true (by kernel_rfl)) (by kernel_rfl) rfl (by kernel_rfl) (by kernel_rfl) Tryz.underlying3
theorem g64:Tryz.prog.globalNamed "math/bits.deBruijn64tab"=some 3:=by kernel_rfl
theorem gSyn:Tryz.prog.globalNamed "strconv.ErrSyntax"=some 6:=by kernel_rfl
theorem gRng:Tryz.prog.globalNamed "strconv.ErrRange"=some 7:=by kernel_rfl
def bruijn64:List Int:=[0,1,56,2,57,49,28,3,61,58,42,50,38,29,17,4,62,47,59,36,45,43,51,22,53,39,33,30,24,18,12,5,63,55,48,27,60,41,37,16,46,35,44,21,52,32,23,11,54,26,40,15,34,20,31,10,25,14,19,9,13,8,7,6]
theorem bruijn_at:∀j,j < 64→bruijn64.getD j 0=((Lib.deBruijn64tab.getD j 0:Nat):Int):=by
 have h:∀j:Fin 64,bruijn64.getD j.1 0=((Lib.deBruijn64tab.getD j.1 0:Nat):Int):=by decide +kernel
 intro j hj
 exact h ⟨j,hj⟩
theorem star_es:"*"++"errors.errorString"="*errors.errorString":=by decide
theorem type_string_ptr:∀u,Tryz.prog.typeName? 3 u=some "*errors.errorString"→u=210:=fun u h =>
 typeName_ptr_named (nm:="errors.errorString") (by rw[star_es];kernel_rfl) (by kernel_rfl) (by decide) u (by rw[star_es];exact h)
theorem env_c {W:World} (t64:Lib.TabIs Tryz.prog W "math/bits.deBruijn64tab" .u8 bruijn64) (tPow:Lib.TabIs Tryz.prog W "internal/strconv.uint64pow10" .u64 Lib.pow10Tab):EnvC W :=
 ⟨tPow,fun j hj=>by rw[t64.cell g64 j hj,bruijn_at j hj]⟩
theorem env_of {W:World} (h:laidMet Tryz.prog Rows.grantHoldsRow.laid W) (hs:W.ShapedOpen Tryz.prog):EnvG W:=by
 have h1:=laidMet.tail h
 have h2:=laidMet.tail h1
 have h4:=laidMet.tail (laidMet.tail h2)
 have h5:=laidMet.tail h4
 have t64:Lib.TabIs Tryz.prog W "math/bits.deBruijn64tab" .u8 bruijn64:=Lib.tabIs_of_head (zs:=bruijn64) g64 (t:=180) (by kernel_rfl) Tryz.underlying180 Tryz.underlying5 (by kernel_rfl) (by kernel_rfl) h1
 have tPow:Lib.TabIs Tryz.prog W "internal/strconv.uint64pow10" .u64 Lib.pow10Tab:=Lib.tabIs_of_head (zs:=Lib.pow10Tab) gPow (t:=171) (by kernel_rfl) Tryz.underlying171 Tryz.underlying22 (by kernel_rfl) (by kernel_rfl) h2
 obtain⟨aR,sR,hR,-⟩:=laid_sentinel h4 gRng (by kernel_rfl) Tryz.underlying125 type_string_ptr Tryz.underlying210 Tryz.underlying212 rfl rfl Tryz.underlying9 (by kernel_rfl) (by kernel_rfl)
 obtain⟨aS,sS,hS,-⟩:=laid_sentinel h5 gSyn (by kernel_rfl) Tryz.underlying125 type_string_ptr Tryz.underlying210 Tryz.underlying212 rfl rfl Tryz.underlying9 (by kernel_rfl) (by kernel_rfl)
 exact show EnvQ W from ⟨env_c t64 tPow,shape_most hs,⟨_,by simpa using World.var?_cell gSyn hS 0,.inr ⟨_,_,rfl⟩⟩,⟨_,by simpa using World.var?_cell gRng hR 0,.inr ⟨_,_,rfl⟩⟩⟩
def setCells12 (cs:List Value):Obj→Obj
 | .cells _ t frozen=>.cells cs.toArray t frozen
 | o=>o
def bruijn32:List Int:=[0,1,28,2,29,14,24,3,30,22,20,15,25,17,4,8,31,27,13,23,21,19,16,7,26,12,18,6,11,5,10,9]
def accept32:List Int:=[128,191,160,191,128,159,144,191,128,143]++List.replicate 22 0
def synS:ByteArray:={ data:=#[105,110,118,97,108,105,100,32,115,121,110,116,97,120] }
def rngS:ByteArray:={ data:=#[118,97,108,117,101,32,111,117,116,32,111,102,32,114,97,110,103,101] }
noncomputable def low12:Nat:=(World.holding Tryz.prog default ⟨#[],#[],[]⟩).heap.size
noncomputable def libWorld (os:Os):World :=
 let w0:=World.holding Tryz.prog os ⟨#[.cells #[.string rngS] 212,.cells #[.string synS] 212],#[],[]⟩
 { w0 with heap:=((((((w0.heap.modify 8 (setCells12 (bruijn32.map (Value.int .u8)))).modify 3 (setCells12 (bruijn64.map (Value.int .u8)))).modify 2 (setCells12 (Lib.pow10Tab.map (Value.int .u64)))).modify
   5 (setCells12 (accept32.map (Value.int .u8)))).modify 4 (setCells12 (Go.Pinned.utf8FirstZ.map fun n:Nat=>Value.int .u8 (n:Int)))).modify
   7 (setCells12 [.iface 210 (.pointer (some ⟨low12,0,none⟩))])).modify 6 (setCells12 [.iface 210 (.pointer (some ⟨low12+1,0,none⟩))]) }
theorem lib_met (os:Os) (args:Array Value):laidMet Tryz.prog Rows.grantHoldsRow.laid ((libWorld os).forCall (fun _ _=>0) ⟨#[],args,[]⟩).memory :=
 laidMet_of_run' 8 (by kernel_rfl) (by kernel_rfl)
end Go.Proofs.YtjieebmcbpdeiaaGreatDoor
namespace Go.Proofs.YtjieebmcbpdeiaaGreatDoor
open Go.ChangeShapes Go.WideShapes Go.ChangeAt Go.RowKit
set_option maxRecDepth 100000
theorem cells_req18:Tryz.prog.cellsOf 33=20:=by kernel_rfl
theorem cells_ask18:Tryz.prog.cellsOf 35=22:=by kernel_rfl
section
variable {H:Type} {enc:TypeId×Value→H} {W:World} {held:Bool} {b1:Nat}
theorem len3 {α:Type} (l:List α) (h:l.length=3):∃a b c,l=[a,b,c]:=by
 match l,h with
 | [a,b,c],_=>exact⟨a,b,c,rfl⟩
theorem len4 {α:Type} (l:List α) (h:l.length=4):∃a b c d,l=[a,b,c,d]:=by
 match l,h with
 | [a,b,c,d],_=>exact⟨a,b,c,d,rfl⟩
theorem cut4_18 {α:Type} (l:List α):l=(l.drop 0).take 1++((l.drop 1).take 1++((l.drop 2).take 17++l.drop 19)):=by
 rw[←List.drop_drop (i:=17) (j:=2),List.take_append_drop]
 match l with
 | []=>rfl
 | [_]=>rfl
 | _ :: _ :: _=>rfl
theorem cut3_18 {α:Type} (l:List α):l=(l.drop 0).take 20++((l.drop 20).take 1++l.drop 21):=by
 rw[←List.drop_drop (i:=1) (j:=20),List.take_append_drop,List.drop_zero,List.take_append_drop]
theorem open_req {n:Nat} {cs:List Value} {x:DataW H×List MemPlace} (h:DataW.trod enc Tryz.prog W b1 (fun _=>true) held n 33 cs=some x) (hsz:∀k∈x.1.weights Tryz.prog 33,k≤reachBytes) :
  ∃r:Req,cs=reqV r∧ReqArg r:=by
 obtain⟨xs,m,_,rfl,hcl,hxl,hf⟩:=DataW.trod_struct Tryz.underlying33 h
 rw[cells_req18] at hcl
 obtain⟨y0,y1,y2,y3,rfl⟩:=len4 xs hxl
 have g0:DataW.trod enc Tryz.prog W b1 (fun _=>true) held m 9 ((cs.drop 0).take (Tryz.prog.cellsOf 9))=some y0:=hf 0 _ rfl
 have g1:DataW.trod enc Tryz.prog W b1 (fun _=>true) held m 9 ((cs.drop 1).take (Tryz.prog.cellsOf 9))=some y1:=hf 1 _ rfl
 have g2:DataW.trod enc Tryz.prog W b1 (fun _=>true) held m 26 ((cs.drop 2).take (Tryz.prog.cellsOf 26))=some y2:=hf 2 _ rfl
 have g3:DataW.trod enc Tryz.prog W b1 (fun _=>true) held m 29 ((cs.drop 19).take (Tryz.prog.cellsOf 29))=some y3:=hf 3 _ rfl
 rw[cells_str] at g0 g1
 rw[cells_adr17] at g2
 rw[cells_f64_17,List.take_of_length_le (by rw[List.length_drop];omega)] at g3
 have hwe:∀k,(k∈y0.1.weights Tryz.prog 9∨k∈y1.1.weights Tryz.prog 9)→k≤reachBytes:=by
  intro k hk
  refine hsz k ?_
  simp only[DataW.weights,Tryz.underlying33,List.map_cons,List.map_nil,DataW.weightsEach,List.mem_append]
  rcases hk with hk | hk
  ·exact .inl hk
  ·exact .inr (.inl hk)
 obtain⟨s0,e0,q0,_⟩:=DataW.trod_string Tryz.underlying9 g0
 obtain⟨s1,e1,q1,_⟩:=DataW.trod_string Tryz.underlying9 g1
 obtain⟨a,ha,e2⟩:=open_adr17 g2
 obtain⟨f,e3,_⟩:=open_f64_17 g3
 refine⟨⟨s0.data.toList,s1.data.toList,a,f⟩,?_,⟨ha,?_,?_⟩⟩
 ·rw[cut4_18 cs,e0,e1,e2,e3]
  unfold reqV
  dsimp only
  rw[bstr_data,bstr_data]
  rfl
 ·have:=hwe s0.data.toList.length (.inl (by rw[q0];simp[DataW.weights]))
  unfold reachBytes at this
  exact this
 ·have:=hwe s1.data.toList.length (.inr (by rw[q1];simp[DataW.weights]))
  unfold reachBytes at this
  exact this
theorem open_ask {n:Nat} {cs:List Value} {x:DataW H×List MemPlace} (h:DataW.trod enc Tryz.prog W b1 (fun _=>true) held n 35 cs=some x) (hsz:∀k∈x.1.weights Tryz.prog 35,k≤reachBytes) :
  ∃(r:Req) (b t:Nat),cs=askV r b t∧ReqArg r∧b < 2^64∧t < 2^64:=by
 obtain⟨xs,m,_,rfl,hcl,hxl,hf⟩:=DataW.trod_struct Tryz.underlying35 h
 rw[cells_ask18] at hcl
 obtain⟨y0,y1,y2,rfl⟩:=len3 xs hxl
 have g0:DataW.trod enc Tryz.prog W b1 (fun _=>true) held m 33 ((cs.drop 0).take (Tryz.prog.cellsOf 33))=some y0:=hf 0 _ rfl
 have g1:DataW.trod enc Tryz.prog W b1 (fun _=>true) held m 22 ((cs.drop 20).take (Tryz.prog.cellsOf 22))=some y1:=hf 1 _ rfl
 have g2:DataW.trod enc Tryz.prog W b1 (fun _=>true) held m 22 ((cs.drop 21).take (Tryz.prog.cellsOf 22))=some y2:=hf 2 _ rfl
 rw[cells_req18] at g0
 rw[cells_u64_17] at g1
 rw[cells_u64_17,List.take_of_length_le (by rw[List.length_drop];omega)] at g2
 have hwe:∀k,k∈y0.1.weights Tryz.prog 33→k≤reachBytes:=by
  intro k hk
  refine hsz k ?_
  simp only[DataW.weights,Tryz.underlying35,List.map_cons,List.map_nil,DataW.weightsEach,List.mem_append]
  exact .inl hk
 obtain⟨r,e0,hr⟩:=open_req g0 hwe
 obtain⟨z1,e1,_,hwf1⟩:=DataW.trod_int Tryz.underlying22 g1
 obtain⟨z2,e2,_,hwf2⟩:=DataW.trod_int Tryz.underlying22 g2
 have hb1:=bounds_u64 hwf1
 have hb2:=bounds_u64 hwf2
 refine⟨r,z1.toNat,z2.toNat,?_,hr,by omega,by omega⟩
 rw[cut3_18 cs,e0,e1,e2]
 unfold askV
 rw[show ((z1.toNat:Nat):Int)=z1 by omega,show ((z2.toNat:Nat):Int)=z2 by omega]
 rfl
end
theorem open_askArg {H:Type} {enc:TypeId×Value→H} {W:World} {held:Bool} {b0 b1:Nat} {r:Reach} {v:Value} {d:DataW H} {p:List MemPlace} {ts:List TypeId} {ds:List (DataW H)}
  (hv:Value.okWide Tryz.prog W r b0 35 v) (h:DataW.Trod enc Tryz.prog W b1 (fun _=>true) held 35 v d p) (hsz:(DataW.weightsEach Tryz.prog ts ds).all (·≤reachBytes)=true) {j:Nat} (ht:ts[j]?=some 35) (hd:ds[j]?=some d) :
  ∃(q:Req) (b t:Nat),v=.agg (askV q b t).toArray∧ReqArg q∧b < 2^64∧t < 2^64:=by
 simp only[Value.okWide,Tryz.underlying35] at hv
 obtain⟨cs,rfl,_,_⟩:=hv
 obtain⟨fuel,hf⟩:=h
 obtain⟨q,b,t,e,h1,h2,h3⟩:=open_ask hf (fun k hk=>of_decide_eq_true (List.all_eq_true.1 hsz k (DataW.weights_mem_each ht hd k hk)))
 refine⟨q,b,t,?_,h1,h2,h3⟩
 have e:cs.toList=askV q b t:=e
 rw[←e]
def zAskV:Value:=.agg (#[.string { data:=#[] },.string { data:=#[] },.bool false]++Array.replicate 16 (.int .u8 0)++#[.float .f64 0,.int .u64 0,.int .u64 0])
def zAskD {H:Type} : DataW H:=.agg [.agg [.lit (.string []),.lit (.string []),.agg [.lit (.bool false),.agg (List.replicate 16 (.lit (.int .u8 0)))],.lit (.float .f64 0)],.lit (.int .u64 0),.lit (.int .u64 0)]
end Go.Proofs.YtjieebmcbpdeiaaGreatDoor
