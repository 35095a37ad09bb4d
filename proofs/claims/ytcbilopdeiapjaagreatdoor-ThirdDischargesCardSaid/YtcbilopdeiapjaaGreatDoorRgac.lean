import Derived.Test.YtcbilopdeiapjaaGreatDoorRgab
import Derived.BigQuiet
set_option maxHeartbeats 16000000
set_option maxRecDepth 100000
open Go.Proofs.Tryz
namespace Go.Proofs.YtcbilopdeiapjaaGreatDoor
open Go.RowKit
def b0I (m:Nat):Nat:=(119 - m%64)%64
def hiB (m:Nat):BitVec 32:=BitVec.ofNat 32 (m*8/4294967296)
def loB (m:Nat):BitVec 32:=BitVec.ofNat 32 (m*8)
def padL (m:Nat):List UInt8:=((128 :: List.replicate (b0I m) 0)++b0U (hiB m))++b0U (loB m)
theorem h0A (m:Nat):(padL m).length=b0I m+9:=by
 unfold padL b0U;simp
theorem g0Z (m:Nat):b0I m < 64:=Nat.mod_lt _ (by decide)
theorem f1q (m:Nat):IntKind.u64.wrap ((m:Int)*8)/4294967296%4294967296=u (hiB m):=by
 unfold u hiB
 rw[BitVec.toNat_ofNat,IntKind.wrap_u64]
 omega
theorem f1r (m:Nat):IntKind.u64.wrap ((m:Int)*8)%4294967296=u (loB m):=by
 unfold u loB
 rw[BitVec.toNat_ofNat,IntKind.wrap_u64]
 omega
theorem c1G {w:World} {g n:Nat} {ys:List Value} (h:Row w g 5 (List.replicate (n+1) (.int .u8 0)++ys)):Sl (w.setCell ⟨g,0,none⟩ (.int .u8 128)) (some ⟨g,0,none⟩) (n+1) (byts (128 :: List.replicate n 0)):=by
 have h2:=h.set 0 (.int .u8 128)
 have e:(List.replicate (n+1) (Value.int .u8 0)++ys).set 0 (.int .u8 128)=byts (128 :: List.replicate n 0)++ys:=by
  rw[show byts (128 :: List.replicate n 0)=.int .u8 128 :: byts (List.replicate n 0) from rfl,i0u]
  rfl
 rw[e] at h2
 exact⟨Rd.row h2,by rw[a0b];simp,fun h=>by cases h⟩
theorem c1F (m:Nat) (w:World) :
  Calls prog 133 #[.int .u64 m] w (a0H (padL m) w):=by
 obtain⟨i0,hi,hz0,hz1,hz2⟩:=info_parts infoByte
 have hs:=g0Z m
 have hm:i0.bytes*(b0I m+1)≤281474976710656:=by rw[hz2];omega
 have hm2:b0I m+1≤maxLen:=by unfold maxLen;omega
 have hn:IntKind.u64.wrap (1+(IntKind.u64.wrap (-IntKind.u64.wrap (IntKind.u64.wrap ((m:Int)+1)+8))).tmod 64)=((b0I m+1:Nat):Int):=by
  simp only[IntKind.wrap_u64]
  rw[Int.tmod_eq_emod_of_nonneg (by omega)]
  unfold b0I;omega
 have HN:=f1D hn
 obtain⟨l2,hL⟩:∃l2,l2=(128 :: List.replicate (b0I m) 0)++b0U (hiB m):=⟨_,rfl⟩
 have hL2:l2.length≤1000000:=by rw[hL];simp[b0U];omega
 have HL:=f1D hL
 clear hL
 clear hn
 go_enter func133,ntmps133
 go_wp2_with (first
  | (at_make;refine wpList_make_full _ rfl _ _ 61 rfl w.heap.size 5 i0 _ 1 underlying61 hi hz0 hz1 _ _ _ _ (b0I m+1) rfl rfl HN.out HN.out hm hm2 (f1F _) ?_;intro w1 hown1 hg1;have hbel1:Below w.heap.size w w1:=(Below.refl _ _).grown hg1 (f1F _) (fun _ h=>by cases h);rw[o0F] at hown1;obtain⟨ys,hr1⟩:=Row.of_own hown1;clear hown1 hg1;have c0:w1.cell? ⟨w.heap.size,0,none⟩=some (.int .u8 0):=hr1.cell 0;have f0:=hr1.free 0)
  | (go_at_call 96;rw[f1q];refine (p0b _ _ _ (128 :: List.replicate (b0I m) 0) _ _ (by simp) (c1G hr1) (by simp;omega)).mono ?_;rintro e w2 ⟨v2,rfl,hown2,hbel2⟩;rw[←HL.out] at hown2;obtain⟨A2,c2,rfl,hl2,hsl2⟩:=Sl.of_own hown2)
  | (go_at_call 96;rw[f1r];refine (p0b _ _ _ l2 _ _ rfl hsl2 hL2).mono ?_;rintro e w3 ⟨v3,rfl,hown3,hbel3⟩))
 go_ret
 have hb2:Below w.heap.size w w2:=(hbel1.setCell (by show w.heap.size≤w.heap.size;exact f1F _) _).trans (hbel2.mono (by rw[World.size_setCell];exact hbel1.size))
 refine⟨v3,rfl,?_,hb2.trans (hbel3.mono hb2.size)⟩
 rw[HL.out] at hown3
 exact a0N hown3 hb2.size
def n0G (m:Nat):Nat→List UInt8
 | 0=>[]
 | k+1=>n0G m k++[UInt8.ofNat (m*8%18446744073709551616/2^(8*(7 - k)))]
theorem o0x (m k:Nat):(n0G m k).length=k:=by
 induction k with
 | zero=>rfl
 | succ k ih=>simp[n0G,ih]
theorem w0Z (a b:Nat) (h:a%256=b%256):UInt8.ofNat a=UInt8.ofNat b:=by
 apply UInt8.toNat_inj.1
 rw[UInt8.toNat_ofNat',UInt8.toNat_ofNat'];omega
theorem v0m (m:Nat):n0G m 8=b0U (hiB m)++b0U (loB m):=by
 simp only[n0G,b0U,hiB,loB,BitVec.toNat_ofNat,List.nil_append,List.cons_append]
 simp only[List.cons.injEq,and_true]
 refine⟨?_,?_,?_,?_,?_,?_,?_,?_⟩<;>(apply w0Z;omega)
theorem f1j (m k:Nat):byts [UInt8.ofNat (m*8%18446744073709551616/2^(8*(7 - k)))]=[Value.int IntKind.u8 ((IntKind.u64.wrap ((m:Int)*8)/2^(8*(7 - k))).tmod 256%256)]:=by
 show [Value.int .u8 _]=_
 rw[v0u,IntKind.wrap_u64]
 have e:((m*8%18446744073709551616/2^(8*(7 - k)):Nat):Int)=(m:Int)*8%18446744073709551616/2^(8*(7 - k)):=by
  rw[Int.natCast_ediv,Int.natCast_emod,Int.natCast_mul,Int.natCast_pow];rfl
 rw[←e,Int.tmod_eq_emod_of_nonneg (Int.natCast_nonneg _)]
 congr 2
 omega
def padK (m k:Nat):List UInt8:=(128 :: List.replicate (b0I m) 0)++n0G m k
theorem x0h (m:Nat):byts (padK m 0)=.int .u8 128 :: List.replicate (b0I m) (.int .u8 0):=by
 unfold padK n0G
 rw[List.append_nil]
 show Value.int .u8 128 :: byts (List.replicate (b0I m) 0)=_
 rw[i0u]
theorem x0g (m k:Nat):padK m (k+1)=padK m k++[UInt8.ofNat (m*8%18446744073709551616/2^(8*(7 - k)))]:=by
 unfold padK;rw[n0G,List.append_assoc]
theorem a1g (m:Nat):padK m 8=padL m:=by
 unfold padK padL;rw[v0m,List.append_assoc]
theorem k0t (m k:Nat):(padK m k).length=1+b0I m+k:=by
 unfold padK;rw[List.length_append,o0x];simp;omega
theorem a1J (m:Nat) (w:World) :
  Calls prog 155 #[.int .u64 m] w (a0H (padL m) w):=by
 obtain⟨i0,hi,hz0,hz1,hz2⟩:=info_parts infoByte
 have hs:=g0Z m
 have hm2:1+b0I m≤maxLen:=by unfold maxLen;omega
 have hm3:(1+b0I m)*1≤140737488355328:=by omega
 have hn:(55 - (m:Int)%64+64)%64=(b0I m:Int):=by unfold b0I;omega
 have HN:=f1D hn
 clear hn
 have hown0:(w.alloc (.cells #[.int .u8 128] 5)).ownsRow w.heap.size 5 1 (.slice (some ⟨w.heap.size,0,none⟩) 1 1) 1 [.int .u8 128]:=World.ownsRow_lit w #[.int .u8 128] 1 (f1F _) (by unfold maxLen;omega) rfl
 go_enter func155,ntmps155
 go_wp2_with (at_builtin;go_loud (refine g0f rfl (.tmp 13) (.tmp 14) 61 3 rfl w.heap.size 5 i0 .u8 .i64 _ 1 underlying61 underlying3 hi hz0 hz1 hz2 w.heap.size 1 1 (b0I m) _ [.int .u8 128] rfl hown0 rfl HN.out hm2 hm3 (by rw[World.size_alloc];omega) ?_;intro v2 w2 hown2 hg2))
 have hb2:Below w.heap.size w w2:=((Below.refl _ _).alloc (f1F _) _).grown hg2 (by rw[World.size_alloc];omega) (fun k h=>by injection h with h;omega)
 rw[show ([Value.int .u8 128]++List.replicate (b0I m) (Value.int .u8 0))=byts (padK m 0) from by rw[x0h];rfl,show 1+b0I m=(padK m 0).length from (k0t m 0).symm] at hown2
 go_loopw [4,6] (fun v i wr=>∃k:Nat,k≤8∧i=.int .i64 (7 - (k:Int))∧wr.ownsRow w.heap.size 5 1 v (padK m k).length (byts (padK m k))∧Below w.heap.size w wr) (fun _ i _=>(intOf i+1).toNat)
 case atStart=>exact⟨0,by omega,rfl,hown2,hb2⟩
 case round =>
  obtain⟨k,hk,rfl,hown,hbel⟩:=hrel
  by_cases hlt:k < 8
  ·have hby:=f1D (f1j m k)
   have hl:=k0t m k
   have hd1:(padK m k).length+1≤maxLen:=by unfold maxLen;omega
   have hd2:((padK m k).length+1)*1≤140737488355328:=by omega
   have hbs:=hbel.size
   have hbe:=hbel.alloc hbs (.cells #[Value.int IntKind.u8 ((IntKind.u64.wrap ((m:Int)*8)/2^(8*(7 - k))).tmod 256%256)] 5)
   have howna:=hown.alloc (.cells #[Value.int IntKind.u8 ((IntKind.u64.wrap ((m:Int)*8)/2^(8*(7 - k))).tmod 256%256)] 5)
   have hlt':=fun j hj=>(hown.lt j hj).1
   clear hbel hown hl
   go_wp2_with (at_builtin;refine wpList_append_own _ rfl (.tmp 22) (.tmp 30) 61 rfl w.heap.size 5 i0 _ 1 1 underlying61 hi hz0 hz1 hz2 rfl (by omega) _ (padK m k).length (byts (padK m k)) rfl howna ⟨wr.heap.size,0,none⟩ 1 1 (byts [UInt8.ofNat (m*8%18446744073709551616/2^(8*(7 - k)))]) rfl (a0b _) (by rw[hby.out];exact d0m _ _ _) (a0o _) hd1 hd2 (by rw[World.size_alloc];omega) ?_;intro v3 w3 hown3 hg3 _;have hb3:Below w.heap.size w w3:=hbe.grown hg3 (by rw[World.size_alloc];omega) hlt')
   go_roundw
   case rel =>
    refine⟨k+1,by omega,by go_num,?_,hb3⟩
    rw[x0g,a0h,List.length_append];exact hown3
   case measure=>simp[intOf];omega
  ·obtain rfl:k=8:=by omega
   rw[a1g] at hown
   have hneg:¬(0≤7 - ((8:Nat):Int)):=by omega
   go_wp2
   go_ret
   exact⟨_,rfl,hown,hbel⟩
end Go.Proofs.YtcbilopdeiapjaaGreatDoor
namespace Go.Proofs.YtcbilopdeiapjaaGreatDoor
open Go.RowKit
def a0L (xs:List (BitVec 32)):List Value:=xs.map fun x=>Value.int .u32 (u x)
theorem a0z (xs:List (BitVec 32)):(a0L xs).length=xs.length:=by unfold a0L;simp
theorem g0N (xs ys:List (BitVec 32)):a0L (xs++ys)=a0L xs++a0L ys:=by unfold a0L;simp
theorem f0d (xs:List (BitVec 32)) (i:Nat) (h:i < xs.length):(a0L xs)[i]?=some (.int .u32 (u (xs.getD i 0#32))):=by
 unfold a0L;simp[h]
theorem d0J (xs:List (BitVec 32)):∀v∈a0L xs,v.oneCell'=true:=by
 intro v hv
 obtain⟨_,_,rfl⟩:=List.mem_map.1 hv
 rfl
def getW (l:List UInt8):BitVec 32:=BitVec.ofNat 32 (getV l).toNat
theorem b1r (l:List UInt8):u (getW l)=getV l:=by
 have b0:=d0k (l.getD 0 0)
 have b1:=d0k (l.getD 1 0)
 have b2:=d0k (l.getD 2 0)
 have b3:=d0k (l.getD 3 0)
 unfold u getW
 rw[BitVec.toNat_ofNat]
 have h:=w0i l
 omega
def h0U (l:List UInt8) (xs:List (BitVec 32)):BitVec 32 :=
 if xs.length < 16 then getW (l.drop (4*xs.length))
 else g0m 1 (xs.getD (xs.length - 2) 0#32)+xs.getD (xs.length - 7) 0#32+g0m 0 (xs.getD (xs.length - 15) 0#32)+xs.getD (xs.length - 16) 0#32
def b0m (l:List UInt8):Nat→List (BitVec 32)
 | 0=>[]
 | k+1=>b0m l k++[h0U l (b0m l k)]
theorem b0D (l:List UInt8) (k:Nat):(b0m l k).length=k:=by
 induction k with
 | zero=>rfl
 | succ k ih=>simp[b0m,ih]
theorem r0J (l:List UInt8) (k:Nat) (h:k < 16):h0U l (b0m l k)=getW (l.drop (4*k)):=by
 unfold h0U;rw[b0D,if_pos h]
theorem o0K (l:List UInt8) (k:Nat) (h:16≤k):h0U l (b0m l k) =
  g0m 1 ((b0m l k).getD (k - 2) 0#32)+(b0m l k).getD (k - 7) 0#32+g0m 0 ((b0m l k).getD (k - 15) 0#32)+(b0m l k).getD (k - 16) 0#32:=by
 unfold h0U;rw[b0D,if_neg (by omega)]
def part (xs:List (BitVec 32)) (n:Nat):List Value:=a0L xs++List.replicate (n - xs.length) (.int .u32 0)
theorem j0F (xs:List (BitVec 32)) (n i:Nat) (h:i < xs.length):(part xs n)[i]?=some (.int .u32 (u (xs.getD i 0#32))):=by
 unfold part
 rw[List.getElem?_append_left (by rw[a0z];exact h),f0d _ _ h]
theorem r0Z (xs:List (BitVec 32)) (n:Nat) (x:BitVec 32) (h:xs.length < n):(part xs n).set xs.length (.int .u32 (u x))=part (xs++[x]) n:=by
 unfold part
 rw[List.set_append_right _ _ (by rw[a0z];exact f1F _),a0z,Nat.sub_self,g0N]
 obtain⟨r,hr⟩:∃r,n - xs.length=r+1:=⟨n - xs.length - 1,by omega⟩
 rw[hr,List.replicate_succ,List.set_cons_zero,List.length_append,List.append_assoc]
 have:n - (xs.length + [x].length)=r:=by simp;omega
 rw[this];rfl
theorem o0U (xs:List (BitVec 32)) (n i:Nat) (h:xs.length=i) (hi:i < n):(part xs n)[i]?=some (.int .u32 0):=by
 unfold part
 rw[List.getElem?_append_right (by rw[a0z];omega),a0z,h,Nat.sub_self]
 rw[List.getElem?_replicate,if_pos (by omega)]
theorem a1j (xs:List (BitVec 32)):part xs xs.length=a0L xs:=by unfold part;simp
theorem q0o (xs:List (BitVec 32)) (n:Nat) (h:xs.length≤n):(part xs n).length=n:=by unfold part;simp[a0z];omega
theorem j0t {w:World} {g i j:Nat} (v:Value) (h:i≠j):(w.setCell ⟨g,j,none⟩ v).cell? ⟨g,i,none⟩=w.cell? ⟨g,i,none⟩:=by
 apply World.cell?_setCell_other
 intro e
 injection e with _ e _
 exact h e.symm
theorem d1Z:(prog.info? 216).map (·.size)=some 64:=by kernel_rfl
theorem i0i {w w1:World} {A B C:List Value} {tA tB tC:TypeId} (h:((w.alloc (.cells A.toArray tA)).alloc (.cells B.toArray tB)).alloc (.cells C.toArray tC)=w1) :
  Row w1 w.heap.size tA A∧Row w1 (w.heap.size+1) tB B∧Row w1 (w.heap.size+1+1) tC C∧Below w.heap.size w w1∧w1.heap.size=w.heap.size+3:=by
 subst h
 have s1:(w.alloc (.cells A.toArray tA)).heap.size=w.heap.size+1:=World.size_alloc _ _
 have s2:((w.alloc (.cells A.toArray tA)).alloc (.cells B.toArray tB)).heap.size=w.heap.size+2:=by rw[World.size_alloc,s1]
 have b1:Below (w.alloc (.cells A.toArray tA)).heap.size (w.alloc (.cells A.toArray tA)) (((w.alloc (.cells A.toArray tA)).alloc (.cells B.toArray tB)).alloc (.cells C.toArray tC)) :=
  (((Below.refl _ _).alloc (f1F _) _).alloc (by rw[World.size_alloc];omega) _)
 have b2:Below ((w.alloc (.cells A.toArray tA)).alloc (.cells B.toArray tB)).heap.size ((w.alloc (.cells A.toArray tA)).alloc (.cells B.toArray tB)) (((w.alloc (.cells A.toArray tA)).alloc (.cells B.toArray tB)).alloc (.cells C.toArray tC)) :=
  (Below.refl _ _).alloc (f1F _) _
 refine⟨(Row.new w tA A).later b1 (by rw[s1];omega),?_,?_,?_,?_⟩
 ·have:=(Row.new (w.alloc (.cells A.toArray tA)) tB B).later b2 (by rw[s2,s1];omega)
  rw[s1] at this;exact this
 ·have:=Row.new ((w.alloc (.cells A.toArray tA)).alloc (.cells B.toArray tB)) tC C
  rw[s2] at this;exact this
 ·exact ((Below.refl _ _).alloc (f1F _) _).trans (b1.mono (by rw[s1];omega))
 ·rw[World.size_alloc,s2]
theorem x0Y:(prog.info? 139).map (·.size)=some 64:=by kernel_rfl
theorem p0q (l:List UInt8) (hl:l.length=64) (w:World) :
  Calls prog 172 #[.agg (byts l).toArray] w fun e w'=>e=.returned (.agg (a0L (b0m l 64)).toArray)∧Below w.heap.size w w':=by
 go_enter func172,ntmps172
 go_wp2_with fail
 generalize hw1:World.alloc (World.alloc (World.alloc w _) _) _=w1
 obtain⟨r0,r1,r2,hb1,hs1⟩:=i0i (A:=byts l) (B:=part [] 64) (C:=part [] 64) hw1
 clear hw1
 go_loopw [6] (fun i wr=>∃k:Nat,k≤16∧i=.int .i64 k∧Row wr w.heap.size 139 (byts l)∧Row wr (w.heap.size+1) 216 (part [] 64)∧Row wr (w.heap.size+1+1) 216 (part (b0m l k) 64)∧Below w.heap.size w wr) (fun i _=>16 - (intOf i).toNat)
 case atStart=>exact⟨0,by omega,rfl,r0,r1,r2,hb1⟩
 case round =>
  clear r0 r1 r2 hb1 hs1
  obtain⟨k,hk,rfl,r0,r1,r2,hb⟩:=hrel
  by_cases hlt:k < 16
  ·have hI1:(0:Int)≤4*(k:Int):=by omega
   have hI2:4*(k:Int)≤64:=by omega
   have hI3:¬(64=4*k):=by omega
   have hsl:Sl wr (some ⟨w.heap.size,4*k,none⟩) (64 - 4*k) (byts (l.drop (4*k))):=by
    have h0:Sl wr (some ⟨w.heap.size,0,none⟩) 64 (byts l):=⟨Rd.row (ys:=[]) (by rw[List.append_nil];exact r0),by rw[a0b];omega,fun h=>by cases h⟩
    have h1:=h0.cut (k:=4*k) (by rw[a0b];omega)
    rw[Nat.zero_add,show (byts l).drop (4*k)=byts (l.drop (4*k)) from by unfold byts;rw[List.map_drop]] at h1
    exact h1
   have hln:=f1D (show 64 - 4*k=(l.drop (4*k)).length by rw[List.length_drop,hl])
   have hle:=f1D (show (l.drop (4*k)).length≤1000000 by rw[List.length_drop];omega)
   have hk6:=f1D (b0D l k)
   have hlo:=f1D (r0J l k hlt)
   have hwl:=hb.size
   have hlt0:=r0.lt
   have hlt1:=r1.lt
   have hlt2:=r2.lt
   go_wp2_with (go_at_call 218;refine (d1z _ _ _ (l.drop (4*k)) _ hsl hln.out hle.out).mono ?_;rintro e w2 ⟨rfl,hb2⟩;rw[←b1r,←hlo.out];have q0:=r0.later hb2 hlt0;have q1:=r1.later hb2 hlt1;have q2:=r2.later hb2 hlt2;have c2:w2.cell? ⟨w.heap.size+1+1,k,none⟩=some (.int .u32 0):=(q2.cell k).trans (o0U (b0m l k) 64 k hk6.out (by omega));have f2:=q2.free k;have hbw:=hb.trans (hb2.mono hwl);clear r0 r1 r2 hsl hb2)
   go_roundw
   case rel =>
    refine⟨k+1,by omega,by go_num,q0.far _ _ (by show w.heap.size≠w.heap.size+1+1;omega),q1.far _ _ (Nat.ne_of_lt (Nat.lt_succ_self _)),?_,hbw.setCell (by show w.heap.size≤w.heap.size+1+1;omega) _⟩
    have:=q2.set k (.int .u32 (u (h0U l (b0m l k))))
    rw[show (part (b0m l k) 64).set k (.int .u32 (u (h0U l (b0m l k))))=part (b0m l k++[h0U l (b0m l k)]) 64 from by
     have:=r0Z (b0m l k) 64 (h0U l (b0m l k)) (by have:=hk6.out;omega);rw[hk6.out] at this;exact this] at this
    exact this
   case measure=>simp[intOf];omega
  ·have e16:k=16:=by omega
   rw[e16] at r2
   clear e16
   go_wp2_with fail
   go_loopw [5] (fun i wr=>∃j:Nat,j≤48∧i=.int .i64 ((j:Int)+16)∧Row wr (w.heap.size+1) 216 (part [] 64)∧Row wr (w.heap.size+1+1) 216 (part (b0m l (j+16)) 64)∧Below w.heap.size w wr) (fun i _=>64 - (intOf i).toNat)
   case atStart=>exact⟨0,by omega,rfl,r1,r2,hb⟩
   case round =>
    clear r0 r1 r2 hb
    obtain⟨j,hj,rfl,r1,r2,hb⟩:=hrel
    by_cases hlt:j < 48
    ·go_wp2_with fail
     have hk6:=b0D l (j+16)
     have q2:=r2.drew
     have c2:=(q2.cell (j+14)).trans (j0F (b0m l (j+16)) 64 (j+14) (by omega))
     have c7:=(q2.cell (j+9)).trans (j0F (b0m l (j+16)) 64 (j+9) (by omega))
     have c15:=(q2.cell (j+1)).trans (j0F (b0m l (j+16)) 64 (j+1) (by omega))
     have c16:=(q2.cell j).trans (j0F (b0m l (j+16)) 64 j (by omega))
     have ck:=(q2.cell (j+16)).trans (o0U (b0m l (j+16)) 64 (j+16) hk6 (by omega))
     have fk:=q2.free (j+16)
     have hnx:=o0K l (j+16) (by omega)
     rw[show j+16 - 2=j+14 by omega,show j+16 - 7=j+9 by omega,show j+16 - 15=j+1 by omega,show j+16 - 16=j by omega] at hnx
     generalize (b0m l (j+16)).getD (j+14) 0#32=x2 at *
     generalize (b0m l (j+16)).getD (j+9) 0#32=x7 at *
     generalize (b0m l (j+16)).getD (j+1) 0#32=x15 at *
     generalize (b0m l (j+16)).getD j 0#32=x16 at *
     have HNX:=f1D hnx
     have HK6:=f1D hk6
     clear hnx hk6
     have w2:IntKind.i64.wrap ((j:Int)+16 - 2)=(j:Int)+14:=by rw[IntKind.wrap_i64];omega
     have w7:IntKind.i64.wrap ((j:Int)+16 - 7)=(j:Int)+9:=by rw[IntKind.wrap_i64];omega
     have w15:IntKind.i64.wrap ((j:Int)+16 - 15)=(j:Int)+1:=by rw[IntKind.wrap_i64];omega
     have w16:IntKind.i64.wrap ((j:Int)+16 - 16)=(j:Int):=by rw[IntKind.wrap_i64];omega
     have n14:(0:Int)≤(j:Int)+14:=by omega
     have m14:(j:Int)+14 < 64:=by omega
     have t14:((j:Int)+14).toNat=j+14:=by omega
     have n9:(0:Int)≤(j:Int)+9:=by omega
     have m9:(j:Int)+9 < 64:=by omega
     have t9:((j:Int)+9).toNat=j+9:=by omega
     have n1:(0:Int)≤(j:Int)+1:=by omega
     have m1:(j:Int)+1 < 64:=by omega
     have t1:((j:Int)+1).toNat=j+1:=by omega
     have n16:(0:Int)≤(j:Int)+16:=by omega
     have m16:(j:Int)+16 < 64:=by omega
     have t16:((j:Int)+16).toNat=j+16:=by omega
     have m0:(j:Int) < 64:=by omega
     have w0:IntKind.i64.wrap (j:Int)=(j:Int):=by rw[IntKind.wrap_i64];omega
     refine wp_region_noPanic ?_
     refine wp_region_held_drew (S:=fun w'=>w'.cell? ⟨w.heap.size+1+1,j+14,none⟩=some (.int .u32 (u x2))∧w'.cell? ⟨w.heap.size+1+1,j+9,none⟩=some (.int .u32 (u x7))∧w'.cell? ⟨w.heap.size+1+1,j+1,none⟩=some (.int .u32 (u x15))∧w'.cell? ⟨w.heap.size+1+1,j,none⟩=some (.int .u32 (u x16))) (by kernel_rfl) (⟨c2,c7,c15,c16⟩) (fun hHeld=>?_)
     refine rt 0 20 hHeld ?_ (hy:=by intro w hS;obtain⟨s2,s7,s15,s16⟩:=hS;go_simp;try with_reducible rfl)
     refine rt 1 21 hHeld ?_ (hy:=by intro w hS;obtain⟨s2,s7,s15,s16⟩:=hS;go_simp;try with_reducible rfl)
     refine rt 6 26 hHeld ?_ (hy:=by intro w hS;obtain⟨s2,s7,s15,s16⟩:=hS;go_simp;try with_reducible rfl)
     refine rt 11 31 hHeld ?_ (hy:=by intro w hS;obtain⟨s2,s7,s15,s16⟩:=hS;go_simp;try with_reducible rfl)
     refine rt 17 37 hHeld ?_ (hy:=by intro w hS;obtain⟨s2,s7,s15,s16⟩:=hS;go_simp;try with_reducible rfl)
     refine rt 2 22 hHeld ?_ (hy:=by intro w hS;obtain⟨s2,s7,s15,s16⟩:=hS;go_simp;try with_reducible rfl)
     refine rt 7 27 hHeld ?_ (hy:=by intro w hS;obtain⟨s2,s7,s15,s16⟩:=hS;go_simp;try with_reducible rfl)
     refine rt 12 32 hHeld ?_ (hy:=by intro w hS;obtain⟨s2,s7,s15,s16⟩:=hS;go_simp;try with_reducible rfl)
     refine rt 18 38 hHeld ?_ (hy:=by intro w hS;obtain⟨s2,s7,s15,s16⟩:=hS;go_simp;try with_reducible rfl)
     refine rt 3 23 hHeld ?_ (hy:=by intro w hS;obtain⟨s2,s7,s15,s16⟩:=hS;go_simp;try with_reducible rfl)
     refine rt 8 28 hHeld ?_ (hy:=by intro w hS;obtain⟨s2,s7,s15,s16⟩:=hS;go_simp;try with_reducible rfl)
     refine rt 13 33 hHeld ?_ (hy:=by intro w hS;obtain⟨s2,s7,s15,s16⟩:=hS;go_simp;try with_reducible rfl)
     refine rt 19 39 hHeld ?_ (hy:=by intro w hS;obtain⟨s2,s7,s15,s16⟩:=hS;go_simp;try with_reducible rfl)
     refine rt 4 24 hHeld ?_ (hy:=by intro w hS;obtain⟨s2,s7,s15,s16⟩:=hS;go_simp;try with_reducible rfl)
     refine rt 9 29 hHeld ?_ (hy:=by intro w hS;obtain⟨s2,s7,s15,s16⟩:=hS;go_simp;try with_reducible rfl)
     refine rt 14 34 hHeld ?_ (hy:=by intro w hS;obtain⟨s2,s7,s15,s16⟩:=hS;go_simp;try with_reducible rfl)
     refine rt 20 40 hHeld ?_ (hy:=by intro w hS;obtain⟨s2,s7,s15,s16⟩:=hS;go_simp;try with_reducible rfl)
     refine rc1 5 fun K hK=>?_
     go_simp
     refine (p0v _ _ _).mono ?_;rintro e w' ⟨rfl,rfl⟩
     try go_wp2_with fail
     refine hK.out _ _ hHeld (fun _=>?_)
     clear hK K
     try (rw[a0l];dsimp only[List.set])
     refine rt 10 30 hHeld ?_ (hy:=by intro w hS;obtain⟨s2,s7,s15,s16⟩:=hS;go_simp;try with_reducible rfl)
     refine rc1 15 fun K hK=>?_
     go_simp
     refine (p0v _ _ _).mono ?_;rintro e w' ⟨rfl,rfl⟩
     try go_wp2_with fail
     refine hK.out _ _ hHeld (fun _=>?_)
     clear hK K
     try (rw[a0l];dsimp only[List.set])
     refine rt 16 36 hHeld ?_ (hy:=by intro w hS;obtain⟨s2,s7,s15,s16⟩:=hS;go_simp;try with_reducible rfl)
     refine rt 21 41 hHeld ?_ (hy:=by intro w hS;obtain⟨s2,s7,s15,s16⟩:=hS;go_simp;try with_reducible rfl)
     refine rt 22 42 hHeld ?_ (hy:=by intro w hS;obtain⟨s2,s7,s15,s16⟩:=hS;go_simp;try with_reducible rfl)
     refine rc1 23 fun K hK=>?_
     go_simp
     refine hK.out _ _ (by exact⟨(j0t _ (by omega)).trans c2,(j0t _ (by omega)).trans c7,(j0t _ (by omega)).trans c15,(j0t _ (by omega)).trans c16⟩) (fun _=>?_)
     clear hK K
     try (rw[a0l];dsimp only[List.set])
     refine wpAnyH_done (by kernel_rfl) ?_ _
     refine NoPanic.normal ?_
     clear c2 c7 c15 c16 ck fk w2 w7 w15 w16 n14 m14 t14 n9 m9 t9 n1 m1 t1 n16 m16 t16 m0 w0 q2 hHeld
     go_wp2_with fail
     go_roundw
     case rel =>
      refine⟨j+1,by omega,by go_num,(r1.far _ _ (Nat.ne_of_lt (Nat.lt_succ_self _))).drew,?_,(hb.setCell (by show w.heap.size≤w.heap.size+1+1;omega) _).drew⟩
      have h:=(r2.set (j+16) (.int .u32 (u (h0U l (b0m l (j+16)))))).drew
      have e:=r0Z (b0m l (j+16)) 64 (h0U l (b0m l (j+16))) (by rw[HK6.out];omega)
      rw[HK6.out] at e
      rw[e,HNX.out] at h
      rw[show j+1+16=j+16+1 by omega,b0m,HNX.out]
      exact h
     case measure=>simp[intOf];omega
    ·obtain rfl:j=48:=by omega
     have hz:=a1j (b0m l 64)
     rw[b0D] at hz
     rw[hz] at r2
     have R2:=f1D (show wr.heap[w.heap.size+1+1]?=some (.cells (a0L (b0m l 64)).toArray 216 (0,0)) from r2)
     have R1:=f1D (show wr.heap[w.heap.size+1]?=some (.cells (part [] 64).toArray 216 (0,0)) from r1)
     have hsz:=f1D (show (prog.info? 216).map (·.size)=some (a0L (b0m l 64)).toArray.size by rw[d1Z,List.size_toArray,a0z,b0D])
     have hszo:=f1D (show (part [] 64).toArray.size=(a0L (b0m l 64)).toArray.size by rw[List.size_toArray,List.size_toArray,a0z,b0D,q0o _ _ (by simp)])
     have hone:=f1D (b0d (d0J (b0m l 64)))
     generalize hW:a0L (b0m l 64)=W64 at *
     have HW:=f1D hW
     clear r1 r2 hz hW
     go_wp2_with (first
      | ((with_reducible refine wpList_load_row rfl 216 (.tmp 3) rfl (w.heap.size+1+1) rfl 216 W64.toArray (0,0) (.array 64 147) R2.out underlying216 rfl hsz.out ?_))
      | ((with_reducible refine wpList_store_row rfl 216 (.tmp 2) (.tmp 43) rfl (w.heap.size+1) W64.toArray rfl rfl 216 _ R1.out hsz.out hszo.out hone.out ?_);have HG:=f1D (setRow_heap wr (w.heap.size+1) _ W64.toArray 216 (0,0) R1.out))
      | (with_reducible refine bodyPost_ret (results_cell_row rfl _ _ (w.heap.size+1) 216 W64.toArray (0,0) (.array 64 147) rfl HG.out underlying216 rfl hsz.out) rfl ?_))
     exact⟨by rw[HW.out],below_setRow hb (by omega) _⟩
end Go.Proofs.YtcbilopdeiapjaaGreatDoor
namespace Go.Proofs.YtcbilopdeiapjaaGreatDoor
open Go.RowKit
structure St where
 a:BitVec 32
 b:BitVec 32
 c:BitVec 32
 d:BitVec 32
 e:BitVec 32
 f:BitVec 32
 g:BitVec 32
 h:BitVec 32
def St.list (s:St):List (BitVec 32):=[s.a,s.b,s.c,s.d,s.e,s.f,s.g,s.h]
def s0i (s:St) (k w:BitVec 32):St :=
 ⟨s.h+h0y 1 s.e+n0r s.e s.f s.g+k+w+(h0y 0 s.a+d1j s.a s.b s.c),s.a,s.b,s.c,s.d+(s.h+h0y 1 s.e+n0r s.e s.f s.g+k+w),s.e,s.f,s.g⟩
def i0d (i:Nat):BitVec 32:=BitVec.ofNat 32 (h0O.getD i 0).toNat
theorem t0Y:(List.range 64).all (fun i=>decide (u (i0d i)=h0O.getD i 0))=true:=by decide +kernel
theorem s0t (i:Nat) (h:i < 64):u (i0d i)=h0O.getD i 0:=by
 have:=List.all_eq_true.1 t0Y i (by simpa using h)
 simpa using this
theorem p0a (k:Nat) (w:World) (hT:Cube w) (hk:k < 64) :
  Calls prog 175 #[.int .i64 k] w fun e w'=>e=.returned (.int .u32 (u (i0d k)))∧w=w':=by
 refine (x0x k w hT (by omega)).mono ?_
 rintro e w' ⟨rfl,rfl⟩
 refine⟨?_,rfl⟩
 rw[s0t k hk]
 unfold l0W
 rw[if_pos (by omega),Int.toNat_natCast]
def d0r (ws:List (BitVec 32)) (s:St):Nat→St
 | 0=>s
 | k+1=>s0i (d0r ws s k) (i0d k) (ws.getD k 0#32)
def addS (s t:St):St:=⟨s.a+t.a,s.b+t.b,s.c+t.c,s.d+t.d,s.e+t.e,s.f+t.f,s.g+t.g,s.h+t.h⟩
def h0i (l:List UInt8) (s:St):St:=addS (d0r (b0m l 64) s 64) s
theorem n0N {w:World} (h:Cube w):Cube w.drew:=⟨h.at_⟩
theorem q0l (ws:List (BitVec 32)) (hl:ws.length=64) (k:Nat) (hk:k < 64) (w:World) :
  (Instr.index 216 (.agg (a0L ws).toArray) (.int .i64 k)).run prog w=.ok (.int .u32 (u (ws.getD k 0#32))) w:=by
 have hc:(a0L ws).toArray[k]?=some (.int .u32 (u (ws.getD k 0#32))):=by
  rw[List.getElem?_toArray,f0d _ _ (by omega)]
 have h1:(Go.part 147 (a0L ws).toArray k).run prog w=.ok (.int .u32 (u (ws.getD k 0#32))) w:=by
  simp only[Go.part,isAgg,Sem.run_bind,run_underlying underlying147,Result.andThen_ok,Sem.run_pure,hc]
  rfl
 simp[Instr.index,asIntOf,run_underlying underlying216,hk,h1]
theorem u0v:(prog.info? 185).map (·.size)=some 8:=by kernel_rfl
theorem blk0 (w:World) (A B C:Obj):(((w.alloc A).alloc B).alloc C).heap[w.heap.size]?=some A:=by
 have s1:(w.alloc A).heap.size=w.heap.size+1:=World.size_alloc _ _
 have s2:((w.alloc A).alloc B).heap.size=w.heap.size+1+1:=by rw[World.size_alloc,s1]
 rw[Go.heap_alloc_old _ _ (by omega),Go.heap_alloc_old _ _ (by omega),Go.heap_alloc_new]
theorem blk3 (w:World) (A B C D:Obj):((((w.alloc A).alloc B).alloc C).alloc D).heap[w.heap.size+1+1+1]?=some D:=by
 have s1:(w.alloc A).heap.size=w.heap.size+1:=World.size_alloc _ _
 have s2:((w.alloc A).alloc B).heap.size=w.heap.size+1+1:=by rw[World.size_alloc,s1]
 have s3:(((w.alloc A).alloc B).alloc C).heap.size=w.heap.size+1+1+1:=by rw[World.size_alloc,s2]
 rw[←s3,Go.heap_alloc_new]
theorem f1o {w w1:World} {A B C D:List Value} {old:Array Value} {tA tB tC tD:TypeId} (h:World.setRow ((((w.alloc (.cells A.toArray tA)).alloc (.cells B.toArray tB)).alloc (.cells C.toArray tC)).alloc (.cells old tD)) (w.heap.size+1+1+1) D.toArray=w1) :
  Row w1 w.heap.size tA A∧Row w1 (w.heap.size+1) tB B∧Row w1 (w.heap.size+1+1) tC C∧Row w1 (w.heap.size+1+1+1) tD D∧Below w.heap.size w w1∧w1.heap.size=w.heap.size+1+1+1+1:=by
 obtain⟨r0,r1,r2,hb,hs⟩:=i0i (w:=w) (A:=A) (B:=B) (C:=C) (tA:=tA) (tB:=tB) (tC:=tC) rfl
 generalize ((w.alloc (.cells A.toArray tA)).alloc (.cells B.toArray tB)).alloc (.cells C.toArray tC)=w3 at *
 have e:w.heap.size+1+1+1=w3.heap.size:=hs.symm
 rw[e] at h ⊢
 have h4:=a0v h
 have z1:=r0.lt
 have z2:=r1.lt
 have z3:=r2.lt
 refine⟨r0.later h4.2 z1,r1.later h4.2 z2,r2.later h4.2 z3,h4.1,hb.trans (h4.2.mono hb.size),?_⟩
 rw[←h];simp
def mixL (A B:List (BitVec 32)) (k:Nat):List (BitVec 32):=A.take k++B.drop k
theorem k0s (A B:List (BitVec 32)) (k:Nat) (hA:A.length=8) (hB:B.length=8):(mixL A B k).length=8:=by
 unfold mixL;rw[List.length_append,List.length_take,List.length_drop];omega
theorem r0G (A B:List (BitVec 32)) (k:Nat) (hA:A.length=8) (_:B.length=8) (hk:k < 8):(mixL A B k).getD k 0#32=B.getD k 0#32:=by
 unfold mixL
 rw[List.getD_eq_getElem?_getD,List.getElem?_append_right (by rw[List.length_take];omega),List.length_take,List.getElem?_drop,show k+(k - min k A.length)=k by omega,←List.getD_eq_getElem?_getD]
theorem r0H (A B:List (BitVec 32)) (k:Nat) (hA:A.length=8) (hB:B.length=8) (hk:k < 8):(a0L (mixL A B k)).set k (.int .u32 (u (A.getD k 0#32)))=a0L (mixL A B (k+1)):=by
 unfold a0L
 rw[←List.map_set (f:=fun x=>Value.int .u32 (u x))]
 congr 1
 unfold mixL
 rw[List.set_append_right _ _ (by rw[List.length_take];omega),List.length_take,show k - min k A.length=0 by omega]
 obtain⟨x,r,hr⟩:∃x r,B.drop k=x :: r:=by
  cases h:B.drop k with
  | nil=>have:=congrArg List.length h;rw[List.length_drop] at this;simp at this;omega
  | cons x r=>exact⟨x,r,rfl⟩
 have hr':B.drop (k+1)=r:=by rw[←List.drop_drop,hr];rfl
 rw[hr,List.set_cons_zero,hr',List.take_add_one,List.append_assoc]
 simp[show k < A.length by omega]
theorem r0l (st s:St) (i:Nat) (hi:i < 8):(addS st s).list.getD i 0#32=st.list.getD i 0#32+s.list.getD i 0#32:=by
 rcases (by omega:i=0∨i=1∨i=2∨i=3∨i=4∨i=5∨i=6∨i=7) with rfl | rfl | rfl | rfl | rfl | rfl | rfl | rfl<;>rfl
theorem k0N {w:World} {g g':Nat} {t:TypeId} {xs:List Value} (h:Row w g t xs) (cs:Array Value) (hne:g≠g'):Row (w.setRow g' cs) g t xs:=by
 unfold Row at h ⊢
 rw[setRow_other _ _ _ _ hne];exact h
theorem n0M (l:List UInt8) (hl:l.length=64) (s:St) (w:World) (hT:Cube w) :
  Calls prog 132 #[.agg (a0L s.list).toArray,.agg (byts l).toArray] w fun e w'=>e=.returned (.agg (a0L (h0i l s).list).toArray)∧Below w.heap.size w w':=by
 obtain⟨ws,hws⟩:∃ws,ws=b0m l 64:=⟨_,rfl⟩
 have hlen:ws.length=64:=by rw[hws,b0D]
 have HWS:=f1D hws
 clear hws
 have hszb:=f1D (show (prog.info? 139).map (·.size)=some (byts l).toArray.size by rw[x0Y,List.size_toArray,a0b,hl])
 obtain⟨xs,hxs⟩:∃xs,xs=a0L s.list:=⟨_,rfl⟩
 have hxl:xs.length=8:=by rw[hxs,a0z];rfl
 have hone:=f1D (show xs.toArray.all (·.oneCell')=true from by rw[hxs];exact b0d (d0J s.list))
 have hsz8:=f1D (show (prog.info? 185).map (·.size)=some xs.toArray.size by rw[u0v,List.size_toArray,hxl])
 have h88:=f1D (show 8=xs.toArray.size by rw[List.size_toArray,hxl])
 rw[←hxs]
 have HXS:=f1D hxs
 clear hxs hxl
 go_enter func132,ntmps132
 go_wp2_with (first
  | (with_reducible refine wpList_load_row rfl 185 (.tmp 2) rfl w.heap.size rfl 185 xs.toArray (0,0) (.array 8 147) (blk0 w _ _ _) underlying185 rfl hsz8.out ?_)
  | (with_reducible refine wpList_store_row rfl 185 (.tmp 5) (.tmp 11) rfl (w.heap.size+1+1+1) xs.toArray rfl rfl 185 _ (blk3 w _ _ _ _) hsz8.out (Eq.trans (by kernel_rfl) h88.out) hone.out ?_;refine Hid.out ?_))
 refine f1D ?_
 generalize hw1:World.setRow (World.alloc (World.alloc (World.alloc (World.alloc w _) _) _) _) _ _=w1
 obtain⟨q0,q1,q2,q3,hb1,hs1⟩:=f1o (A:=xs) (B:=byts l) (C:=List.replicate 8 (.int .u32 0)) (D:=xs) hw1
 have Q1:=f1D (show w1.heap[w.heap.size+1]?=some (.cells (byts l).toArray 139 (0,0)) from q1)
 clear hw1
 go_wp2_with (first
  | (with_reducible refine wpList_load_row rfl 139 (.tmp 3) rfl (w.heap.size+1) rfl 139 (byts l).toArray (0,0) (.array 64 5) Q1.out underlying139 rfl hszb.out ?_)
  | (go_at_call 172;refine (p0q l hl _).mono ?_;rintro e w2 ⟨rfl,hb2⟩;rw[←HWS.out]))
 have p0:=q0.later hb2 q0.lt
 have p2:=q2.later hb2 q2.lt
 have p3:=q3.later hb2 q3.lt
 have hbA:=hb1.trans (hb2.mono hb1.size)
 have hne0:w.heap.size≠w.heap.size+1+1+1:=by omega
 have hne2:w.heap.size+1+1≠w.heap.size+1+1+1:=by omega
 have hle3:w.heap.size≤w.heap.size+1+1+1:=by omega
 clear q0 q1 q2 q3 hb1 hb2 Q1 hs1 hszb
 go_loopw [14] (fun i wr=>∃k:Nat,k≤64∧i=.int .i64 k∧Row wr w.heap.size 185 xs∧Row wr (w.heap.size+1+1) 185 (List.replicate 8 (.int .u32 0))∧Row wr (w.heap.size+1+1+1) 185 (a0L (d0r ws s k).list)∧Below w.heap.size w wr) (fun i _=>64 - (intOf i).toNat)
 case atStart=>exact⟨0,by omega,rfl,p0,p2,by rw[HXS.out] at p3;exact p3,hbA⟩
 case round =>
  clear p0 p2 p3 hbA
  obtain⟨k,hk,rfl,p0,p2,p3,hb⟩:=hrel
  by_cases hlt:k < 64
  ·have hix:=q0l ws hlen k hlt
   have HR:=f1D (show d0r ws s (k+1)=s0i (d0r ws s k) (i0d k) (ws.getD k 0#32) from rfl)
   have hC:=hT.later hb (f1F _)
   generalize ws.getD k 0#32=x at *
   generalize d0r ws s k=st at *
   obtain⟨a,b,c,d,e,f,g,h⟩:=st
   go_wp2_with fail
   have hl3:=f1D (show wr.drew.drew.heap[w.heap.size+1+1+1]?=some (.cells (a0L (St.list ⟨a,b,c,d,e,f,g,h⟩)).toArray 185 (0,0)) from p3)
   have c0:wr.cell? ⟨w.heap.size+1+1+1,0,none⟩=some (.int .u32 (u a)):=p3.cell 0
   have c1:wr.cell? ⟨w.heap.size+1+1+1,1,none⟩=some (.int .u32 (u b)):=p3.cell 1
   have c2:wr.cell? ⟨w.heap.size+1+1+1,2,none⟩=some (.int .u32 (u c)):=p3.cell 2
   have c3:wr.cell? ⟨w.heap.size+1+1+1,3,none⟩=some (.int .u32 (u d)):=p3.cell 3
   have c4:wr.cell? ⟨w.heap.size+1+1+1,4,none⟩=some (.int .u32 (u e)):=p3.cell 4
   have c5:wr.cell? ⟨w.heap.size+1+1+1,5,none⟩=some (.int .u32 (u f)):=p3.cell 5
   have c6:wr.cell? ⟨w.heap.size+1+1+1,6,none⟩=some (.int .u32 (u g)):=p3.cell 6
   have c7:wr.cell? ⟨w.heap.size+1+1+1,7,none⟩=some (.int .u32 (u h)):=p3.cell 7
   refine wp_region_noPanic ?_
   refine wp_region_held_drew (S:=fun w'=>w'=wr.drew) (by kernel_rfl) (rfl) (fun hHeld=>?_)
   refine rt 0 18 rfl ?_ (hy:=by intro w hS;subst hS;go_simp;try with_reducible rfl)
   refine rt 2 20 rfl ?_ (hy:=by intro w hS;subst hS;go_simp;try with_reducible rfl)
   refine rt 6 24 rfl ?_ (hy:=by intro w hS;subst hS;go_simp;try with_reducible rfl)
   refine rt 8 26 rfl ?_ (hy:=by intro w hS;subst hS;go_simp;try with_reducible rfl)
   refine rt 10 28 rfl ?_ (hy:=by intro w hS;subst hS;go_simp;try with_reducible rfl)
   refine rt 14 32 rfl ?_ (hy:=by intro w hS;subst hS;go_simp;try with_reducible rfl)
   refine rt 17 35 rfl ?_ (hy:=by intro w hS;subst hS;go_simp;try with_reducible rfl)
   refine rt 1 19 rfl ?_ (hy:=by intro w hS;subst hS;go_simp;try with_reducible rfl)
   refine rt 3 21 rfl ?_ (hy:=by intro w hS;subst hS;go_simp;try with_reducible rfl)
   refine rt 7 25 rfl ?_ (hy:=by intro w hS;subst hS;go_simp;try with_reducible rfl)
   refine rt 9 27 rfl ?_ (hy:=by intro w hS;subst hS;go_simp;try with_reducible rfl)
   refine rt 11 29 rfl ?_ (hy:=by intro w hS;subst hS;go_simp;try with_reducible rfl)
   refine rc1 4 fun K hK=>?_
   go_simp
   refine (o0m _ _ _).mono ?_;rintro e w' ⟨rfl,rfl⟩
   try go_wp2_with fail
   refine hK.out _ _ rfl (fun _=>?_)
   clear hK K
   try (rw[a0l];dsimp only[List.set])
   refine rt 5 23 rfl ?_ (hy:=by intro w hS;subst hS;go_simp;try with_reducible rfl)
   refine rc1 12 fun K hK=>?_
   go_simp
   refine (s0P _ _ _ _).mono ?_;rintro e w' ⟨rfl,rfl⟩
   try go_wp2_with fail
   refine hK.out _ _ rfl (fun _=>?_)
   clear hK K
   try (rw[a0l];dsimp only[List.set])
   refine rt 13 31 rfl ?_ (hy:=by intro w hS;subst hS;go_simp;try with_reducible rfl)
   refine rc1 15 fun K hK=>?_
   go_simp
   refine (p0a k _ (n0N hC) hlt).mono ?_;rintro e w' ⟨rfl,rfl⟩
   try go_wp2_with fail
   refine hK.out _ _ rfl (fun _=>?_)
   clear hK K
   try (rw[a0l];dsimp only[List.set])
   refine rt 16 34 rfl ?_ (hy:=by intro w hS;subst hS;go_simp;try with_reducible rfl)
   refine rt 18 36 rfl ?_ (hy:=by intro w hS;subst hS;go_simp;try with_reducible rfl)
   refine rt 19 8 rfl ?_ (hy:=by intro w hS;subst hS;go_simp;try with_reducible rfl)
   refine wpAnyH_done (by kernel_rfl) ?_ _
   refine NoPanic.normal ?_
   go_wp2_with fail
   generalize ht1:h+h0y 1 e+n0r e f g+i0d k+x=t1
   refine wp_region_noPanic ?_
   refine wp_region_held_drew (S:=fun w'=>w'=wr.drew.drew) (by kernel_rfl) (rfl) (fun hHeld=>?_)
   refine rt 0 37 rfl ?_ (hy:=by intro w hS;subst hS;go_simp;try with_reducible rfl)
   refine rt 3 40 rfl ?_ (hy:=by intro w hS;subst hS;go_simp;try with_reducible rfl)
   refine rt 5 42 rfl ?_ (hy:=by intro w hS;subst hS;go_simp;try with_reducible rfl)
   refine rt 7 44 rfl ?_ (hy:=by intro w hS;subst hS;go_simp;try with_reducible rfl)
   refine rt 1 38 rfl ?_ (hy:=by intro w hS;subst hS;go_simp;try with_reducible rfl)
   refine rt 4 41 rfl ?_ (hy:=by intro w hS;subst hS;go_simp;try with_reducible rfl)
   refine rt 6 43 rfl ?_ (hy:=by intro w hS;subst hS;go_simp;try with_reducible rfl)
   refine rt 8 45 rfl ?_ (hy:=by intro w hS;subst hS;go_simp;try with_reducible rfl)
   refine rc1 2 fun K hK=>?_
   go_simp
   refine (o0m _ _ _).mono ?_;rintro e w' ⟨rfl,rfl⟩
   try go_wp2_with fail
   refine hK.out _ _ rfl (fun _=>?_)
   clear hK K
   try (rw[a0l];dsimp only[List.set])
   refine rc1 9 fun K hK=>?_
   go_simp
   refine (z0T _ _ _ _).mono ?_;rintro e w' ⟨rfl,rfl⟩
   try go_wp2_with fail
   refine hK.out _ _ rfl (fun _=>?_)
   clear hK K
   try (rw[a0l];dsimp only[List.set])
   refine rt 10 47 rfl ?_ (hy:=by intro w hS;subst hS;go_simp;try with_reducible rfl)
   refine rt 11 9 rfl ?_ (hy:=by intro w hS;subst hS;go_simp;try with_reducible rfl)
   refine wpAnyH_done (by kernel_rfl) ?_ _
   refine NoPanic.normal ?_
   generalize ht2:h0y 0 a+d1j a b c=t2
   go_wp2_with (with_reducible refine wpList_store_row rfl 185 (.tmp 5) (.tmp 67) rfl (w.heap.size+1+1+1) _ rfl rfl 185 _ hl3.out (by kernel_rfl) (by kernel_rfl) (by kernel_rfl) ?_)
   clear c0 c1 c2 c3 c4 c5 c6 c7 hix hC hT
   go_roundw
   case rel =>
    refine⟨k+1,by omega,by go_num,k0N p0.drew.drew _ hne0,k0N p2.drew.drew _ hne2,?_,below_setRow hb.drew.drew hle3 _⟩
    rw[HR.out]
    have h:=setRow_heap wr.drew.drew (w.heap.size+1+1+1) _ #[Value.int IntKind.u32 (u (t1+t2)),Value.int IntKind.u32 (u a),Value.int IntKind.u32 (u b),Value.int IntKind.u32 (u c),Value.int IntKind.u32 (u (d+t1)),Value.int IntKind.u32 (u e),Value.int IntKind.u32 (u f),Value.int IntKind.u32 (u g)] 185 (0,0) hl3.out
    unfold s0i
    simp only[ht1,ht2]
    exact h
   case measure=>simp[intOf];omega
  ·have e64:k=64:=by omega
   rw[e64] at p3
   clear e64 hT
   generalize hst:d0r ws s 64=st at *
   go_wp2_with fail
   have HST:=f1D hst
   clear hst
   have hsl:s.list.length=8:=rfl
   rw[show a0L st.list=a0L (mixL (addS st s).list st.list 0) from rfl] at p3
   go_loopw [69] (fun i wr=>∃k:Nat,k≤8∧i=.int .i64 k∧Row wr w.heap.size 185 xs∧Row wr (w.heap.size+1+1) 185 (List.replicate 8 (.int .u32 0))∧Row wr (w.heap.size+1+1+1) 185 (a0L (mixL (addS st s).list st.list k))∧Below w.heap.size w wr) (fun i _=>8 - (intOf i).toNat)
   case atStart=>exact⟨0,by omega,rfl,p0,p2,p3,hb⟩
   case round =>
    clear p0 p2 p3 hb
    obtain⟨i,hi,rfl,p0,p2,p3,hb⟩:=hrel
    by_cases hlt8:i < 8
    ·go_wp2_with fail
     have c1:=(p3.drew.cell i).trans (f0d _ i (by rw[k0s _ _ _ rfl rfl];exact hlt8))
     rw[r0G _ _ _ rfl rfl hlt8] at c1
     have p0':=p0
     rw[HXS.out] at p0'
     have c2:=(p0'.drew.cell i).trans (f0d _ i (by rw[hsl];exact hlt8))
     have hsum:=r0l st s i hlt8
     have hset:=r0H (addS st s).list st.list i rfl rfl hlt8
     have hf:=p3.drew.free i
     generalize st.list.getD i 0#32=y at *
     generalize s.list.getD i 0#32=z at *
     have n8:(i:Int) < 8:=by omega
     refine wp_region_noPanic ?_
     refine wp_region_held_drew (S:=fun w'=>w'.cell? ⟨w.heap.size,i,none⟩=some (.int .u32 (u z))) (by kernel_rfl) (c2) (fun hHeld=>?_)
     refine rt 0 72 hHeld ?_
     refine rt 3 75 hHeld ?_
     refine rt 1 73 hHeld ?_
     refine rt 4 76 hHeld ?_
     refine rt 5 77 hHeld ?_
     refine rc1 2 fun K hK=>?_
     go_simp
     refine hK.out _ _ (hHeld) (fun _=>?_)
     clear hK K
     try (rw[a0l];dsimp only[List.set])
     refine rt 6 78 hHeld ?_
     refine rt 7 79 hHeld ?_
     refine rc1 8 fun K hK=>?_
     go_simp
     refine hK.out _ _ (by exact (World.cell?_setCell_far _ _ _ _ (fun e=>hne0 e.symm)).trans c2) (fun _=>?_)
     clear hK K
     try (rw[a0l];dsimp only[List.set])
     refine wpAnyH_done (by kernel_rfl) ?_ _
     refine NoPanic.normal ?_
     go_wp2_with fail
     go_roundw
     case rel =>
      refine⟨i+1,by omega,by go_num,(p0.far _ _ hne0).drew,(p2.far _ _ hne2).drew,?_,(hb.setCell hle3 _).drew⟩
      have h:=(p3.set i (.int .u32 (u (y+z)))).drew
      rw[←hsum,hset,hsum] at h
      exact h
     case measure=>simp[intOf];omega
    ·have e8:i=8:=by omega
     rw[e8] at p3
     have hz:mixL (addS st s).list st.list 8=(addS st s).list:=rfl
     rw[hz] at p3
     have R3:=f1D (show wr.heap[w.heap.size+1+1+1]?=some (.cells (a0L (addS st s).list).toArray 185 (0,0)) from p3)
     have R2:=f1D (show wr.heap[w.heap.size+1+1]?=some (.cells (List.replicate 8 (Value.int .u32 0)).toArray 185 (0,0)) from p2)
     have hszf:=f1D (show (prog.info? 185).map (·.size)=some (a0L (addS st s).list).toArray.size by rw[u0v];rfl)
     have hszo:=f1D (show (List.replicate 8 (Value.int .u32 0)).toArray.size=(a0L (addS st s).list).toArray.size by rw[List.size_toArray,List.size_toArray,List.length_replicate,a0z];rfl)
     have honf:=f1D (b0d (d0J (addS st s).list))
     have hcomp:h0i l s=addS (d0r ws s 64) s:=by unfold h0i;rw[HWS.out]
     rw[HST.out] at hcomp
     have hW:a0L (h0i l s).list=a0L (addS st s).list:=by rw[hcomp]
     generalize a0L (addS st s).list=W8 at *
     have HW:=f1D hW
     clear p0 p2 p3 hz hcomp hW e8 hsl
     go_wp2_with (first
      | (with_reducible refine wpList_load_row rfl 185 (.tmp 5) rfl (w.heap.size+1+1+1) rfl 185 W8.toArray (0,0) (.array 8 147) R3.out underlying185 rfl hszf.out ?_)
      | (with_reducible refine wpList_store_row rfl 185 (.tmp 4) (.tmp 81) rfl (w.heap.size+1+1) W8.toArray rfl rfl 185 _ R2.out hszf.out hszo.out honf.out ?_;have HG:=f1D (setRow_heap wr (w.heap.size+1+1) _ W8.toArray 185 (0,0) R2.out))
      | (with_reducible refine bodyPost_ret (results_cell_row rfl _ _ (w.heap.size+1+1) 185 W8.toArray (0,0) (.array 8 147) rfl HG.out underlying185 rfl hszf.out) rfl ?_))
     exact⟨by rw[HW.out],below_setRow hb (by omega) _⟩
end Go.Proofs.YtcbilopdeiapjaaGreatDoor
namespace Go.Proofs.YtcbilopdeiapjaaGreatDoor
open Go Go.RowKit
def S0:St:=⟨1779033703#32,3144134277#32,1013904242#32,2773480762#32,1359893119#32,2600822924#32,528734635#32,1541459225#32⟩
def j0X (l:List UInt8) (k:Nat):List UInt8:=(l.drop (64*k)).take 64
def stK (l:List UInt8):Nat→St
 | 0=>S0
 | k+1=>h0i (j0X l k) (stK l k)
theorem o0y (l:List UInt8) (k:Nat) (h:64*(k+1)≤l.length):(j0X l k).length=64:=by
 unfold j0X;rw[List.length_take,List.length_drop];omega
theorem n0I (l m:List UInt8) (k:Nat) (h:64*(k+1)≤l.length):j0X (l++m) k=j0X l k:=by
 unfold j0X
 rw[List.drop_append_of_le_length (by omega),List.take_append_of_le_length (by rw[List.length_drop];omega)]
theorem m0g (l m:List UInt8) (k:Nat) (h:64*k≤l.length):stK (l++m) k=stK l k:=by
 induction k with
 | zero=>rfl
 | succ k ih=>rw[stK,stK,ih (by omega),n0I l m k h]
def shaS (l:List UInt8):St:=stK (l++padL l.length) ((l.length+(padL l.length).length)/64)
def f0M (s:List (BitVec 32)):List UInt8:=s.flatMap b0U
def shaL (l:List UInt8):List UInt8:=f0M (shaS l).list
theorem c0K (l:List UInt8):(shaL l).length=32:=rfl
theorem l0R (l:List UInt8):(l.length+(padL l.length).length)%64=0:=by
 rw[h0A];unfold b0I;omega
def Opn (l o:List UInt8):Prop:=o.length=64∧o.take (l.length%64)=l.drop (64*(l.length/64))
def digV (s:St) (o:List UInt8) (m:Nat):List Value:=a0L s.list++(byts o++[.int .u64 m])
def Dgt (w:World) (g:Nat) (l:List UInt8):Prop:=2 < g∧∃o,Opn l o∧Row w g 187 (digV (stK l (l.length/64)) o l.length)
theorem c1A:Opn [] (List.replicate 64 0):=⟨by simp,by simp⟩
theorem r0a {o c:List UInt8} {r:Nat} (hr:r≤o.length):(splice o r c).take (r+c.length)=o.take r++c:=by
 unfold splice
 rw[←List.append_assoc,List.take_append_of_le_length (by rw[List.length_append,List.length_take];omega),List.take_of_length_le (by rw[List.length_append,List.length_take];omega)]
theorem r0O {l o:List UInt8} (c:List UInt8) (h:Opn l o):(splice o (l.length%64) c).take (l.length%64+c.length)=(l++c).drop (64*(l.length/64)):=by
 rw[r0a (by rw[h.1];omega),h.2,List.drop_append_of_le_length (by omega)]
theorem a1a {l o c:List UInt8} (h:Opn l o) (hc:l.length%64+c.length < 64) :
  Opn (l++c) (splice o (l.length%64) c)∧stK (l++c) ((l++c).length/64)=stK l (l.length/64):=by
 have e1:(l++c).length/64=l.length/64:=by rw[List.length_append];omega
 have e2:(l++c).length%64=l.length%64+c.length:=by rw[List.length_append];omega
 refine⟨⟨by rw[length_splice _ _ _ (by rw[h.1];omega),h.1],?_⟩,?_⟩
 ·rw[e1,e2,r0O c h]
 ·rw[e1,m0g _ _ _ (by omega)]
theorem z0Z {l o c:List UInt8} (h:Opn l o) (hc:l.length%64+c.length=64) :
  Opn (l++c) (splice o (l.length%64) c)∧stK (l++c) ((l++c).length/64)=h0i (splice o (l.length%64) c) (stK l (l.length/64)):=by
 have e1:(l++c).length/64=l.length/64+1:=by rw[List.length_append];omega
 have e2:(l++c).length%64=0:=by rw[List.length_append];omega
 have hl:(splice o (l.length%64) c).length=64:=by rw[length_splice _ _ _ (by rw[h.1];omega),h.1]
 have hd:(l++c).drop (64*(l.length/64))=splice o (l.length%64) c:=by
  rw[←r0O c h,List.take_of_length_le (by rw[hl];omega)]
 refine⟨⟨hl,?_⟩,?_⟩
 ·rw[e1,e2,List.take_zero,List.drop_of_length_le (by rw[List.length_append];omega)]
 ·rw[e1,stK,j0X,hd,List.take_of_length_le (by rw[hl];exact f1F _),m0g _ _ _ (by omega)]
theorem b0x (s:St):s.list.length=8:=rfl
theorem f0S (s:St) (o:List UInt8) (m:Nat) (ho:o.length=64):(digV s o m).length=73:=by
 unfold digV;simp[a0z,a0b,ho,b0x]
theorem k0b (s:St) (o:List UInt8) (m:Nat) (ho:o.length=64):(digV s o m)[72]?=some (.int .u64 m):=by
 unfold digV
 rw[List.getElem?_append_right (by rw[a0z,b0x];omega),List.getElem?_append_right (by rw[a0z,a0b,b0x];omega)]
 simp[a0z,a0b,ho,b0x]
theorem r0w (s:St) (o:List UInt8) (m n:Nat) (ho:o.length=64):(digV s o m).set 72 (.int .u64 n)=digV s o n:=by
 unfold digV
 rw[List.set_append_right _ _ (by rw[a0z,b0x];omega),List.set_append_right _ _ (by rw[a0z,a0b,b0x];omega)]
 simp[a0z,a0b,ho,b0x]
theorem u0y {α:Type} (A B C D:List α) (r:Nat) (h:r+D.length≤B.length):splice (A++(B++C)) (A.length+r) D=A++(splice B r D++C):=by
 unfold splice
 rw[List.take_length_add_append,List.take_append_of_le_length (by omega),Nat.add_assoc,List.drop_length_add_append,List.drop_append_of_le_length h]
 simp
theorem p0Y (o c:List UInt8) (r:Nat):byts (splice o r c)=splice (byts o) r (byts c):=by
 unfold splice
 rw[a0h,a0h,a0b]
 unfold byts;rw[List.map_take,List.map_drop]
theorem v0K (s:St) (o c:List UInt8) (m r:Nat) (ho:o.length=64) (h:r+c.length≤64):splice (digV s o m) (8+r) (byts c)=digV s (splice o r c) m:=by
 unfold digV
 have:=u0y (a0L s.list) (byts o) [.int .u64 m] (byts c) r (by rw[a0b,a0b];omega)
 rw[a0z,b0x] at this
 rw[this,p0Y]
theorem s0U (s t:St) (o:List UInt8) (m:Nat):splice (digV s o m) 0 (a0L t.list)=digV t o m:=by
 unfold digV splice
 rw[List.take_zero,List.nil_append,Nat.zero_add,a0z,b0x]
 congr 1
theorem k0c {w:World} {g:Nat} {t:TypeId} {s:St} {o:List UInt8} {m:Nat} (h:Row w g t (digV s o m)):w.rangeAt g 0 (a0L s.list) :=
 b0R (A:=[]) h
theorem h0v {w:World} {g:Nat} {t:TypeId} {s:St} {o:List UInt8} {m:Nat} (h:Row w g t (digV s o m)):w.rangeAt g 8 (byts o):=by
 have:=b0R (A:=a0L s.list) h
 rwa [a0z,b0x] at this
theorem Dgt.lt {w:World} {g:Nat} {l:List UInt8} (h:Dgt w g l):g < w.heap.size:=by
 obtain⟨_,o,_,h⟩:=h;exact h.lt
theorem Dgt.later {w w':World} {g:Nat} {l:List UInt8} {B:Nat} (h:Dgt w g l) (hb:Below B w w') (hg:g < B):Dgt w' g l:=by
 obtain⟨hq,o,ho,h⟩:=h;exact⟨hq,o,ho,h.later hb hg⟩
theorem Dgt.grown {w w':World} {g k:Nat} {l:List UInt8} (h:Dgt w g l) (hg:w.grownBy w' (some k)) (hne:g≠k):Dgt w' g l:=by
 obtain⟨hq,o,ho,h⟩:=h;exact⟨hq,o,ho,h.grown hg hne⟩
theorem Dgt.many {w:World} {g:Nat} {l:List UInt8} (h:Dgt w g l):w.cell? ⟨g,72,none⟩=some (.int .u64 l.length):=by
 obtain⟨_,o,ho,h⟩:=h
 exact (h.cell 72).trans (k0b _ _ _ ho.1)
theorem Dgt.range {w:World} {g:Nat} {l:List UInt8} (h:Dgt w g (l++padL l.length)):w.rangeAt g 0 (a0L (shaS l).list):=by
 obtain⟨_,o,_,h⟩:=h
 rw[List.length_append] at h
 exact k0c h
theorem Cube.grown {w w':World} {k:Nat} (h:Cube w) (hg:w.grownBy w' (some k)) (hne:2 < k):Cube w' :=
 ⟨fun i hi=>by rw[World.cell?_of_block (w:=w) (hg.block 2 h.size (fun e=>by have:=Option.some.inj e;omega))];exact h.at_ i hi⟩
theorem v0o (l:List UInt8) (k:Nat):(byts l).drop (64*k)=byts (j0X l k)++byts (l.drop (64*k+64)):=by
 rw[←a0h]
 unfold j0X byts
 rw[←List.drop_drop,List.take_append_drop,List.map_drop]
end Go.Proofs.YtcbilopdeiapjaaGreatDoor
