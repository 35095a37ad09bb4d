import Derived.Test.YtcbilopdeiapjaaGreatDoorRgas
import Derived.RangeFuncNested
import Derived.RangeFuncBound
import Derived.Shelf.RegionOpen
import Derived.OwnWalkIn
import Derived.LoopNIn
import Derived.LoopIn
import Derived.Lib.SplitLaws
set_option maxHeartbeats 16000000
set_option maxRecDepth 100000
open Go.Proofs.Tryz
namespace Go.Proofs.YtcbilopdeiapjaaGreatDoor
open Go Go.RowKit
theorem y0C (l:List UInt8) (h:l.length=12):∃a b c d e f g i j k m n:UInt8,l=[a,b,c,d,e,f,g,i,j,k,m,n]:=by
 match l,h with
 | [a,b,c,d,e,f,g,i,j,k,m,n],_=>exact⟨a,b,c,d,e,f,g,i,j,k,m,n,rfl⟩
theorem d1n (w:World):(zeroValue 5).run prog w=.ok (.int .u8 0) w:=by kernel_rfl
theorem u0n {w w2:World} {g t:Nat} {x:Value} {b0 b1 b2 b3:UInt8} {r:List UInt8} (h:Row w g t (x :: byts (b0 :: b1 :: b2 :: b3 :: r))) (hw:w.setCells g 1 (List.replicate 4 (.int .u8 0))=w2) :
  Row w2 g t (x :: byts (0 :: 0 :: 0 :: 0 :: r))∧w.grownBy w2 (some g):=by
 subst hw
 have h4:=(((h.set 1 (.int .u8 0)).set 2 (.int .u8 0)).set 3 (.int .u8 0)).set 4 (.int .u8 0)
 exact⟨h4,(((a0q _ _ _ _).trans (a0q _ _ _ _)).trans (a0q _ _ _ _)).trans (a0q _ _ _ _)⟩
theorem z0l (v6:Bool) (b0 b1 b2 b3:UInt8) (r:List UInt8) (h:r.length=12):b0h ⟨v6,b0 :: b1 :: b2 :: b3 :: r⟩=(v6||decide ((0 :: 0 :: 0 :: 0 :: r:List UInt8)=List.replicate 16 0)):=by
 unfold b0h
 congr 1
 show r.all (·==0)=_
 rw[Bool.eq_iff_iff,List.all_eq_true,decide_eq_true_iff]
 constructor
 ·intro hz
  have:r=List.replicate 12 0:=List.eq_replicate_iff.2 ⟨h,fun x hx=>by simpa using hz x hx⟩
  rw[this];rfl
 ·intro e x hx
  have:r=List.replicate 12 0:=by injection e with _ e;injection e with _ e;injection e with _ e;injection e with _ e
  rw[this] at hx
  rw[List.eq_of_mem_replicate hx];rfl
theorem i0s (a:Adr) (h:a.Ok) (w:World) :
  Calls prog 200 #[.agg (adrV a).toArray] w fun e w'=>e=.returned (.bool (b0h a))∧Below w.heap.size w w':=by
 obtain⟨v6,b⟩:=a
 match b,h with
 | b0 :: b1 :: b2 :: b3 :: r,h =>
 have hr12:r.length=12:=by simpa [Adr.Ok] using h
 have HC:=f1D (show b0h ⟨v6,b0 :: b1 :: b2 :: b3 :: r⟩=(v6||decide ((0 :: 0 :: 0 :: 0 :: r:List UInt8)=List.replicate 16 0)) from z0l v6 b0 b1 b2 b3 r hr12)
 obtain⟨w1,hw1⟩:∃w1,w1=w.alloc (.cells (adrV ⟨v6,b0 :: b1 :: b2 :: b3 :: r⟩).toArray 67):=⟨_,rfl⟩
 have hr:Row w1 w.heap.size 67 (.bool v6 :: byts (b0 :: b1 :: b2 :: b3 :: r)):=by rw[hw1];exact Row.new w _ _
 have hb:Below w.heap.size w w1:=by rw[hw1];exact (Below.refl _ w).alloc (f1F _) _
 have hcl:=f1D (show ∀ty,(Builtin.clear_ #[61] ty #[.slice (some ⟨w.heap.size,1,none⟩) 4 16]).run prog w1=.ok (.tuple #[]) (w1.setCells w.heap.size 1 (List.replicate 4 (.int .u8 0))) from
  fun ty=>Lib.run_clear_slice w1 61 5 ty (.int .u8 0) underlying61 d1n rfl rfl w.heap.size 1 4 16 (by omega) (by intro j hj;rw[hr.cell];match j,hj with | 0,_=>rfl | 1,_=>rfl | 2,_=>rfl | 3,_=>rfl) (fun j _=>hr.free _))
 obtain⟨V,hV⟩:∃V,V=adrV ⟨v6,b0 :: b1 :: b2 :: b3 :: r⟩:=⟨_,rfl⟩
 rw[←hV] at hw1 ⊢
 clear hV
 obtain⟨i0,hi,_⟩:=info_parts infoByte
 have heq:=f1D (fun w'=>j0c 65 16 i0 underlying65 hi (0 :: 0 :: 0 :: 0 :: r) (List.replicate 16 0) (by simp[hr12]) rfl w')
 go_enter func200,ntmps200
 subst hw1
 go_wp2_with (simp only[hcl.out];refine Hid.out ?_)
 refine f1D ?_
 generalize hw2:World.setCells _ _ _ _=w2
 obtain⟨r2,hg2⟩:=u0n hr hw2
 have hb2:=hb.grown hg2 hb.size (fun k h=>by cases h;exact f1F _)
 have h0:w2.cell? ⟨w.heap.size,0,none⟩=some (.bool v6):=by rw[r2.cell];rfl
 clear hw2 hcl hr hb hg2
 cases v6 with
 | true =>
  go_wp2
  go_ret
  exact⟨by rw[HC.out];rfl,hb2⟩
 | false =>
  obtain⟨c4,c5,c6,c7,c8,c9,c10,c11,c12,c13,c14,c15,rfl⟩:=y0C r hr12
  have hc1:w2.cell? ⟨w.heap.size,1,none⟩=some (.int .u8 0):=by rw[r2.cell];rfl
  have hc2:w2.cell? ⟨w.heap.size,2,none⟩=some (.int .u8 0):=by rw[r2.cell];rfl
  have hc3:w2.cell? ⟨w.heap.size,3,none⟩=some (.int .u8 0):=by rw[r2.cell];rfl
  have hc4:w2.cell? ⟨w.heap.size,4,none⟩=some (.int .u8 0):=by rw[r2.cell];rfl
  have hc5:w2.cell? ⟨w.heap.size,5,none⟩=some (.int .u8 (c4.toNat:Int)):=by rw[r2.cell];rfl
  have hc6:w2.cell? ⟨w.heap.size,6,none⟩=some (.int .u8 (c5.toNat:Int)):=by rw[r2.cell];rfl
  have hc7:w2.cell? ⟨w.heap.size,7,none⟩=some (.int .u8 (c6.toNat:Int)):=by rw[r2.cell];rfl
  have hc8:w2.cell? ⟨w.heap.size,8,none⟩=some (.int .u8 (c7.toNat:Int)):=by rw[r2.cell];rfl
  have hc9:w2.cell? ⟨w.heap.size,9,none⟩=some (.int .u8 (c8.toNat:Int)):=by rw[r2.cell];rfl
  have hc10:w2.cell? ⟨w.heap.size,10,none⟩=some (.int .u8 (c9.toNat:Int)):=by rw[r2.cell];rfl
  have hc11:w2.cell? ⟨w.heap.size,11,none⟩=some (.int .u8 (c10.toNat:Int)):=by rw[r2.cell];rfl
  have hc12:w2.cell? ⟨w.heap.size,12,none⟩=some (.int .u8 (c11.toNat:Int)):=by rw[r2.cell];rfl
  have hc13:w2.cell? ⟨w.heap.size,13,none⟩=some (.int .u8 (c12.toNat:Int)):=by rw[r2.cell];rfl
  have hc14:w2.cell? ⟨w.heap.size,14,none⟩=some (.int .u8 (c13.toNat:Int)):=by rw[r2.cell];rfl
  have hc15:w2.cell? ⟨w.heap.size,15,none⟩=some (.int .u8 (c14.toNat:Int)):=by rw[r2.cell];rfl
  have hc16:w2.cell? ⟨w.heap.size,16,none⟩=some (.int .u8 (c15.toNat:Int)):=by rw[r2.cell];rfl
  have heq2:∀w',(Op.equalIn 10000 65 (.agg #[.int .u8 0,.int .u8 0,.int .u8 0,.int .u8 0,.int .u8 (c4.toNat:Int),.int .u8 (c5.toNat:Int),.int .u8 (c6.toNat:Int),.int .u8 (c7.toNat:Int),.int .u8 (c8.toNat:Int),.int .u8 (c9.toNat:Int),.int .u8 (c10.toNat:Int),.int .u8 (c11.toNat:Int),.int .u8 (c12.toNat:Int),.int .u8 (c13.toNat:Int),.int .u8 (c14.toNat:Int),.int .u8 (c15.toNat:Int)]) (.agg #[.int .u8 0,.int .u8 0,.int .u8 0,.int .u8 0,.int .u8 0,.int .u8 0,.int .u8 0,.int .u8 0,.int .u8 0,.int .u8 0,.int .u8 0,.int .u8 0,.int .u8 0,.int .u8 0,.int .u8 0,.int .u8 0])).run prog w'=.ok (decide ((0 :: 0 :: 0 :: 0 :: [c4,c5,c6,c7,c8,c9,c10,c11,c12,c13,c14,c15]:List UInt8)=List.replicate 16 0)) w':=heq.out
  clear r2 heq
  generalize decide ((0 :: 0 :: 0 :: 0 :: [c4,c5,c6,c7,c8,c9,c10,c11,c12,c13,c14,c15]:List UInt8)=List.replicate 16 0)=D at *
  go_wp2
  go_ret
  exact⟨by rw[HC.out];rfl,hb2⟩
def nGo:Nat→Nat→Nat→Nat→List Bool→Nat×Nat
 | _,p,m,_,[]=>(p,m)
 | i,p,m,r,z :: zs=>if z then (if m < r+1 then nGo (i+1) (i - r) (r+1) (r+1) zs else nGo (i+1) p m (r+1) zs) else nGo (i+1) p m 0 zs
theorem c1s:∀a b c d e f g h:Bool,nGo 0 0 0 0 [a,b,c,d,e,f,g,h]=(s0D [a,b,c,d,e,f,g,h],zB ([a,b,c,d,e,f,g,h].drop (s0D [a,b,c,d,e,f,g,h]))):=by decide
theorem d1K (l:List Nat) (h8:l.length=8):nGo 0 0 0 0 (l.map fun n=>decide (n=0))=(d0K l,a0W (l.drop (d0K l))):=by
 rw[←r0o,←d1l,List.map_drop]
 obtain⟨a,b,c,d,e,f,g,h,rfl⟩:=m0B l h8
 exact c1s _ _ _ _ _ _ _ _
theorem d1J (l:List Nat) (k:Nat) (hk:k < l.length) (p m r:Nat):nGo k p m r ((l.drop k).map fun n=>decide (n=0)) =
  if l.getD k 0=0 then (if m < r+1 then nGo (k+1) (k - r) (r+1) (r+1) ((l.drop (k+1)).map fun n=>decide (n=0)) else nGo (k+1) p m (r+1) ((l.drop (k+1)).map fun n=>decide (n=0))) else nGo (k+1) p m 0 ((l.drop (k+1)).map fun n=>decide (n=0)):=by
 rw[List.drop_eq_getElem_cons hk,List.map_cons,nGo,List.getD_eq_getElem?_getD,List.getElem?_eq_getElem hk]
 simp
theorem n0z (l:List Nat) (h8:l.length=8) (w:World) :
  Calls prog 239 #[.agg (hwV l).toArray] w fun e w'=>e=.returned (.tuple #[.int .i64 (d0K l:Nat),.int .i64 (a0W (l.drop (d0K l)):Nat)])∧Below w.heap.size w w':=by
 have hsl:=f1D (show (prog.info? 244).map (·.size)=some (hwV l).toArray.size by rw[show (prog.info? 244).map (·.size)=some 8 by kernel_rfl,List.size_toArray,a0M,h8])
 have HI:=f1D (fun k hk w'=>w0r l h8 k hk w')
 have HE:=f1D (d1K l h8)
 obtain⟨w1,hw1⟩:∃w1,w1=w.alloc (.cells (hwV l).toArray 244):=⟨_,rfl⟩
 have hr:=f1D (show w1.heap[w.heap.size]?=some (.cells (hwV l).toArray 244 (0,0)) by rw[hw1];exact Row.new w _ _)
 have hb:Below w.heap.size w w1:=by rw[hw1];exact (Below.refl _ w).alloc (f1F _) _
 obtain⟨L,hL⟩:∃L,L=hwV l:=⟨_,rfl⟩
 rw[←hL] at hsl hw1 hr HI ⊢
 clear hL
 go_enter func239,ntmps239
 subst hw1
 go_wp2_with (with_reducible refine wpList_load_row rfl 244 (.tmp 1) rfl w.heap.size rfl 244 L.toArray (0,0) _ hr.out underlying244 rfl hsl.out ?_)
 go_loop [2,3,4,8] (fun v2 v3 v4 v8=>∃k p m r:Nat,k≤8∧r≤k∧v2=.int .i64 p∧v3=.int .i64 m∧v4=.int .i64 r∧v8=.int .i64 k∧nGo k p m r ((l.drop k).map fun n=>decide (n=0))=nGo 0 0 0 0 (l.map fun n=>decide (n=0))) (fun _ _ _ v8=>8 - (intOf v8).toNat)
 case atStart=>exact⟨0,0,0,0,by omega,by omega,rfl,rfl,rfl,rfl,rfl⟩
 case round =>
  obtain⟨k,p,m,r,hk,hrk,rfl,rfl,rfl,rfl,hgo⟩:=hrel
  by_cases hlt:k < 8
  ·have hlt':(k:Int) < 8:=by omega
   have hix:=HI.out k hlt
   rw[d1J l k (by omega)] at hgo
   have hI0:IntKind.i64.wrap ((r:Int)+1)=(r:Int)+1:=by rw[IntKind.wrap_i64];omega
   have hI1:IntKind.i64.wrap ((k:Int)+1)=(k:Int)+1:=by rw[IntKind.wrap_i64];omega
   have hI2:IntKind.i64.wrap ((k:Int)+1 - ((r:Int)+1))=((k - r:Nat):Int):=by rw[IntKind.wrap_i64];omega
   by_cases h0:l.getD k 0=0
   ·rw[if_pos h0] at hgo
    rw[h0] at hix
    clear h0
    by_cases hm:m < r+1
    ·rw[if_pos hm] at hgo
     have hm':(m:Int) < (r:Int)+1:=by omega
     have HG:=f1D hgo
     clear hgo
     go_wp2
     go_round
     case rel=>exact⟨k+1,k - r,r+1,r+1,by omega,by omega,rfl,by go_num,by go_num,by go_num,HG.out⟩
     case measure=>simp[intOf];omega
    ·rw[if_neg hm] at hgo
     have hm':(r:Int)+1≤(m:Int):=by omega
     have HG:=f1D hgo
     clear hgo
     go_wp2
     go_round
     case rel=>exact⟨k+1,p,m,r+1,by omega,by omega,rfl,rfl,by go_num,by go_num,HG.out⟩
     case measure=>simp[intOf];omega
   ·rw[if_neg h0] at hgo
    have h0':((l.getD k 0:Nat):Int)≠0:=by omega
    have HG:=f1D hgo
    generalize l.getD k 0=x at *
    clear hgo h0
    go_wp2
    go_round
    case rel=>exact⟨k+1,p,m,0,by omega,by omega,rfl,rfl,rfl,by go_num,HG.out⟩
    case measure=>simp[intOf];omega
  ·obtain rfl:k=8:=by omega
   have HG:=f1D (show (p,m)=(d0K l,a0W (l.drop (d0K l))) by rw[←HE.out,←hgo,List.drop_of_length_le (by omega)];rfl)
   clear hgo
   go_wp2
   go_ret2
   exact⟨by have:=HG.out;injection this with h1 h2;rw[←h2,←h1];rfl,hb⟩
theorem b1y (a:Adr) (ha:a.Ok) (n:Int) (h:ofOk a n=false) (w:World) :
  Calls prog 241 #[.agg (adrV a).toArray,.int .i64 n] w fun e w'=>e=.returned (.tuple #[.agg (rngV a0T).toArray,.bool false])∧Below w.heap.size w w':=by
 have HC:=t0J a n h
 have hck:=f1D (fun w'=>i0s a ha w')
 have hms:=f1D (fun w'=>n0y a w')
 obtain⟨V,hV⟩:∃V,V=adrV a:=⟨_,rfl⟩
 obtain⟨Z,hZ⟩:∃Z,Z=rngV a0T:=⟨_,rfl⟩
 have hzV:=f1D (show (prog.info? 67).map (·.size)=some V.length by rw[hV,a0m ha];exact b0b)
 have hzZ:=f1D (show (prog.info? 69).map (·.size)=some Z.toArray.size by rw[hZ,List.size_toArray,a0C _ b0O];exact c0n)
 have hZ1:=f1D (show Z.toArray.all (·.oneCell')=true by rw[hZ];exact d0q _)
 obtain⟨w1,hw1⟩:∃w1,w1=(w.alloc (.cells V.toArray 67)).alloc (.cells Z.toArray 69):=⟨_,rfl⟩
 obtain⟨r1,q1,hb1,-⟩:=d0Y hw1.symm
 have hZe:=f1D (hZ.trans i0h)
 have hw1':w1=(w.alloc (.cells V.toArray 67)).alloc (.cells #[Value.bool false,.int .u8 0,.int .u8 0,.int .u8 0,.int .u8 0,.int .u8 0,.int .u8 0,.int .u8 0,.int .u8 0,.int .u8 0,.int .u8 0,.int .u8 0,.int .u8 0,.int .u8 0,.int .u8 0,.int .u8 0,.int .u8 0,.int .i64 0] 69):=by rw[hw1,hZe.out]
 have HW:=f1D hw1'
 rw[←hV] at hck hms ⊢
 rw[←hZ]
 clear hV hZ h hw1 hw1'
 generalize d0L a.v6=m at *
 generalize b0h a=ck at *
 have tok1:True:=trivial
 rcases HC with rfl | ⟨rfl,h0⟩ | ⟨rfl,h0,hM⟩
 ·go_enter func241,ntmps241
  go_wp2_with (first
   | (have _t:=tok1;rw[←HW.out];clear tok1;with_reducible refine wpList_load_mid rfl 67 (.tmp 2) rfl w.heap.size 0 rfl V _ (a0i r1) underlying67 rfl hzV.out ?_)
   | (go_at_call 200;refine (hck.out _).mono ?_;rintro e w2 ⟨rfl,hb2⟩;have r2:=r1.later hb2 r1.lt;have q2:=q1.later hb2 q1.lt;have hb2:=hb1.trans (hb2.mono hb1.size);have Q2:=f1D (show w2.heap[w.heap.size+1]?=some (.cells Z.toArray 69 (0,0)) from q2);clear q2)
   | (have _t:=Q2;refine wpList_store_row rfl 69 (.tmp 4) (.tmp 20) rfl (w.heap.size+1) Z.toArray rfl (by rw[hZe.out];rfl) 69 Z.toArray Q2.out hzZ.out rfl hZ1.out ?_;refine Hid.out ?_))
  refine f1D ?_
  generalize hw8:World.setRow _ _ _=w8
  obtain⟨r8,hg8⟩:=a0y (show Row w2 (w.heap.size+1) 69 Z from Q2.out) hw8
  have hb8:=hb2.grown hg8 hb2.size (fun k h=>by cases h;omega)
  have R8:=f1D (show w8.heap[w.heap.size+1]?=some (.cells Z.toArray 69 (0,0)) from r8)
  clear hw8 r8 hg8 Q2
  go_wp2_with fail
  exact⟨rfl,_,a0d rfl _ _ (w.heap.size+1) 69 Z.toArray (0,0) _ rfl R8.out underlying69 rfl hzZ.out _ rfl,rfl,hb8⟩
 ·have hd0:decide (n < 0)=true:=decide_eq_true h0
  clear h0
  go_enter func241,ntmps241
  go_wp2_with (first
   | (have _t:=tok1;rw[←HW.out];clear tok1;with_reducible refine wpList_load_mid rfl 67 (.tmp 2) rfl w.heap.size 0 rfl V _ (a0i r1) underlying67 rfl hzV.out ?_)
   | (go_at_call 200;refine (hck.out _).mono ?_;rintro e w2 ⟨rfl,hb2⟩;have r2:=r1.later hb2 r1.lt;have q2:=q1.later hb2 q1.lt;have hb2:=hb1.trans (hb2.mono hb1.size);have Q2:=f1D (show w2.heap[w.heap.size+1]?=some (.cells Z.toArray 69 (0,0)) from q2);clear q2)
   | (have _t:=Q2;refine wpList_store_row rfl 69 (.tmp 4) (.tmp 20) rfl (w.heap.size+1) Z.toArray rfl (by rw[hZe.out];rfl) 69 Z.toArray Q2.out hzZ.out rfl hZ1.out ?_;refine Hid.out ?_))
  refine f1D ?_
  generalize hw8:World.setRow _ _ _=w8
  obtain⟨r8,hg8⟩:=a0y (show Row w2 (w.heap.size+1) 69 Z from Q2.out) hw8
  have hb8:=hb2.grown hg8 hb2.size (fun k h=>by cases h;omega)
  have R8:=f1D (show w8.heap[w.heap.size+1]?=some (.cells Z.toArray 69 (0,0)) from r8)
  clear hw8 r8 hg8 Q2
  go_wp2_with fail
  exact⟨rfl,_,a0d rfl _ _ (w.heap.size+1) 69 Z.toArray (0,0) _ rfl R8.out underlying69 rfl hzZ.out _ rfl,rfl,hb8⟩
 ·have hd0:decide (n < 0)=false:=decide_eq_false (by omega)
  have hdM:decide ((m:Int) < n)=true:=decide_eq_true hM
  clear h0 hM
  go_enter func241,ntmps241
  go_wp2_with (first
   | (have _t:=tok1;rw[←HW.out];clear tok1;with_reducible refine wpList_load_mid rfl 67 (.tmp 2) rfl w.heap.size 0 rfl V _ (a0i r1) underlying67 rfl hzV.out ?_)
   | (go_at_call 200;refine (hck.out _).mono ?_;rintro e w2 ⟨rfl,hb2⟩;have r2:=r1.later hb2 r1.lt;have q2:=q1.later hb2 q1.lt;have hb2:=hb1.trans (hb2.mono hb1.size))
   | (refine wpList_step fun K hK=>?_;refine b0c (some 16) rfl (by rfl) 67 (.tmp 2) rfl w.heap.size 0 rfl V _ (a0i r2) underlying67 rfl hzV.out ?_;refine hK _ _ ?_;clear hK)
   | (go_at_call 255;refine (hms.out _).mono ?_;rintro e w3 ⟨rfl,hb3⟩;have r3:=r2.later hb3 r2.lt;have q3:=(show Row w2 (w.heap.size+1) 69 Z from q2).later hb3 (Row.lt q2);have hb3:=hb2.trans (hb3.mono hb2.size);have Q3:=f1D (show w3.heap[w.heap.size+1]?=some (.cells Z.toArray 69 (0,0)) from q3);clear q3)
   | (have _t:=Q3;refine wpList_store_row rfl 69 (.tmp 4) (.tmp 20) rfl (w.heap.size+1) Z.toArray rfl (by rw[hZe.out];rfl) 69 Z.toArray Q3.out hzZ.out rfl hZ1.out ?_;refine Hid.out ?_))
  refine f1D ?_
  generalize hw8:World.setRow _ _ _=w8
  obtain⟨r8,hg8⟩:=a0y (show Row w3 (w.heap.size+1) 69 Z from Q3.out) hw8
  have hb8:=hb3.grown hg8 hb3.size (fun k h=>by cases h;omega)
  have R8:=f1D (show w8.heap[w.heap.size+1]?=some (.cells Z.toArray 69 (0,0)) from r8)
  clear hw8 r8 hg8 Q3
  go_wp2_with fail
  exact⟨rfl,_,a0d rfl _ _ (w.heap.size+1) 69 Z.toArray (0,0) _ rfl R8.out underlying69 rfl hzZ.out _ rfl,rfl,hb8⟩
theorem y0X (a:Adr) (ha:a.Ok) (n:Int) (h:ofOk a n=true) (w:World) :
  Calls prog 241 #[.agg (adrV a).toArray,.int .i64 n] w fun e w'=>e=.returned (.tuple #[.agg (rngV ⟨topA a n,n⟩).toArray,.bool true])∧Below w.heap.size w w':=by
 obtain⟨hc,h0,hM⟩:=(m0X a n).1 h
 have hm:=j0x a.v6
 have hck:=f1D (fun w'=>i0s a ha w')
 rw[hc] at hck
 have hms:=f1D (fun w'=>n0y a w')
 obtain⟨V,hV⟩:∃V,V=adrV a:=⟨_,rfl⟩
 obtain⟨Z,hZ⟩:∃Z,Z=rngV a0T:=⟨_,rfl⟩
 obtain⟨X,hX⟩:∃X,X=rngV ⟨topA a n,n⟩:=⟨_,rfl⟩
 have hzV:=f1D (show (prog.info? 67).map (·.size)=some V.length by rw[hV,a0m ha];exact b0b)
 have hzX:=f1D (show (prog.info? 69).map (·.size)=some X.toArray.size by rw[hX,List.size_toArray,a0C _ (r0f a n)];exact c0n)
 have hX1:=f1D (show X.toArray.all (·.oneCell')=true by rw[hX];exact d0q _)
 have hZX:=f1D (show Z.toArray.size=X.toArray.size by rw[hX,hZ,List.size_toArray,List.size_toArray,a0C _ (r0f a n),a0C _ b0O])
 have HV:=f1D (show V=adrV ⟨a.v6,midL a.b n.toNat 0⟩ by rw[w0J];exact hV)
 have HT:=f1D (fun k (hk:k < 16)=>And.intro (w0I a.b ha n.toNat k) (w0h a.b n.toNat k hk))
 have HTb:=f1D (f0T a.b ha n.toNat)
 have HXe:=f1D (show X=adrV ⟨a.v6,midL a.b n.toNat 16⟩++[Value.int .i64 n] by rw[z0R _ ha];exact hX)
 have HTl:=f1D (fun k=>a0m (a:=⟨a.v6,midL a.b n.toNat k⟩) (HTb.out k))
 obtain⟨w1,hw1⟩:∃w1,w1=(w.alloc (.cells V.toArray 67)).alloc (.cells Z.toArray 69):=⟨_,rfl⟩
 obtain⟨r1,q1,hb1,-⟩:=d0Y hw1.symm
 have hw1':w1=(w.alloc (.cells V.toArray 67)).alloc (.cells #[Value.bool false,.int .u8 0,.int .u8 0,.int .u8 0,.int .u8 0,.int .u8 0,.int .u8 0,.int .u8 0,.int .u8 0,.int .u8 0,.int .u8 0,.int .u8 0,.int .u8 0,.int .u8 0,.int .u8 0,.int .u8 0,.int .u8 0,.int .i64 0] 69):=by rw[hw1,hZ,i0h]
 have HW:=f1D hw1'
 rw[←hV] at hck hms ⊢
 rw[←hX]
 clear hV hZ hX h hw1 hw1' hc
 have hd0:decide (n < 0)=false:=decide_eq_false (by omega)
 have hdM:decide ((d0L a.v6:Int) < n)=false:=decide_eq_false (by omega)
 have HN:=f1D (And.intro h0 (show n≤128 by omega))
 clear h0 hM hm
 generalize d0L a.v6=m at *
 generalize a.v6=v6 at *
 have tok1:True:=trivial
 go_enter func241,ntmps241
 go_wp2_with (first
   | (have _t:=tok1;rw[←HW.out];clear tok1;with_reducible refine wpList_load_mid rfl 67 (.tmp 2) rfl w.heap.size 0 rfl V _ (a0i r1) underlying67 rfl hzV.out ?_)
   | (go_at_call 200;refine (hck.out _).mono ?_;rintro e w2 ⟨rfl,hb2⟩;have r2:=r1.later hb2 r1.lt;have q2:=q1.later hb2 q1.lt;have hb2:=hb1.trans (hb2.mono hb1.size))
   | (refine wpList_step fun K hK=>?_;refine b0c (some 16) rfl (by rfl) 67 (.tmp 2) rfl w.heap.size 0 rfl V _ (a0i r2) underlying67 rfl hzV.out ?_;refine hK _ _ ?_;clear hK)
   | (go_at_call 255;refine (hms.out _).mono ?_;rintro e w3 ⟨rfl,hb3⟩;have r3:=r2.later hb3 r2.lt;have q3:=(show Row w2 (w.heap.size+1) 69 Z from q2).later hb3 (Row.lt q2);have hb3:=hb2.trans (hb3.mono hb2.size)))
 rw[HV.out] at r3
 clear hck hms hd0 hdM HW HV r1 r2 q1 q2
 go_loopw [21] (fun i wr=>∃k:Nat,k≤16∧i=.int .i64 k∧Row wr (w.heap.size+1) 69 Z∧Row wr w.heap.size 67 (adrV ⟨v6,midL a.b n.toNat k⟩)∧Below w.heap.size w wr) (fun i _=>16 - (intOf i).toNat)
 case atStart=>exact⟨0,Nat.zero_le _,rfl,q3,r3,hb3⟩
 case round =>
  clear q3 r3 hb3
  obtain⟨k,hk,rfl,q4,p4,hb4⟩:=hrel
  by_cases hlt:k < 16
  ·have hlt':(k:Int) < 16:=by omega
   obtain⟨HT1,HT2⟩:=HT.out k hlt
   have hmn:=HN.out
   have hah:=f1D (fun w'=>s0z (n - 8*(k:Int)) w')
   have hP1:(adrV ⟨v6,midL a.b n.toNat k⟩)[1+k]?=some (.int .u8 ((a.b.getD k 0).toNat:Int)):=by
    rw[←HT2,Nat.add_comm]
    show (byts (midL a.b n.toNat k))[k]?=_
    rw[c0d _ _ (by rw[HTb.out];omega)]
   have hP2:(adrV ⟨v6,midL a.b n.toNat k⟩).set (1+k) (.int .u8 ((l0n (a.b.getD k 0) (min (n.toNat - 8*k) 8)).toNat:Int))=adrV ⟨v6,midL a.b n.toNat (k+1)⟩:=by
    rw[HT1];exact y0T _ _ _ _
   have hand:=v0g (a.b.getD k 0) (min (n.toNat - 8*k) 8) (by omega)
   have e8:(n - 8*(k:Int)).toNat=n.toNat - 8*k:=by omega
   rw[e8] at hah
   obtain⟨P,hP⟩:∃P,P=adrV ⟨v6,midL a.b n.toNat k⟩:=⟨_,rfl⟩
   rw[←hP] at p4 hP1 hP2
   generalize l0n (a.b.getD k 0) (min (n.toNat - 8*k) 8)=y2 at *
   generalize j0S (min (n.toNat - 8*k) 8)=y1 at *
   generalize a.b.getD k 0=y at *
   have HP1:=f1D hP1
   have HP2:=f1D hP2
   have h8w:IntKind.i64.wrap (8*(k:Int))=8*(k:Int):=by rw[IntKind.wrap_i64];omega
   have hsw:IntKind.i64.wrap (n - 8*(k:Int))=n - 8*(k:Int):=by rw[IntKind.wrap_i64];omega
   have hg1:w.heap.size+1≠w.heap.size:=by omega
   have HMN:=f1D hmn
   clear HT1 HT2 HT HTb HTl hP hP1 hP2 e8 hmn
   go_wp2
   refine wp_region_noPanic ?_
   refine wp_region_held_drew (S:=fun w'=>World.grownBy wr w' (some w.heap.size)) (by kernel_rfl) (a0r (Below.refl _ _).drew _) (fun hHeld=>?_)
   refine rt 0 24 hHeld ?_
   refine rt 1 25 hHeld ?_
   refine rt 2 26 hHeld ?_
   refine rt 4 28 hHeld ?_
   refine rt 5 29 hHeld ?_
   refine rt 6 30 hHeld ?_
   refine rt 7 31 hHeld ?_
   refine rt 10 34 hHeld ?_
   refine rc2 3 8 (fun K hK=>?_) fun K hK=>?_
   ·have hpc:=(Row.cell p4.drew (1+k)).trans HP1.out
    go_simp
    refine hK.out _ _ hHeld (fun hHeld'=>?_)
    clear hK K hpc
    try (first | (rw[a0l];dsimp only[List.set]) | rw[a0u])
    refine rc1 8 fun K hK=>?_
    go_simp
    refine (hah.out _).mono ?_;rintro e w5 ⟨rfl,rfl⟩
    try go_wp2_with fail
    refine hK.out _ _ hHeld (fun hHeld'=>?_)
    clear hK K
    refine rt 9 33 hHeld ?_
    refine rt 11 35 hHeld ?_
    have hpc:=(Row.cell p4.drew (1+k)).trans HP1.out
    have hpf:=Row.free p4.drew (1+k)
    refine rc1 12 fun K hK=>?_
    go_simp
    refine hK.out _ _ (a0k hHeld (a0q _ _ _ _)) (fun _=>?_)
    clear hK K hpc hpf
    try (first | (rw[a0l];dsimp only[List.set]) | rw[a0u])
    refine wpAnyH_done (by kernel_rfl) ?_ _
    refine NoPanic.normal ?_
    have p6:=Row.set p4.drew (1+k) (.int .u8 (y2.toNat:Int))
    rw[HP2.out] at p6
    have hg5:=a0k hHeld (a0q wr.drew w.heap.size (1+k) (.int .u8 (y2.toNat:Int)))
    have q6:=q4.grown hg5 hg1
    have hb6:=hb4.grown hg5 hb4.size (fun k h=>by cases h;exact f1F _)
    clear hHeld hHeld' hg5 q4 p4 hb4
    go_wp2
    go_roundw
    case rel=>exact⟨k+1,by omega,by go_num,q6,p6,hb6⟩
    case measure=>simp[intOf];omega
   ·go_simp
    refine (hah.out _).mono ?_;rintro e w5 ⟨rfl,rfl⟩
    try go_wp2_with fail
    refine hK.out _ _ hHeld (fun hHeld'=>?_)
    clear hK K
    refine rc1 3 fun K hK=>?_
    have hpc:=(Row.cell p4.drew (1+k)).trans HP1.out
    go_simp
    refine hK.out _ _ hHeld (fun hHeld'=>?_)
    clear hK K hpc
    try (first | (rw[a0l];dsimp only[List.set]) | rw[a0u])
    refine rt 9 33 hHeld ?_
    refine rt 11 35 hHeld ?_
    have hpc:=(Row.cell p4.drew (1+k)).trans HP1.out
    have hpf:=Row.free p4.drew (1+k)
    refine rc1 12 fun K hK=>?_
    go_simp
    refine hK.out _ _ (a0k hHeld (a0q _ _ _ _)) (fun _=>?_)
    clear hK K hpc hpf
    try (first | (rw[a0l];dsimp only[List.set]) | rw[a0u])
    refine wpAnyH_done (by kernel_rfl) ?_ _
    refine NoPanic.normal ?_
    have p6:=Row.set p4.drew (1+k) (.int .u8 (y2.toNat:Int))
    rw[HP2.out] at p6
    have hg5:=a0k hHeld (a0q wr.drew w.heap.size (1+k) (.int .u8 (y2.toNat:Int)))
    have q6:=q4.grown hg5 hg1
    have hb6:=hb4.grown hg5 hb4.size (fun k h=>by cases h;exact f1F _)
    clear hHeld hHeld' hg5 q4 p4 hb4
    go_wp2
    go_roundw
    case rel=>exact⟨k+1,by omega,by go_num,q6,p6,hb6⟩
    case measure=>simp[intOf];omega
  ·obtain rfl:k=16:=by omega
   have HPl:=f1D (HTl.out 16)
   have hzP:=f1D (show (prog.info? 67).map (·.size)=some (adrV ⟨v6,midL a.b n.toNat 16⟩).length by rw[HPl.out];exact b0b)
   have Q4:=f1D (show wr.heap[w.heap.size+1]?=some (.cells Z.toArray 69 (0,0)) from q4)
   obtain⟨P,hP⟩:∃P,P=adrV ⟨v6,midL a.b n.toNat 16⟩:=⟨_,rfl⟩
   rw[←hP] at p4 HPl hzP HXe
   clear hP HT HTb HTl q4
   go_wp2_with (first
    | (with_reducible refine wpList_load_mid rfl 67 (.tmp 2) rfl w.heap.size 0 rfl P _ (a0i p4) underlying67 rfl hzP.out ?_)
    | (refine b0g rfl 69 0 1 (.tmp 37) (.tmp 38) rfl (.agg P.toArray) (.int .i64 n) (.agg X.toArray) rfl rfl (by rw[HXe.out];exact g0r P n HPl.out _) ?_)
    | (with_reducible refine wpList_store_row rfl 69 (.tmp 4) (.tmp 39) rfl (w.heap.size+1) X.toArray rfl rfl 69 Z.toArray Q4.out hzX.out hZX.out hX1.out ?_;refine Hid.out ?_))
   refine f1D ?_
   generalize hw8:World.setRow _ _ _=w8
   obtain⟨r8,hg8⟩:=a0y (show Row wr (w.heap.size+1) 69 Z from Q4.out) hw8
   have hb8:=hb4.grown hg8 hb4.size (fun k h=>by cases h;omega)
   have R8:=f1D (show w8.heap[w.heap.size+1]?=some (.cells X.toArray 69 (0,0)) from r8)
   clear hw8 r8 hg8 Q4
   go_wp2_with fail
   exact⟨rfl,_,a0d rfl _ _ (w.heap.size+1) 69 X.toArray (0,0) _ rfl R8.out underlying69 rfl hzX.out _ rfl,rfl,hb8⟩
theorem b1x (a:Adr) (ha:a.Ok) (n:Int) (w:World) :
  Calls prog 241 #[.agg (adrV a).toArray,.int .i64 n] w fun e w'=>e=.returned (.tuple #[.agg (rngV (ofR a n)).toArray,.bool (ofOk a n)])∧Below w.heap.size w w':=by
 cases h:ofOk a n with
 | true=>rw[r0L a n h];exact y0X a ha n h w
 | false=>rw[c1x a n h];exact b1y a ha n h w
variable {F:Fence} {n:Nat} {P:Program}
def b1v (own:Nat) (J:Nat→World→Prop):Prop:=∀k A B,J k A→A.grownBy B (some own)→J k B
def SeqL (F:Fence) (n:Nat) (P:Program) (g:Nat) (lb:Array Value) (encs:List (Array Value)) (own:Nat) (Kp:World→World→Prop) (w:World):Prop :=
 ∀(l:Nat) (J Jx:Nat→World→Prop) (W:World),Below w.heap.size w W→b1v own J→b1v own Jx →
  (∀k v W1,encs[k]?=some v→J k W1→YieldAt F (n - 1) P l v W1 fun e W' =>
   (e=.returned (.bool true)∧J (k+1) W'∧Kp W1 W')∨(e=.returned (.bool false)∧Jx (k+1) W')) →
  J 0 W →
  CallsIn F n P g (#[.func (.yield l) #[] #[]]++lb) W fun e W'=>(∃v,e=.returned v)∧(J encs.length W'∨∃k,k < encs.length∧Jx (k+1) W')
def a1I (Kp:World→World→Prop) (I:Nat→World→Prop) (Ix:Code→Nat→World→Prop) (k:Nat) (W:World):Exit→Act→World→Prop
 | .normal,_,W'=>KeepsOthers W W'∧Kp W W'∧I k W'
 | .ret,_,W'=>KeepsOthers W W'∧Ix .ret k W'
 | .exit id,_,W'=>KeepsOthers W W'∧Ix (.exit id) k W'
 | .goto t,_,W'=>KeepsOthers W W'∧Ix (.goto t) k W'
 | .panic _,_,_=>False
 | .outgrown,_,_=>False
def Calm (own B:Nat) (I:Nat→World→Prop):Prop :=
 ∀k X Y r,I k X→X.grownBy Y (some r)→(r=own∨(B≤r∧∃o:Obj,X.heap[r]?=some o∧o.isCells=false))→I k Y
theorem Calm.own {own B:Nat} {I:Nat→World→Prop} (h:Calm own B I):b1v own I:=fun k A C hk hg=>h k A C own hk hg (.inl rfl)
theorem Calm.put {own B:Nat} {I:Nat→World→Prop} (h:Calm own B I) {k l:Nat} {W:World} {o:Obj} (o':Obj) (hs:I k W) (hB:B≤l) (hl:W.heap[l]?=some o) (ho:o.isCells=false):I k (W.putObj l o') :=
 h k W _ l hs (grownBy_putObj' W l o') (.inr ⟨hB,o,hl,ho⟩)
theorem Calm.alloc {own B:Nat} {I:Nat→World→Prop} (h:Calm own B I) {k:Nat} {W:World} (o:Obj) (hs:I k W):I k (W.alloc o) :=
 h k W _ own hs (World.grownBy_alloc W o _) (.inl rfl)
theorem h0q {g:Operand} {ps:Array Tmp} {assign body:Code} {Q:Exit→Act→World→Prop} {a:Act} {w:World}
  (hro:F.round=none) (h1:1≤n) {gf:Nat} {lb:Array Value} (hg:a.eval g=.func (.func gf) #[] lb) (hFg:F.fn gf) (eg:∀args w,(callFunc gf args).run P w=.ok (.enter gf args) w)
  {encs:List (Array Value)} {own:Nat} {Kp:World→World→Prop} {w0:World} (hseq:SeqL F (n - 1) P gf lb encs own Kp w0) (hlt:own < w.heap.size)
  (hKt:∀{A B C:World},Kp A B→Kp B C→Kp A C) (hKb:∀(W:World) (l:Nat) (o':Obj),w.heap.size≤l→Kp W (W.putObj l o')) (hb0:Below w0.heap.size w0 w) (hps:∀v∈encs,v.size=ps.size)
  (I:Nat→World→Prop) (Ix:Code→Nat→World→Prop) (hI:Calm own w.heap.size I) (hIx:∀c,Calm own w.heap.size (Ix c)) (h0:I 0 w) (a₁:Nat→Act)
  (hassign:∀(l k:Nat) (v:Array Value) (W:World) (K:Act→World→Prop),encs[k]?=some v→K (a₁ k) W →
   assign.wpIn (F.inRound l) (n - 1 - 1) P (Exit.then K (fun _ _ _=>False)) { tmps:=(ps.zip v).foldl (fun t (p,v)=>t.setIfInBounds p v) a.tmps,defers:=[] } W)
  (hbody:∀(l k:Nat) (W:World),k < encs.length→I k W→body.wpIn (F.inRound l) (n - 1 - 1) P (a1I Kp I Ix (k+1) W) (a₁ k) W)
  (hdone:∀(D:Nat) (W:World),w.heap.size≤D→I encs.length W→W.heap[D]?=some (.deferred (some []))→Q .normal { a with defers:={ target:=.collected D,args:=#[] } :: a.defers } W)
  (hstop:∀(D k:Nat) (c:Code) (W:World),w.heap.size≤D→k < encs.length→Ix c (k+1) W→W.heap[D]?=some (.deferred (some []))→c.wpIn F n P Q { a with defers:={ target:=.collected D,args:=#[] } :: a.defers } W) :
  (Code.rangeFunc g ps assign body).wpIn F n P Q a w:=by
 refine wpIn_rangeFunc fun fn hfn=>?_
 rw[hro]
 -- the loop's record,by its state and its pending jump
 let R:LoopState→Option Code→Loop:=fun st pe=>{ state:=st,pending:=pe,fn,tmps:=a.tmps,params:=ps,assign,body,defers:=w.heap.size }
 obtain⟨W1,hW1⟩:∃W1,W1=(w.alloc (.deferred (some []))).alloc (.loop (R .ready none)):=⟨_,rfl⟩
 have hz:(w.alloc (.deferred (some []))).heap.size=w.heap.size+1:=World.size_alloc _ _
 have hB1:Below w.heap.size w W1:=by rw[hW1];exact ((Below.refl _ w).alloc (f1F _) _).alloc (by rw[hz];omega) _
 have hrec:W1.heap[w.heap.size+1]?=some (.loop (R .ready none)):=by rw[hW1,←hz];exact World.alloc_heap_new _ _
 have hdef:W1.heap[w.heap.size]?=some (.deferred (some [])):=by
  rw[hW1];exact (Below.heap_alloc _ _ _ (by rw[hz];omega)).trans (World.alloc_heap_new w _)
 have hI1:I 0 W1:=by rw[hW1];exact hI.alloc _ (hI.alloc _ h0)
 -- the two blocks,and what the caller says
 let J:LoopState→Option Code→World→Prop:=fun st pe W=>W.heap[w.heap.size+1]?=some (.loop (R st pe))∧W.heap[w.heap.size]?=some (.deferred (some []))
 have hJ:∀{st pe X Y},J st pe X→X.grownBy Y (some own)→J st pe Y:=fun h hgr =>
  ⟨(hgr.block _ (Array.getElem?_eq_some_iff.1 h.1).1 (by intro e;cases e;omega)).trans h.1,(hgr.block _ (Array.getElem?_eq_some_iff.1 h.2).1 (by intro e;cases e;omega)).trans h.2⟩
 have hJput:∀{st pe st' pe' X},J st pe X→J st' pe' (X.putObj (w.heap.size+1) (.loop (R st' pe'))):=fun h =>
  ⟨World.putObj_heap_same (Array.getElem?_eq_some_iff.1 h.1).1,(World.putObj_heap_other (by omega)).trans h.2⟩
 refine⟨w.heap.size+1,[{ target:=.collected w.heap.size,args:=#[] }],W1,{ target:=.fn (.func gf) lb,args:=#[.func (.yield (w.heap.size+1)) #[] #[]] },W1,gf,
  #[.func (.yield (w.heap.size+1)) #[] #[]]++lb,W1,by rw[hW1];exact run_enterLoop_outer _ _ _ _ _,by simp only[resolve,hg];simp[go_sem],by intro f' hf';simp[Target.leads] at hf';subst hf';exact hFg,by simp[invoke,go_sem,eg],fun _=>h1,?_⟩
 refine (hseq (w.heap.size+1) (fun k W=>I k W∧J .ready none W) (fun k W=>∃c,Ix c k W∧J .done (some c) W) W1 (hb0.trans (hB1.mono hb0.size))
  (fun k A C h hgr=>⟨hI.own k A C h.1 hgr,hJ h.2 hgr⟩) (fun k A C ⟨c,h,h'⟩ hgr=>⟨c,(hIx c).own k A C h hgr,hJ h' hgr⟩) ?_ ⟨hI1,hrec,hdef⟩).mono ?_
 ·-- one round
  rintro k v W hv ⟨hi,hj⟩
  have hklt:k < encs.length:=(List.getElem?_eq_some_iff.1 hv).1
  have hy:=run_yield (P:=P) (args:=v) hj.1 (hps v (List.mem_of_getElem? hv))
  refine⟨fn,_,assign,body,hy,roundIn_of_wpIn hfn (hassign _ k v W _ hv ⟨_,run_beginRound hj.1 rfl,?_⟩)⟩
  obtain⟨W2,hW2⟩:∃W2,W2=W.putObj (w.heap.size+1) (.loop (R .busy none)):=⟨_,rfl⟩
  have hj2:J .busy none W2:=by rw[hW2];exact hJput hj
  have hk2:Kp W W2:=by rw[hW2];exact hKb _ _ _ (by omega)
  have hi2:I k W2:=by rw[hW2];exact hI.put _ hi (by omega) hj.1 rfl
  show body.wpIn _ _ P _ _ (W.putObj (w.heap.size+1) (.loop (R .busy none)))
  rw[←hW2]
  refine wpIn_mono (hbody _ k W2 hklt hi2) ?_
  -- the round's end
  have fin:∀(jump:Option Code) (W3:World),KeepsOthers W2 W3→∃st pe,(Instr.endRound (w.heap.size+1) jump).run P W3=.ok (.bool jump.isNone) (W3.putObj (w.heap.size+1) (.loop (R st pe))) ∧
    st=(if jump.isNone then LoopState.ready else .done)∧pe=jump∧J .busy none W3:=fun jump W3 hk3 =>
   ⟨_,_,run_endRound (P:=P) jump (hk3.same _ _ hj2.1 rfl),rfl,rfl,hk3.same _ _ hj2.1 rfl,hk3.same _ _ hj2.2 rfl⟩
  have out:∀(c:Code) (W3:World),KeepsOthers W2 W3∧Ix c (k+1) W3→∃v w',(Instr.endRound (w.heap.size+1) (some c)).run P W3=.ok v w' ∧
    ((Ending.returned v=.returned (.bool true)∧(I (k+1) w'∧J .ready none w')∧Kp W w')∨(Ending.returned v=.returned (.bool false)∧∃c,Ix c (k+1) w'∧J .done (some c) w')):=fun c W3 h=>by
   obtain⟨st,pe,hr,rfl,rfl,hj3⟩:=fin (some c) W3 h.1
   exact⟨_,_,hr,.inr ⟨rfl,c,(hIx c).put _ h.2 (by omega) hj3.1 rfl,hJput hj3⟩⟩
  rintro e a3 W3 hp
  cases e with
  | normal =>
   obtain⟨hk3,hkp3,hi3⟩:=hp
   obtain⟨st,pe,hr,rfl,rfl,hj3⟩:=fin none W3 hk3
   exact⟨_,_,hr,.inl ⟨rfl,⟨hI.put _ hi3 (by omega) hj3.1 rfl,hJput hj3⟩,hKt (hKt hk2 hkp3) (hKb _ _ _ (by omega))⟩⟩
  | ret=>exact out .ret W3 hp
  | exit id=>exact out (.exit id) W3 hp
  | goto t=>exact out (.goto t) W3 hp
  | panic ch=>exact hp.elim
  | outgrown=>exact hp.elim
 ·-- behind the iterator
  rintro e W2 ⟨⟨v,rfl⟩,(⟨hi,hj⟩ | ⟨k,hk,c,hi,hj⟩)⟩
  ·exact⟨none,_,run_endLoop (P:=P) hj.1 (by simp[R]),hdone _ _ (f1F _) (hI.put _ hi (by omega) hj.1 rfl) ((World.putObj_heap_other (by omega)).trans hj.2)⟩
  ·exact⟨some c,_,run_endLoop (P:=P) hj.1 (by simp[R]),hstop _ k c _ (f1F _) hk ((hIx c).put _ hi (by omega) hj.1 rfl) ((World.putObj_heap_other (by omega)).trans hj.2)⟩
theorem f0f (r:List UInt8) (c:UInt8):(Lib.indexByte r c=-1∧a0g c r=[r])∨∃i:Nat,i < r.length∧Lib.indexByte r c=(i:Int)∧a0g c r=r.take i :: a0g c (r.drop (i+1)):=by
 by_cases h:Lib.indexByte r c=-1
 ·refine .inl ⟨h,d0g c r fun d hd=>?_⟩
  obtain⟨k,hk⟩:=List.getElem?_of_mem hd
  intro e
  exact Lib.indexByte_none h k (by rw[hk,e])
 ·have hge:=Lib.indexByte_ge r c
  obtain⟨i,hi⟩:∃i:Nat,Lib.indexByte r c=(i:Int):=⟨(Lib.indexByte r c).toNat,by omega⟩
  obtain⟨h1,h2⟩:=Lib.indexByte_some hi
  have hlt:=(List.getElem?_eq_some_iff.1 h1).1
  refine .inr ⟨i,hlt,hi,?_⟩
  have e:r=r.take i++c :: r.drop (i+1):=by
   have hc:r[i]=c:=(List.getElem?_eq_some_iff.1 h1).2
   conv=>lhs;rw[←List.take_append_drop i r,List.drop_eq_getElem_cons hlt,hc]
  conv=>lhs;rw[e]
  refine f0c c _ _ fun d hd=>?_
  obtain⟨k,hk⟩:=List.getElem?_of_mem hd
  have hki:k < i:=by have:=(List.getElem?_eq_some_iff.1 hk).1;rw[List.length_take] at this;omega
  intro e
  refine h2 k hki ?_
  rw[List.getElem?_take,if_pos hki] at hk
  rw[hk,e]
theorem k0X (c:UInt8):∀(k:Nat) (s:List UInt8),s.count c≤k→Lib.splitB (bstr [c]) 0 k (bstr s)=(a0g c s).map bstr:=by
 intro k
 induction k with
 | zero =>
  intro s h
  rw[Lib.splitB_zero,d0g c s fun d hd e=>by
   have:=List.count_pos_iff.2 (e ▸ hd)
   omega]
  rfl
 | succ k ih =>
  intro s h
  have e1:Lib.indexB (bstr s) (bstr [c])=Lib.indexByte s c:=Lib.index_one s c
  rcases f0f s c with ⟨hi,hsp⟩ | ⟨i,hir,hi,hsp⟩
  ·rw[Lib.splitB_miss _ _ _ _ (by rw[e1,hi]),hsp];rfl
  ·rw[Lib.splitB_hit _ _ _ _ i (by rw[e1,hi]),hsp,List.map_cons]
   have h1:(bstr [c]).size=1:=rfl
   have h2:=(Lib.indexByte_some hi).1
   have hc:s.count c=(s.take i).count c+(1+(s.drop (i+1)).count c):=by
    have e:s=s.take i++c :: s.drop (i+1):=by
     have hg:s[i]=c:=(List.getElem?_eq_some_iff.1 h2).2
     conv=>lhs;rw[←List.take_append_drop i s,List.drop_eq_getElem_cons hir,hg]
    conv=>lhs;rw[e]
    rw[List.count_append,List.count_cons_self];omega
   have e2:(bstr s).extract (i+(bstr [c]).size) (bstr s).size=bstr (s.drop (i+1)):=by
    rw[h1,a0c,a0G,List.take_of_length_le (by rw[List.length_drop];omega)]
   have e3:(bstr s).extract 0 (i+0)=bstr (s.take i):=by
    rw[a0G,List.drop_zero];rfl
   rw[e2,e3,ih _ (by omega)]
theorem m0f (c:UInt8) (s:List UInt8):Lib.splitB (bstr [c]) 0 (Lib.countB (bstr s) (bstr [c])) (bstr s)=(a0g c s).map bstr:=by
 refine k0X c _ s ?_
 have:Lib.countB (bstr s) (bstr [c])=s.count c:=Lib.count_one c s
 omega
theorem k0Z (c:UInt8) (s:List UInt8):Lib.countB (bstr s) (bstr [c])+1=(a0g c s).length:=by
 have h:=Lib.splitB_all (bstr [c]) (f1F 1) 0 _ (bstr s) rfl
 rw[m0f,List.length_map] at h
 exact h.symm
end Go.Proofs.YtcbilopdeiapjaaGreatDoor
