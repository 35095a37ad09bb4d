import Derived.Test.YtcbilopdeiapjaaGreatDoorRgau
import Derived.Lib.SmallJoins
import Derived.Lib.OwnBridge
set_option maxHeartbeats 16000000
set_option maxRecDepth 100000
open Go.Proofs.Tryz
namespace Go.Proofs.YtcbilopdeiapjaaGreatDoor
open Go Go.RowKit
theorem t0I (a:Adr) (k:Nat) (hk:k < 8):(c0m a).getD k 0=(a.b.getD (2*k) 0).toNat*256+(a.b.getD (2*k+1) 0).toNat:=by
 unfold c0m
 rw[List.getD_eq_getElem?_getD,List.getElem?_map,List.getElem?_range hk];rfl
theorem f1m (p q:UInt8):bits .or .u16 (IntKind.u16.wrap (IntKind.u16.wrap (p.toNat:Int)*256)) (IntKind.u16.wrap (q.toNat:Int))=((p.toNat*256+q.toNat:Nat):Int):=by
 have hp:=p.toNat_lt
 have hq:=q.toNat_lt
 have e1:IntKind.u16.wrap (IntKind.u16.wrap (p.toNat:Int)*256)=((p.toNat <<< 8:Nat):Int):=by rw[IntKind.wrap_u16,IntKind.wrap_u16,Nat.shiftLeft_eq];omega
 have e2:IntKind.u16.wrap (q.toNat:Int)=((q.toNat:Nat):Int):=by rw[IntKind.wrap_u16];omega
 have hs:p.toNat <<< 8=p.toNat*256:=by rw[Nat.shiftLeft_eq]
 rw[e1,e2]
 show IntKind.u16.wrap ((BitVec.ofInt 16 ((p.toNat <<< 8:Nat):Int) ||| BitVec.ofInt 16 (q.toNat:Int)).toNat:Int)=_
 rw[BitVec.ofInt_natCast,BitVec.ofInt_natCast,BitVec.toNat_or,BitVec.toNat_ofNat,BitVec.toNat_ofNat,Nat.mod_eq_of_lt (by omega),Nat.mod_eq_of_lt (by omega),←Nat.shiftLeft_add_eq_or_of_lt (by omega:q.toNat < 2^8),IntKind.wrap_u16]
 omega
theorem v0i (a:Adr) (h:a.Ok) (w:World) :
  Calls prog 202 #[.agg (adrV a).toArray] w fun e w'=>e=.returned (.agg (hwV (c0m a)).toArray)∧Below w.heap.size w w':=by
 have HN:=f1D (t0I a)
 have hL8:=h0W a
 have hsl:=f1D (show (prog.info? 244).map (·.size)=some (hwV (c0m a)).toArray.size by rw[show (prog.info? 244).map (·.size)=some 8 by kernel_rfl,List.size_toArray,a0M,hL8])
 go_enter func202,ntmps202
 go_wp2
 generalize hw1:((w.alloc _).alloc _).alloc _=w1
 obtain⟨r0,r1,r2,hb1⟩:=m0l hw1
 clear hw1
 have r2:Row w1 (w.heap.size+1+1) 244 (hwV ((c0m a).take 0)++List.replicate (8 - 0) (.int .u16 0)):=r2
 go_loopw [5] (fun i wr=>∃k:Nat,k≤8∧i=.int .i64 k∧Row wr (w.heap.size+1+1) 244 (hwV ((c0m a).take k)++List.replicate (8 - k) (.int .u16 0))∧Row wr (w.heap.size+1) 244 (List.replicate 8 (.int .u16 0))∧Row wr w.heap.size 67 (adrV a)∧Below w.heap.size w wr) (fun i _=>8 - (intOf i).toNat)
 case atStart=>exact⟨0,by omega,rfl,r2,r1,r0,hb1⟩
 case round =>
  clear r0 r1 r2 hb1
  obtain⟨k,hk,rfl,hrow,hres,hbx,hb⟩:=hrel
  by_cases hlt:k < 8
  ·have hlt':(k:Int) < 8:=by omega
   have hc1:=c0P h hbx (2*k) (by omega)
   have hc2:=c0P h hbx (2*k+1) (by omega)
   have HS:=f1D (show (c0m a).take (k+1)=(c0m a).take k++[(a.b.getD (2*k) 0).toNat*256+(a.b.getD (2*k+1) 0).toNat] by
    rw[←HN.out k hlt,List.take_add_one,List.getD_eq_getElem?_getD,List.getElem?_eq_getElem (by omega)];rfl)
   generalize a.b.getD (2*k) 0=p at *
   generalize a.b.getD (2*k+1) 0=q at *
   have hI0:IntKind.i64.wrap (2*(k:Int))=2*(k:Int):=by rw[IntKind.wrap_i64];omega
   have hI1:(0:Int)≤2*(k:Int):=by omega
   have hI2:2*(k:Int) < 16:=by omega
   have hI3:(2*(k:Int)).toNat=2*k:=by omega
   have hJ0:IntKind.i64.wrap (2*(k:Int)+1)=2*(k:Int)+1:=by rw[IntKind.wrap_i64];omega
   have hJ1:(0:Int)≤2*(k:Int)+1:=by omega
   have hJ2:2*(k:Int)+1 < 16:=by omega
   have hJ3:(2*(k:Int)+1).toNat=2*k+1:=by omega
   have hTl:((c0m a).take k).length=k:=by rw[List.length_take];omega
   have hc3:wr.cell? ⟨w.heap.size+1+1,k,none⟩=some (.int .u16 0):=by rw[hrow.cell,List.getElem?_append_right (by rw[a0M,hTl];exact f1F _),a0M,hTl,Nat.sub_self,show 8 - k=(7 - k)+1 by omega];rfl
   have hf3:=hrow.free k
   go_wp2
   go_region
   go_wp2
   go_roundw
   case rel =>
    refine⟨k+1,by omega,by go_num,?_,?_,?_,?_⟩
    ·rw[f1m]
     have h3:=hrow.set k (.int .u16 ((p.toNat*256+q.toNat:Nat):Int))
     have e:hwV ((c0m a).take (k+1))++List.replicate (8 - (k+1)) (Value.int .u16 0)=(hwV ((c0m a).take k)++List.replicate (8 - k) (Value.int .u16 0)).set k (.int .u16 ((p.toNat*256+q.toNat:Nat):Int)):=by
      rw[HS.out,List.set_append_right _ _ (by rw[a0M,hTl];exact f1F _),a0M,hTl,Nat.sub_self,show 8 - k=(8 - (k+1))+1 by omega,List.replicate_succ,List.set_cons_zero]
      unfold hwV
      simp
     rw[e]
     exact h3
    ·exact hres.far ⟨w.heap.size+1+1,k,none⟩ _ (by show w.heap.size+1≠w.heap.size+1+1;omega)
    ·exact hbx.far ⟨w.heap.size+1+1,k,none⟩ _ (by show w.heap.size≠w.heap.size+1+1;omega)
    ·exact (hb.grown (a0q _ _ _ _) hb.size (fun k h=>by cases h;omega)).drew
   case measure=>simp[intOf];omega
  ·obtain rfl:k=8:=by omega
   have hrow:Row wr (w.heap.size+1+1) 244 (hwV (c0m a)):=by
    rw[Nat.sub_self,List.replicate_zero,List.append_nil,List.take_of_length_le (by omega)] at hrow
    exact hrow
   have hV1:=f1D (show (hwV (c0m a)).toArray.all (·.oneCell')=true from b0d (m0J _))
   have hVs:=f1D (show (List.replicate 8 (Value.int .u16 0)).toArray.size=(hwV (c0m a)).toArray.size by rw[List.size_toArray,List.size_toArray,a0M,hL8];rfl)
   generalize hVV:hwV (c0m a)=V at *
   have HV:=f1D hVV
   clear hVV
   generalize List.replicate 8 (Value.int .u16 0)=Z at *
   have H1:=f1D (show wr.heap[w.heap.size+1+1]?=some (.cells V.toArray 244 (0,0)) from hrow)
   have H0:=f1D (show wr.heap[w.heap.size+1]?=some (.cells Z.toArray 244 (0,0)) from hres)
   clear hrow hres hbx
   go_wp2_with (first
    | (with_reducible refine wpList_load_row rfl 244 (.tmp 3) rfl (w.heap.size+1+1) rfl 244 V.toArray (0,0) _ H1.out underlying244 rfl hsl.out ?_)
    | (with_reducible refine wpList_store_row rfl 244 (.tmp 2) (.tmp 26) rfl (w.heap.size+1) V.toArray rfl rfl 244 Z.toArray H0.out hsl.out hVs.out hV1.out ?_;refine Hid.out ?_))
   refine f1D ?_
   generalize hw5:World.setRow _ _ _=w5
   obtain⟨r5,hg5⟩:=a0y (show Row wr (w.heap.size+1) 244 Z from H0.out) hw5
   have hb5:=hb.grown hg5 hb.size (fun k h=>by cases h;omega)
   have R5:=f1D (show w5.heap[w.heap.size+1]?=some (.cells V.toArray 244 (0,0)) from r5)
   clear hw5 r5 hg5 H0 H1
   go_wp2_with (with_reducible refine bodyPost_ret (results_cell_row rfl _ _ (w.heap.size+1) 244 V.toArray (0,0) _ rfl R5.out underlying244 rfl hsl.out) rfl ?_)
   exact⟨by rw[HV.out],hb5⟩
open Go Go.RowKit Go.Lib Go.Sort
theorem gPow:prog.globalNamed "internal/strconv.uint64pow10"=some 6:=by kernel_rfl
theorem d0d {w w':World} {B b o:Nat} {v:Value} (h:w.cell? ⟨b,o,none⟩=some v) (hB:w.heap.size≤B) (hb:Below B w w'):w'.cell? ⟨b,o,none⟩=some v:=by
 obtain⟨c,e,fr,hb',_⟩:=cells_of_cell? h
 rw[hb.cell (Nat.lt_of_lt_of_le (Array.getElem?_eq_some_iff.1 hb').1 hB)]
 exact h
theorem d0Q (n:Nat):decDigits n=numL 10 n:=by
 induction n using Nat.strongRecOn with
 | _ n ih =>
  rw[decDigits]
  by_cases h:n < 10
  ·rw[dif_pos h,a0S 10 n h]
   unfold hexD
   rw[if_pos h]
  ·rw[dif_neg h,b0p 10 n (by omega) (by omega),ih (n/10) (by omega)]
   unfold hexD
   rw[if_pos (by omega)]
theorem b1S (u:Nat) (hu64:u < 18446744073709551616) (w:World) (hp:TabIs prog w "internal/strconv.uint64pow10" .u64 pow10Tab) :
  Calls prog 140 #[.int .u64 u,.int .i64 10] w fun e w'=>e=.returned (.string (bstr (numL 10 u)))∧Below w.heap.size w w':=by
 rw[←d0Q]
 by_cases hs:u < 100
 ·have hs':(u:Int) < 100:=by omega
  have hw1:IntKind.i64.wrap (u:Int)=(u:Int):=by rw[IntKind.wrap_i64];omega
  go_enter func140,ntmps140
  go_wp2_with (go_at_call 187;refine (Tryz.internal_strconv_small u hs _).mono ?_;rintro e w' ⟨rfl,rfl⟩)
  go_ret
  exact⟨rfl,Below.refl _ _⟩
 ·have hs':(100:Int)≤(u:Int):=by omega
  have hu1:1≤u:=by omega
  have hnd20:nDigits u≤20:=by have:=numDigits_eq u hu1 hu64;split at this<;>omega
  have hb3:nDigits u≤23:=by omega
  have hal:prog.arrayLen 230=24:=by kernel_rfl
  have hsl:∀W,(Instr.sliceAt 230 (.pointer (some ⟨w.heap.size,0,none⟩)) none (some (.int .i64 (nDigits u:Int))) none).run prog W=.ok (.slice (some ⟨w.heap.size,0,none⟩) (nDigits u) 24) W:=fun W=>by
   rw[run_sliceAt_array_h W 230 ⟨w.heap.size,0,none⟩ (by kernel_rfl) .i64 (nDigits u:Int) (by omega) (by rw[hal];omega),hal]
   rfl
  have hH0:Holds (fun (b:UInt8)=>Value.int .u8 (b.toNat:Int)) (w.alloc (.cells zeros24 230)) w.heap.size 0 (Array.replicate (nDigits u) (0:UInt8)):=fun j hj=>by
   have hj':j < nDigits u:=by simpa using hj
   refine⟨?_,World.frozen?_alloc_new _ _ _ _⟩
   rw[World.cell?_alloc_new,zeros24_at _ (by omega),getElem!_pos _ j hj]
   simp
  have hfmt:=f1D (Tryz.internal_strconv_formatBase10 w.heap.size 0 24 u (Array.replicate (nDigits u) 0) (w.alloc (.cells zeros24 230)) hH0 (by rw[Array.size_replicate];exact lt_pow_nDigits u) hu64 (by rw[Array.size_replicate];omega))
  rw[Array.size_replicate] at hfmt
  have HH0:=f1D hH0
  have hE1:=f1D (Joins.tab_stays gPow hp ((RowKit.Below.refl _ w).alloc (f1F _) (.cells zeros24 230)) (f1F _))
  clear hH0 hal
  go_enter func140,ntmps140
  go_wp2_with (first
   | (go_at_call 188;refine (Tryz.internal_strconv_numDigits u hu1 hu64 _ hE1.out).mono ?_;rintro e w' ⟨rfl,rfl⟩)
   | (go_at_call 189;refine hfmt.out.mono ?_;rintro e w' ⟨rfl,k,v',dk,rfl,hF⟩;refine Hid.out ?_))
  refine f1D ?_
  have hcv:(convert 61 9 (.slice (some ⟨w.heap.size,0,none⟩) (nDigits u) 24)).run prog ((putRow (fun (b:UInt8)=>Value.int .u8 (b.toNat:Int)) (w.alloc (.cells zeros24 230)) w.heap.size 0 dk).drewN k)=.ok (.string (bstr (decDigits u))) ((putRow (fun (b:UInt8)=>Value.int .u8 (b.toNat:Int)) (w.alloc (.cells zeros24 230)) w.heap.size 0 dk).drewN k):=by
   have h:=run_convert_bytes_back (P:=prog) ((putRow (fun (b:UInt8)=>Value.int .u8 (b.toNat:Int)) (w.alloc (.cells zeros24 230)) w.heap.size 0 dk).drewN k) 61 9 5 ⟨w.heap.size,0,none⟩ 24 (decDigits u) underlying61 underlying5 underlying9 (fun j hj=>by
    rw[Lib.add_plain,Lib.row_is_numeral hF j hj,World.cell?_drewN]
    exact cell?_putRow (fun (b:UInt8)=>Value.int .u8 (b.toNat:Int)) _ w.heap.size 0 _ dk HH0.out (by rw[hF.size,Array.size_replicate]) j (by rw[hF.size];rw[Lib.decDigits_length] at hj;exact hj))
   rw[Lib.decDigits_length] at h
   exact h
  have hb:RowKit.Below w.heap.size w ((putRow (fun (b:UInt8)=>Value.int .u8 (b.toNat:Int)) (w.alloc (.cells zeros24 230)) w.heap.size 0 dk).drewN k) :=
   have h:=below_putRow (enc:=fun (b:UInt8)=>Value.int .u8 (b.toNat:Int)) (d:=dk) (q:=0) ((RowKit.Below.refl _ w).alloc (f1F _) (.cells zeros24 230)) (f1F _)
   ⟨h.os,h.tape,h.output,h.size,h.block⟩
  generalize ((putRow (fun (b:UInt8)=>Value.int .u8 (b.toNat:Int)) (w.alloc (.cells zeros24 230)) w.heap.size 0 dk).drewN k)=w3 at *
  generalize hS:bstr (decDigits u)=S at *
  have HS:=f1D hS
  clear hS
  go_wp2
  go_ret
  exact⟨by rw[HS.out];rfl,hb⟩
theorem i0z (u:Nat) (hu64:u < 18446744073709551616) (w:World) (hp:TabIs prog w "internal/strconv.uint64pow10" .u64 pow10Tab) :
  Calls prog 101 #[.int .u64 u,.int .i64 10] w fun e w'=>e=.returned (.string (bstr (numL 10 u)))∧Below w.heap.size w w':=by
 go_enter func101,ntmps101
 go_wp2_with (go_at_call 140;refine (b1S u hu64 _ hp).mono ?_;rintro e w' ⟨rfl,hb⟩)
 go_ret
 exact⟨rfl,hb⟩
end Go.Proofs.YtcbilopdeiapjaaGreatDoor
namespace Go.Proofs.YtcbilopdeiapjaaGreatDoor
open Go Go.RowKit Go.Lib Go.Sort
structure Env (w:World):Prop where
 most:∃m,w.cell? ⟨3,0,none⟩=some (.int .i64 m)
 pow:TabIs prog w "internal/strconv.uint64pow10" .u64 pow10Tab
 four:w.cell? ⟨7,15,none⟩=some (.int .u8 4)
 synt:∃v,w.cell? ⟨4,0,none⟩=some v∧(v=.nilIface∨∃t p,v=.iface t p)
 rang:∃v,w.cell? ⟨5,0,none⟩=some v∧(v=.nilIface∨∃t p,v=.iface t p)
theorem Env.later {w w':World} {B:Nat} (h:Env w) (hB:w.heap.size≤B) (hb:Below B w w'):Env w':=by
 obtain⟨⟨m,hm⟩,hp,hf,⟨v,hv,h1⟩,⟨u,hu,h2⟩⟩:=h
 exact⟨⟨m,d0d hm hB hb⟩,Joins.tab_stays gPow hp hb hB,d0d hf hB hb,⟨v,d0d hv hB hb,h1⟩,⟨u,d0d hu hB hb,h2⟩⟩
theorem Env.next {w w':World} (h:Env w) (hb:Below w.heap.size w w'):Env w':=h.later (f1F _) hb
theorem v0Y (u:Nat) (hu64:u < 18446744073709551616) (w:World) (hE:Env w) :
  Calls prog 101 #[.int .u64 u,.int .i64 10] w fun e w'=>e=.returned (.string (bstr (numL 10 u)))∧Below w.heap.size w w':=i0z u hu64 w hE.pow
end Go.Proofs.YtcbilopdeiapjaaGreatDoor
namespace Go.Proofs.YtcbilopdeiapjaaGreatDoor
open Go Go.RowKit
def dvL (x:Nat):Nat:=if 48≤x∧x≤57 then x - 48 else if 97≤(x ||| 32)∧(x ||| 32)≤122 then (x ||| 32) - 87 else 255
def errV (k:Nat):Value:=if k=0 then .nilIface else .iface 225 (.int .i64 (k:Int))
theorem or32 (x:Nat) (hx:x < 256):bits .or .u8 (x:Int) 32=((x ||| 32:Nat):Int):=by
 show IntKind.u8.wrap ((BitVec.ofInt 8 (x:Int) ||| BitVec.ofInt 8 32).toNat:Int)=_
 rw[BitVec.ofInt_natCast,BitVec.toNat_or,BitVec.toNat_ofNat,Nat.mod_eq_of_lt (by omega),show (BitVec.ofInt 8 32).toNat=32 by decide,IntKind.wrap_u8]
 have:x ||| 32 < 2^8:=Nat.or_lt_two_pow (by omega) (by omega)
 omega
theorem h0M {w:World} {b o c:Nat} {l:List UInt8} (h:Sl w (some ⟨b,o,none⟩) c (byts l)) (k:Nat) (hk:k < l.length):w.cell? ⟨b,o+k,none⟩=some (.int .u8 ((l.getD k 0).toNat:Int)):=by
 obtain⟨b',o',hA,_,hc⟩:=h.rd.get (i:=k) (by rw[a0b];exact hk)
 cases hA
 rw[hc,c0d _ _ hk]
theorem m0R (x:Nat) (hx:x < 256) (w:World):Calls prog 181 #[.int .u8 (x:Int)] w fun e w'=>e=.returned (.int .u8 ((x ||| 32:Nat):Int))∧w=w':=by
 refine (Tryz.internal_strconv_lower (x:Int) w).mono ?_
 rintro e w' ⟨rfl,rfl⟩
 exact⟨by rw[or32 x hx],rfl⟩
theorem s0s {a b:Int} (h:a=b):Value.int .u64 a=.int .u64 b:=by rw[h]
def u0U (n:Nat) (w:World) (e:Ending) (w':World):Prop:=∃v,e=.returned (.tuple #[.int .u64 (n:Int),v])∧Below w.heap.size w w'
def p0O (w:World) (e:Ending) (w':World):Prop:=∃v,e=.returned v∧Below w.heap.size w w'
def puL (b:Nat):Nat→List UInt8→Nat×Nat
 | n,[]=>(n,0)
 | n,c :: cs=>if b≤dvL c.toNat then (0,2) else if 65535 < n*b+dvL c.toNat then (65535,1) else puL b (n*b+dvL c.toNat) cs
def puA (b:Nat) (l:List UInt8):Nat×Nat:=if l=[] then (0,2) else puL b 0 l
theorem b1o (b n k:Nat) (l:List UInt8) (h:k < l.length):puL b n (l.drop k)=if b≤dvL (l.getD k 0).toNat then (0,2) else if 65535 < n*b+dvL (l.getD k 0).toNat then (65535,1) else puL b (n*b+dvL (l.getD k 0).toNat) (l.drop (k+1)):=by
 rw[List.drop_eq_getElem_cons h,List.getD_eq_getElem?_getD,List.getElem?_eq_getElem h];rfl
theorem c1h (b:Nat) (hb:b=10∨b=16) (l:List UInt8) (hl:l.length≤100000) (w:World) :
  Calls prog 138 #[.string (bstr l),.int .i64 b,.int .i64 16] w fun e w'=>e=.returned (.tuple #[.int .u64 (puA b l).1,errV (puA b l).2])∧Below w.heap.size w w':=by
 by_cases h0:l=[]
 ·subst h0
  have hne:(bstr []).toList.isEmpty=true:=by rw[a0p];rfl
  go_enter func138,ntmps138
  go_wp2
  go_ret2
  exact⟨rfl,Below.refl _ _⟩
 ·have hne:(bstr l).toList.isEmpty=false:=by
   rw[a0p]
   cases l with
   | nil=>exact absurd rfl h0
   | cons _ _=>rfl
  have hP:=f1D (show puA b l=puL b 0 (l.drop 0) by unfold puA;rw[if_neg h0];rfl)
  have tok1:True:=trivial
  rcases hb with rfl | rfl
  ·go_enter func138,ntmps138
   go_wp2_with (have _t:=tok1;refine c0i rfl (.tmp 98) rfl l rfl ?_;intro A c w1 hs hb;clear tok1)
   generalize hCe:(1844674407370955162:Int)=C
   have hC:65536≤C:=by omega
   clear hne hCe
   generalize bstr l=S at *
   go_loopw [12,13,101] (fun us n i wr=>∃k acc:Nat,k≤l.length∧us=.bool false∧i=.int .i64 k∧n=.int .u64 acc∧acc≤65535∧puA 10 l=puL 10 acc (l.drop k)∧Below w1.heap.size w1 wr) (fun _ _ i _=>l.length - (intOf i).toNat)
   case atStart=>exact⟨0,0,by omega,rfl,rfl,rfl,by omega,hP.out,Below.refl _ _⟩
   case round =>
    obtain⟨k,acc,hk,rfl,rfl,rfl,hacc,hpu,hbr⟩:=hrel
    have HP:=f1D hpu
    clear hP hpu h0
    have hBe:=hb.trans (hbr.mono hb.size)
    by_cases hlt:k < l.length
    ·have hlt':(k:Int) < (l.length:Int):=by omega
     obtain⟨b',o,hA,-,-⟩:=hs.rd.get (i:=k) (by rw[a0b];exact hlt)
     have hix:=c0I A b' o l.length c k hA hlt
     have hce:=h0M (by rw[hA] at hs;exact hs.later (f1F _) hbr) k hlt
     clear hA
     have HQ:=f1D (HP.out.trans (b1o 10 acc k l hlt))
     clear HP
     have hx:=(l.getD k 0).toNat_lt
     have hac1:(acc:Int) < C:=by omega
     have hac2:(acc:Int)≤65535:=by omega
     generalize (l.getD k 0).toNat=x at *
     have hlow:=f1D (fun w'=>m0R x hx w')
     have HD:=f1D (show dvL x=if 48≤x∧x≤57 then x - 48 else if 97≤(x ||| 32)∧(x ||| 32)≤122 then (x ||| 32) - 87 else 255 from rfl)
     have hy:x ||| 32 < 256:=Nat.or_lt_two_pow (n:=8) hx (by omega)
     generalize x ||| 32=y at *
     cases hq:((x:Int)==95)
     all_goals
      go_wp2_with (go_at_call 181;refine (hlow.out _).mono ?_;rintro e w' ⟨rfl,rfl⟩)
      all_goals first
       | (go_ret2
          have hs:10≤dvL x:=by rw[HD.out];(repeat' split)<;>omega
          exact⟨by rw[HQ.out,if_pos hs];rfl,hBe⟩)
       | (go_ret2
          have hs:¬10≤dvL x:=by rw[HD.out];(repeat' split)<;>omega
          have ht:65535 < acc*10+dvL x:=by rw[HD.out];(repeat' split)<;>omega
          exact⟨by rw[HQ.out,if_neg hs,if_pos ht];rfl,hBe⟩)
       | (have hs : ¬ 10 ≤ dvL x := by rw [HD.out]; (repeat' split) <;> omega
          have ht:¬65535 < acc*10+dvL x:=by rw[HD.out];(repeat' split)<;>omega
          go_roundw
          case rel=>exact⟨k+1,acc*10+dvL x,by omega,rfl,by go_num,s0s (by rw[HD.out];(repeat' split)<;>omega),by omega,by rw[HQ.out,if_neg hs,if_neg ht],hbr⟩
          case measure=>simp[intOf];omega)
    ·obtain rfl:k=l.length:=by omega
     rw[List.drop_length] at HP
     go_wp2
     go_ret2
     exact⟨by rw[HP.out];rfl,hBe⟩
  ·go_enter func138,ntmps138
   go_wp2_with (have _t:=tok1;refine c0i rfl (.tmp 98) rfl l rfl ?_;intro A c w1 hs hb;clear tok1)
   generalize hCe:(1152921504606846976:Int)=C
   have hC:65536≤C:=by omega
   clear hne hCe
   generalize bstr l=S at *
   go_loopw [12,13,101] (fun us n i wr=>∃k acc:Nat,k≤l.length∧us=.bool false∧i=.int .i64 k∧n=.int .u64 acc∧acc≤65535∧puA 16 l=puL 16 acc (l.drop k)∧Below w1.heap.size w1 wr) (fun _ _ i _=>l.length - (intOf i).toNat)
   case atStart=>exact⟨0,0,by omega,rfl,rfl,rfl,by omega,hP.out,Below.refl _ _⟩
   case round =>
    obtain⟨k,acc,hk,rfl,rfl,rfl,hacc,hpu,hbr⟩:=hrel
    have HP:=f1D hpu
    clear hP hpu h0
    have hBe:=hb.trans (hbr.mono hb.size)
    by_cases hlt:k < l.length
    ·have hlt':(k:Int) < (l.length:Int):=by omega
     obtain⟨b',o,hA,-,-⟩:=hs.rd.get (i:=k) (by rw[a0b];exact hlt)
     have hix:=c0I A b' o l.length c k hA hlt
     have hce:=h0M (by rw[hA] at hs;exact hs.later (f1F _) hbr) k hlt
     clear hA
     have HQ:=f1D (HP.out.trans (b1o 16 acc k l hlt))
     clear HP
     have hx:=(l.getD k 0).toNat_lt
     have hac1:(acc:Int) < C:=by omega
     have hac2:(acc:Int)≤65535:=by omega
     generalize (l.getD k 0).toNat=x at *
     have hlow:=f1D (fun w'=>m0R x hx w')
     have HD:=f1D (show dvL x=if 48≤x∧x≤57 then x - 48 else if 97≤(x ||| 32)∧(x ||| 32)≤122 then (x ||| 32) - 87 else 255 from rfl)
     have hy:x ||| 32 < 256:=Nat.or_lt_two_pow (n:=8) hx (by omega)
     generalize x ||| 32=y at *
     cases hq:((x:Int)==95)
     all_goals
      go_wp2_with (go_at_call 181;refine (hlow.out _).mono ?_;rintro e w' ⟨rfl,rfl⟩)
      all_goals first
       | (go_ret2
          have hs:16≤dvL x:=by rw[HD.out];(repeat' split)<;>omega
          exact⟨by rw[HQ.out,if_pos hs];rfl,hBe⟩)
       | (go_ret2
          have hs:¬16≤dvL x:=by rw[HD.out];(repeat' split)<;>omega
          have ht:65535 < acc*16+dvL x:=by rw[HD.out];(repeat' split)<;>omega
          exact⟨by rw[HQ.out,if_neg hs,if_pos ht];rfl,hBe⟩)
       | (have hs : ¬ 16 ≤ dvL x := by rw [HD.out]; (repeat' split) <;> omega
          have ht:¬65535 < acc*16+dvL x:=by rw[HD.out];(repeat' split)<;>omega
          go_roundw
          case rel=>exact⟨k+1,acc*16+dvL x,by omega,rfl,by go_num,s0s (by rw[HD.out];(repeat' split)<;>omega),by omega,by rw[HQ.out,if_neg hs,if_neg ht],hbr⟩
          case measure=>simp[intOf];omega)
    ·obtain rfl:k=l.length:=by omega
     rw[List.drop_length] at HP
     go_wp2
     go_ret2
     exact⟨by rw[HP.out];rfl,hBe⟩
theorem a1w (b:Nat) (l:List UInt8):∀n,n≤65535→(puL b n l).1≤65535∧((puL b n l).2=0∨(puL b n l).2=1∨(puL b n l).2=2):=by
 induction l with
 | nil=>intro n hn;exact⟨hn,.inl rfl⟩
 | cons c l ih =>
  intro n hn
  unfold puL
  split
  ·exact⟨by simp,.inr (.inr rfl)⟩
  ·split
   ·exact⟨by simp,.inr (.inl rfl)⟩
   ·exact ih _ (by omega)
theorem n0d (b:Nat) (l:List UInt8):(puA b l).1≤65535∧((puA b l).2=0∨(puA b l).2=1∨(puA b l).2=2):=by
 unfold puA
 split
 ·exact⟨by simp,.inr (.inr rfl)⟩
 ·exact a1w b l 0 (by omega)
theorem y0A (fn s:ByteArray) (b:Int) (hs:s.size≤281474976710656) (w:World) (hE:Env w) (k:Int) (hk:k=1∨k=2) :
  Calls prog 139 #[.string fn,.string s,.int .i64 b,.int .i64 16,.iface 225 (.int .i64 k)] w (p0O w):=by
 rcases hk with rfl | rfl
 ·obtain⟨v,h1,h2⟩:=hE.rang
  refine (Tryz.strconv_toError_range fn s b 16 v w hs h1 h2).mono ?_
  rintro e w' ⟨N,rfl,-,-,hb⟩
  exact⟨_,rfl,hb⟩
 ·obtain⟨v,h1,h2⟩:=hE.synt
  refine (Tryz.strconv_toError_syntax fn s b 16 v w hs h1 h2).mono ?_
  rintro e w' ⟨N,rfl,-,-,hb⟩
  exact⟨_,rfl,hb⟩
theorem d1U (b:Nat) (hb:b=10∨b=16) (l:List UInt8) (hl:l.length≤100000) (w:World) (hE:Env w) :
  Calls prog 100 #[.string (bstr l),.int .i64 b,.int .i64 16] w (u0U (puA b l).1 w):=by
 have hi:=c1h b hb l hl w
 obtain⟨-,hc⟩:=n0d b l
 have hsz:(bstr l).size≤281474976710656:=by rw[a0c];omega
 have hts:=f1D (fun fn w' (h:Below w.heap.size w w') k hk=>y0A fn (bstr l) b hsz w' (hE.next h) k hk)
 generalize (puA b l).1=n at *
 generalize (puA b l).2=c at *
 clear hE hl hb hsz
 rcases hc with rfl | rfl | rfl
 ·rw[show errV 0=.nilIface from rfl] at hi
  have hi:=f1D hi
  go_enter func100,ntmps100
  go_wp2_with (go_at_call 138;refine hi.out.mono ?_;rintro e w' ⟨rfl,hb1⟩)
  go_ret2
  exact⟨_,rfl,hb1⟩
 ·rw[show errV 1=.iface 225 (.int .i64 1) from rfl] at hi
  have hi:=f1D hi
  go_enter func100,ntmps100
  go_wp2_with (first
   | (go_at_call 138;refine hi.out.mono ?_;rintro e w' ⟨rfl,hb1⟩)
   | (go_at_call 139;refine (hts.out _ _ hb1 1 (.inl rfl)).mono ?_;rintro e w2 ⟨v,rfl,hb2⟩;have hb2:=hb1.trans (hb2.mono hb1.size)))
  go_ret2
  exact⟨_,rfl,hb2⟩
 ·rw[show errV 2=.iface 225 (.int .i64 2) from rfl] at hi
  have hi:=f1D hi
  go_enter func100,ntmps100
  go_wp2_with (first
   | (go_at_call 138;refine hi.out.mono ?_;rintro e w' ⟨rfl,hb1⟩)
   | (go_at_call 139;refine (hts.out _ _ hb1 2 (.inr rfl)).mono ?_;rintro e w2 ⟨v,rfl,hb2⟩;have hb2:=hb1.trans (hb2.mono hb1.size)))
  go_ret2
  exact⟨_,rfl,hb2⟩
theorem c1K (w:World):Calls prog 231 #[.int .i64 16] w fun e w'=>e=.returned (.bool true)∧w=w':=by
 go_enter func231,ntmps231
 go_wp2
 go_ret
 exact⟨rfl,rfl⟩
theorem u0O (w:World) (hE:Env w):Calls prog 212 #[.int .u64 16] w fun e w'=>e=.returned (.int .i64 4)∧w=w':=by
 have h4:=hE.four
 have h16:IntKind.u64.wrap (bits BinOp.and IntKind.u64 16 (IntKind.u64.wrap (-16))*285870213051353865)=4573923408821661840:=by decide
 go_enter func212,ntmps212
 go_wp2
 go_ret
 exact⟨rfl,rfl⟩
theorem a1T (w:World) (hE:Env w):Calls prog 232 #[.int .u64 16] w fun e w'=>e=.returned (.int .i64 4)∧w=w':=by
 go_enter func232,ntmps232
 go_wp2_with (go_at_call 212;refine (u0O _ hE).mono ?_;rintro e w' ⟨rfl,rfl⟩)
 go_ret
 exact⟨rfl,rfl⟩
theorem l0G (h:Nat) (hh:h < 16) (w:World):(Instr.index 9 (.string { data:=#[48,49,50,51,52,53,54,55,56,57,97,98,99,100,101,102,103,104,105,106,107,108,109,110,111,112,113,114,115,116,117,118,119,120,121,122] }) (.int .u64 (h:Int))).run prog w=.ok (.int .u8 ((hexD h).toNat:Int)) w:=by
 have:h=0∨h=1∨h=2∨h=3∨h=4∨h=5∨h=6∨h=7∨h=8∨h=9∨h=10∨h=11∨h=12∨h=13∨h=14∨h=15:=by omega
 rcases this with rfl | rfl | rfl | rfl | rfl | rfl | rfl | rfl | rfl | rfl | rfl | rfl | rfl | rfl | rfl | rfl<;>(show _=_;kernel_rfl)
theorem f1i (v:Nat) (hv:v < 65536):bits .and .u64 (v:Int) 15=((v%16:Nat):Int):=by
 show IntKind.u64.wrap ((BitVec.ofInt 64 (v:Int) &&& BitVec.ofInt 64 15).toNat:Int)=_
 rw[BitVec.ofInt_natCast,BitVec.toNat_and,BitVec.toNat_ofNat,Nat.mod_eq_of_lt (by omega),show (BitVec.ofInt 64 15).toNat=2^4 - 1 by decide,Nat.and_two_pow_sub_one_eq_mod,IntKind.wrap_u64]
 omega
theorem p0h (k:Nat) (hk:k < 65) (D:List UInt8) (hD:D.length=k) (d:UInt8):(List.replicate (65 - k) (Value.int .u8 0)++byts D).set (65 - k - 1) (.int .u8 (d.toNat:Int))=List.replicate (65 - (k+1)) (Value.int .u8 0)++byts (d :: D):=by
 rw[List.set_append_left _ _ (by simp;omega),show 65 - k=(65 - (k+1))+1 by omega,List.replicate_succ',List.set_append_right _ _ (by simp),List.length_replicate,show 65 - (k+1)+1 - 1 - (65 - (k+1))=0 by omega,List.set_cons_zero,List.append_assoc]
 rfl
theorem v0O (u:Nat) (hu:u < 65536) (w:World) (hE:Env w) :
  Calls prog 190 #[.slice none 0 0,.int .u64 u,.int .i64 16,.bool false,.bool false] w fun e w'=>e=.returned (.tuple #[.slice none 0 0,.string (bstr (numL 16 u))])∧Below w.heap.size w w':=by
 have hE1:=f1D (fun o=>hE.later (f1F _) ((Below.refl _ w).alloc (f1F _) o))
 go_enter func190,ntmps190
 go_wp2_with (first
  | (go_at_call 231;refine (c1K _).mono ?_;rintro e w' ⟨rfl,rfl⟩)
  | (go_at_call 232;refine (a1T _ (hE1.out _)).mono ?_;rintro e w' ⟨rfl,rfl⟩))
 have hr0:Row (w.alloc (.cells Tryz.zeroCells266 266)) w.heap.size 266 (List.replicate (65 - 0) (.int .u8 0)++byts []):=Row.new w _ _
 have hb0:Below w.heap.size w (w.alloc (.cells Tryz.zeroCells266 266)):=(Below.refl _ w).alloc (f1F _) _
 generalize w.alloc (.cells Tryz.zeroCells266 266)=w1 at *
 clear hE1 hE
 go_loopw [1,13] (fun x i wr=>∃(v k:Nat) (D:List UInt8),x=.int .u64 v∧i=.int .i64 ((65 - k:Nat):Int)∧D.length=k∧numL 16 u=numL 16 v++D∧((k=0∧v < 65536)∨(k=1∧v < 4096)∨(k=2∧v < 256)∨(k=3∧v < 16))∧Row wr w.heap.size 266 (List.replicate (65 - k) (.int .u8 0)++byts D)∧Below w.heap.size w wr) (fun x _ _=>(intOf x).toNat)
 case atStart=>exact⟨u,0,[],rfl,rfl,rfl,by simp,.inl ⟨rfl,hu⟩,hr0,hb0⟩
 case round =>
  clear hr0 hb0
  obtain⟨v,k,D,rfl,rfl,hDl,hnum,hvk,hrow,hb⟩:=hrel
  have hv:v < 65536:=by omega
  have hI0:IntKind.i64.wrap (((65 - k:Nat):Int) - 1)=((65 - k - 1:Nat):Int):=by rw[IntKind.wrap_i64];omega
  have hk65:((65 - k - 1:Nat):Int) < 65:=by omega
  have hcell:wr.cell? ⟨w.heap.size,65 - k - 1,none⟩=some (.int .u8 0):=by rw[hrow.cell,List.getElem?_append_left (by simp;omega),List.getElem?_replicate,if_pos (by omega)]
  have hfree:=hrow.free (65 - k - 1)
  by_cases hge:16≤v
  ·have hge':(16:Int)≤(v:Int):=by omega
   have ha:=f1i v hv
   have hix:=l0G (v%16) (by omega)
   have HN:=f1D (show numL 16 u=numL 16 (v/16)++(hexD (v%16) :: D) by rw[hnum,b0p 16 v (by omega) hge,List.append_assoc];rfl)
   have HR:=f1D (p0h k (by omega) D hDl (hexD (v%16)))
   generalize hexD (v%16)=d at *
   generalize hm:v%16=m at *
   clear hnum
   go_wp2
   go_roundw
   case rel =>
    refine⟨v/16,k+1,d :: D,by go_num,by rw[show 65 - k - 1=65 - (k+1) by omega],by simp[hDl],HN.out,by omega,?_,hb.grown (a0q _ _ _ _) hb.size (fun k h=>by cases h;exact f1F _)⟩
    rw[←HR.out]
    exact hrow.set (65 - k - 1) _
   case measure=>simp[intOf];omega
  ·have hlt':(v:Int) < 16:=by omega
   have hix:=l0G v (by omega)
   have HN:=f1D (show numL 16 u=hexD v :: D by rw[hnum,a0S 16 v (by omega)];rfl)
   have HR:=f1D (p0h k (by omega) D hDl (hexD v))
   have hlo0:(0:Int)≤((65 - k - 1:Nat):Int):=by omega
   have hlo1:((65 - k - 1:Nat):Int)≤65:=by omega
   generalize hexD v=d at *
   clear hnum
   have hrow3:Row (wr.setCell ⟨w.heap.size,65 - k - 1,none⟩ (.int .u8 (d.toNat:Int))) w.heap.size 266 (List.replicate (65 - (k+1)) (.int .u8 0)++byts (d :: D)):=by rw[←HR.out];exact hrow.set (65 - k - 1) _
   have hlen:(List.replicate (65 - (k+1)) (Value.int .u8 0)++byts (d :: D)).length=65:=by rw[List.length_append,List.length_replicate,a0b,List.length_cons,hDl];omega
   have hsl3:=(p0t (f0H hrow3 (f1F _) (by rw[hlen];unfold maxLen;omega))).cut (k:=65 - k - 1) (by rw[hlen];omega)
   rw[hlen,Nat.zero_add,show 65 - k - 1=65 - (k+1) by omega,List.drop_left' (by simp),←show 65 - k - 1=65 - (k+1) by omega] at hsl3
   have hcv:=b0o hsl3 (65 - (65 - k - 1)) (by rw[List.length_cons,hDl];omega)
   have hb3:=hb.grown (show wr.grownBy (wr.setCell ⟨w.heap.size,65 - k - 1,none⟩ (.int .u8 (d.toNat:Int))) (some w.heap.size) from a0q _ _ _ _) hb.size (fun k h=>by cases h;exact f1F _)
   clear hsl3 hrow3
   go_wp2
   go_ret2
   exact⟨by rw[HN.out];rfl,hb3⟩
theorem v0Z (u:Nat) (hu:u < 65536) (w:World) (hE:Env w) :
  Calls prog 101 #[.int .u64 u,.int .i64 16] w fun e w'=>e=.returned (.string (bstr (numL 16 u)))∧Below w.heap.size w w':=by
 have h:Calls prog 140 #[.int .u64 u,.int .i64 16] w fun e w'=>e=.returned (.string (bstr (numL 16 u)))∧Below w.heap.size w w':=by
  go_enter func140,ntmps140
  go_wp2_with (go_at_call 190;refine (v0O u hu _ hE).mono ?_;rintro e w' ⟨rfl,hb⟩)
  go_ret
  exact⟨rfl,hb⟩
 go_enter func101,ntmps101
 go_wp2_with (go_at_call 140;refine h.mono ?_;rintro e w' ⟨rfl,hb⟩)
 go_ret
 exact⟨rfl,hb⟩
theorem w0s (A:Option Addr) (b o n c k:Nat) (hA:A=some ⟨b,o,none⟩) (hk:k < n) (w:World) :
  (Instr.indexAt 240 (.slice A n c) (.int .i64 k)).run prog w=.ok (.pointer (some ⟨b,o+k,none⟩)) w:=by
 subst hA
 have h:(k:Int) < (n:Int):=by omega
 go_simp
theorem b1Z {w:World} {b o c:Nat} {l:List Nat} (h:Sl w (some ⟨b,o,none⟩) c (hwV l)) (k:Nat) (hk:k < l.length):w.cell? ⟨b,o+k,none⟩=some (.int .u16 (l.getD k 0:Nat)):=by
 obtain⟨b',o',hA,_,hc⟩:=h.rd.get (i:=k) (by rw[a0M];exact hk)
 cases hA
 rw[hc,k0j _ _ hk]
theorem o0w (ss:List (List UInt8)) (x:UInt8):Lib.join ss [x]=b0i x ss:=by
 induction ss with
 | nil=>rfl
 | cons s ss ih =>
  cases ss with
  | nil=>rw[Lib.join_one];rfl
  | cons t ss =>
   rw[b0v x s (t :: ss) (by simp),←ih]
   rw[Lib.join_cons,Lib.join_cons]
   simp[Lib.joinTail]
theorem i0A (x:UInt8) (ss:List (List UInt8)):(b0i x ss).length≤sumS ss:=by
 induction ss with
 | nil=>exact f1F _
 | cons s ss ih =>
  cases ss with
  | nil=>show s.length≤_;unfold sumS;simp
  | cons t ss =>
   rw[b0v x s (t :: ss) (by simp),List.length_append,List.length_cons]
   unfold sumS at ih ⊢
   rw[List.map_cons,List.sum_cons]
   omega
theorem n0p (b:Nat) (hb:2≤b) (l:List Nat) (hm:∀n∈l,n < b^(15+1)):sumS (l.map (numL b))≤17*l.length:=by
 induction l with
 | nil=>exact f1F _
 | cons n l ih =>
  have h1:=b0k b hb 15 n (hm n (List.mem_cons_self ..))
  have h2:=ih (fun m h=>hm m (List.mem_cons_of_mem _ h))
  unfold sumS at h2 ⊢
  rw[List.map_cons,List.map_cons,List.sum_cons,List.length_cons]
  omega
theorem z0M (ss:List (List UInt8)) (x:UInt8) (A:Option Addr) (c:Nat) (w:World) (hs:Sl w A c (a0F ss)) (hn:ss.length≤1000) (hl:sumS ss≤100000) :
  Calls prog 240 #[.slice A ss.length c,.string (bstr [x])] w fun e w'=>e=.returned (.string (bstr (b0i x ss)))∧Below w.heap.size w w':=by
 by_cases h0:ss=[]
 ·subst h0
  refine (Tryz.strings_Join_none A c (bstr [x]) w).mono ?_
  rintro e w' ⟨rfl,rfl⟩
  exact⟨rfl,Below.refl _ _⟩
 ·have hp:0 < ss.length:=List.length_pos_iff.2 h0
  obtain⟨bk,o,rfl,hbk,-⟩:=hs.rd.get (i:=0) (by rw[a0w];exact hp)
  have hj:=Tryz.strings_Join bk o c (ss.map bstr) (bstr [x]) w (fun j y hy=>by
   obtain⟨b',o',hA,_,hc⟩:=hs.rd.get (i:=j) (by rw[a0w];have:=(List.getElem?_eq_some_iff.1 hy).1;simpa using this)
   cases hA
   rw[hc]
   unfold a0F
   rw[List.getElem?_map] at hy ⊢
   cases hq:ss[j]? with
   | none=>rw[hq] at hy;cases hy
   | some q=>rw[hq] at hy;cases hy;rfl) hbk (by rw[List.length_map];omega) (by rw[List.length_map];have:=hs.room;rw[a0w] at this;omega) (by
    rw[show (ss.map bstr).map (·.data.toList)=ss by rw[List.map_map];exact List.map_id _,show (bstr [x]).data.toList=[x] from rfl,o0w]
    have:=i0A x ss
    omega)
  rw[show (ss.map bstr).map (·.data.toList)=ss by rw[List.map_map];exact List.map_id _,show (bstr [x]).data.toList=[x] from rfl,o0w,List.length_map] at hj
  exact hj
def fmtB (b:Nat):Prop:=∀(u:Nat) (w:World),u < 65536→Env w→Calls prog 101 #[.int .u64 u,.int .i64 b] w fun e w'=>e=.returned (.string (bstr (numL b u)))∧Below w.heap.size w w'
theorem l0u (b:Nat) (hB:fmtB b) (h2:2≤b) (l:List Nat) (h8:l.length≤8) (hm:∀n∈l,n < 65536) (x:UInt8) (A:Option Addr) (c:Nat) (w:World) (hE:Env w) (hs:Sl w A c (hwV l)) :
  Calls prog 203 #[.slice A l.length c,.string (bstr [x]),.int .i64 b] w fun e w'=>e=.returned (.string (bstr (b0i x (l.map (numL b)))))∧Below w.heap.size w w':=by
 obtain⟨i0,hi,hz0,hz1,hz2⟩:=info_parts k0l
 have hown0:w.ownsRow w.heap.size 9 1 (.slice none 0 0) 0 (a0F []):=World.ownsRow_nil w _ _ _
 have hB:=f1D hB
 go_enter func203,ntmps203
 go_wp2
 go_loopw [7,12] (fun v i wr=>∃k:Nat,k≤l.length∧i=.int .i64 k∧wr.ownsRow w.heap.size 9 1 v k (a0F ((l.take k).map (numL b)))∧Below w.heap.size w wr) (fun _ i _=>l.length - (intOf i).toNat)
 case atStart=>exact⟨0,by omega,rfl,hown0,Below.refl _ _⟩
 case round =>
  clear hown0
  obtain⟨k,hk,rfl,hown,hb⟩:=hrel
  by_cases hlt:k < l.length
  ·have hlt':(k:Int) < (l.length:Int):=by omega
   obtain⟨b',o,hA,-,-⟩:=hs.rd.get (i:=k) (by rw[a0M];exact hlt)
   have hix:=w0s A b' o l.length c k hA hlt
   have hce:=b1Z (by rw[hA] at hs;exact hs.later (f1F _) hb) k hlt
   have hx:l.getD k 0 < 65536:=hm _ (by rw[List.getD_eq_getElem?_getD,List.getElem?_eq_getElem hlt];exact List.getElem_mem hlt)
   have HS:=f1D (show (l.take (k+1)).map (numL b)=(l.take k).map (numL b)++[numL b (l.getD k 0)] by rw[List.take_add_one,List.map_append,List.getElem?_eq_getElem hlt,List.getD_eq_getElem?_getD,List.getElem?_eq_getElem hlt];rfl)
   generalize l.getD k 0=n at *
   have hcall:=f1D (hB.out n wr hx (hE.next hb))
   have hw1:IntKind.u64.wrap (n:Int)=(n:Int):=by rw[IntKind.wrap_u64];omega
   have n1:k+1≤maxLen:=by unfold maxLen;omega
   have n2:(k+1)*16≤140737488355328:=by omega
   clear hA
   go_wp2_with (first
    | (go_at_call 101;refine hcall.out.mono ?_;rintro e w2 ⟨rfl,hb2⟩;have hown2:=a0D hown hb2 (f1F _);have hb3:=hb.trans (hb2.mono hb.size);clear hcall;generalize numL b n=p at *)
    | (at_builtin;have hslp:Sl (w2.alloc (.cells #[.string (bstr p)] 9)) (some ⟨w2.heap.size,0,none⟩) 1 (a0F [p]):=d0c (a0F [p]) rfl 1 rfl;have howna:=hown2.alloc (.cells #[.string (bstr p)] 9);have hbe:=hb3.alloc hb3.size (.cells #[.string (bstr p)] 9);refine a0j rfl (.tmp 16) (.tmp 21) 24 rfl w.heap.size 9 i0 _ 16 underlying24 hi hz0 hz1 hz2 rfl _ k _ rfl howna (some ⟨w2.heap.size,0,none⟩) 1 1 (a0F [p]) rfl rfl hslp (d0I _) n1 n2 hbe.size ?_;intro v3 w3 hown3 hg3;have hb4:=hbe.grown hg3 hbe.size (fun j hj=>(howna.lt j hj).1);rw[←c0M,←HS.out] at hown3))
   go_roundw
   case rel=>exact⟨k+1,by omega,by go_num,hown3,hb4⟩
   case measure=>simp[intOf];omega
  ·obtain rfl:k=l.length:=by omega
   rw[List.take_length] at hown
   obtain⟨A2,c2,rfl,hl2,hsl2⟩:=Sl.of_own hown
   have hjn := f1D (z0M (l.map (numL b)) x A2 c2 wr hsl2 (by rw [List.length_map]; omega) (by have := n0p b h2 l (fun n hn => Nat.lt_of_lt_of_le (hm n hn) (by calc 65536 = 2 ^ 16 := rfl
                                                                                                                                                                 _≤b^16:=Nat.pow_le_pow_left h2 16));omega))
   rw[List.length_map] at hjn
   generalize hG:b0i x (l.map (numL b))=G at *
   have HG:=f1D hG
   clear hG
   clear hown hl2 hsl2
   go_wp2_with (go_at_call 240;refine hjn.out.mono ?_;rintro e w5 ⟨rfl,hb5⟩)
   go_ret
   exact⟨by rw[HG.out];rfl,hb.trans (hb5.mono hb.size)⟩
theorem v0b (l:List Nat) (h8:l.length≤8) (hm:∀n∈l,n < 65536) (x:UInt8) (A:Option Addr) (n c:Nat) (hn:n=l.length) (w:World) (hE:Env w) (hs:Sl w A c (hwV l)) :
  Calls prog 203 #[.slice A n c,.string (bstr [x]),.int .i64 10] w fun e w'=>e=.returned (.string (bstr (b0i x (l.map (numL 10)))))∧Below w.heap.size w w':=by
 subst hn
 exact l0u 10 (fun u w hu hE=>v0Y u (by omega) w hE) (by omega) l h8 hm x A c w hE hs
theorem j0U (l:List Nat) (h8:l.length≤8) (hm:∀n∈l,n < 65536) (x:UInt8) (A:Option Addr) (n c:Nat) (hn:n=l.length) (w:World) (hE:Env w) (hs:Sl w A c (hwV l)) :
  Calls prog 203 #[.slice A n c,.string (bstr [x]),.int .i64 16] w fun e w'=>e=.returned (.string (bstr (b0i x (l.map (numL 16)))))∧Below w.heap.size w w':=by
 subst hn
 exact l0u 16 (fun u w hu hE=>v0Z u hu w hE) (by omega) l h8 hm x A c w hE hs
theorem b1J (l:List Nat) (h8:l.length=8) (g i:Nat) (hi:i≤8) (z:Int) (hz:z=(i:Int)) :
  ∃A2,(∀W,(Instr.sliceAt 244 (.pointer (some ⟨g,0,none⟩)) (some (.int .i64 z)) none none).run prog W=.ok (.slice A2 (8 - i) (8 - i)) W) ∧
   ∀w',Sl w' (some ⟨g,0,none⟩) 8 (hwV l)→Sl w' A2 (8 - i) (hwV (l.drop i)):=by
 have hal:prog.arrayLen 244=8:=by kernel_rfl
 have e:hwV (l.drop i)=(hwV l).drop i:=by unfold hwV;rw[List.map_drop]
 have hzn:z.toNat=i:=by omega
 by_cases h:i=8
 ·refine⟨some ⟨g,0,none⟩,fun W=>?_,fun w' hs=>?_⟩
  ·rw[run_sliceAt_array_l W 244 ⟨g,0,none⟩ (by kernel_rfl) .i64 z (by omega) (by rw[hal];omega),hal,hzn,h]
   rfl
  ·rw[e,List.drop_of_length_le (by rw[a0M];omega)]
   exact⟨.inl rfl,Nat.zero_le _,fun h=>by cases h⟩
 ·refine⟨some ⟨g,i,none⟩,fun W=>?_,fun w' hs=>?_⟩
  ·rw[run_sliceAt_array_l W 244 ⟨g,0,none⟩ (by kernel_rfl) .i64 z (by omega) (by rw[hal];omega),hal,hzn]
   go_simp
   intro h'
   omega
  ·have h:=hs.cut (k:=i) (by rw[a0M];omega)
   rw[Nat.zero_add] at h
   rw[e]
   exact h
theorem n0C (l:List Nat) (h8:l.length=8) (hm:∀n∈l,n < 65536) (w:World) (hE:Env w) :
  Calls prog 201 #[.agg (hwV l).toArray] w fun e w'=>e=.returned (.string (bstr (d0M l)))∧Below w.heap.size w w':=by
 have hsl:=f1D (show (prog.info? 244).map (·.size)=some (hwV l).toArray.size by rw[show (prog.info? 244).map (·.size)=some 8 by kernel_rfl,List.size_toArray,a0M,h8])
 have hno:=f1D (fun w'=>n0z l h8 w')
 have hle:=v0l l h8
 have HT:=f1D (show d0M l=if a0W (l.drop (d0K l)) < 2 then b0S l else b0S (l.take (d0K l))++58 :: 58 :: b0S (l.drop (d0K l+a0W (l.drop (d0K l)))) from rfl)
 obtain⟨w1,hw1⟩:∃w1,w1=w.alloc (.cells (hwV l).toArray 244):=⟨_,rfl⟩
 have hr:Row w1 w.heap.size 244 (hwV l):=by rw[hw1];exact Row.new w _ _
 have hR:=f1D (show w1.heap[w.heap.size]?=some (.cells (hwV l).toArray 244 (0,0)) from hr)
 have hb:Below w.heap.size w w1:=by rw[hw1];exact (Below.refl _ w).alloc (f1F _) _
 have hE1:=hE.next hb
 have hlt:=hr.lt
 have hs1:=p0t (f0H hr (f1F _) (by rw[a0M,h8];unfold maxLen;omega))
 rw[a0M,h8] at hs1
 generalize hbest:d0K l=p at *
 generalize hmany:a0W (l.drop p)=m at *
 obtain⟨L,hL⟩:∃L,L=hwV l:=⟨_,rfl⟩
 rw[←hL] at hsl hw1 hR hno ⊢
 have HL:=f1D hL
 clear hL
 by_cases h2:m < 2
 ·have h2':(m:Int) < 2:=by omega
  have hj:=f1D (fun w' (hE:Env w') (hs:Sl w' (some ⟨w.heap.size,0,none⟩) 8 (hwV l))=>j0U l (by omega) hm 58 _ 8 8 (by omega) w' hE hs)
  have HG:=f1D (show d0M l=b0i 58 (l.map (numL 16)) by rw[HT.out,if_pos h2,b0T])
  generalize b0i 58 (l.map (numL 16))=G at *
  go_enter func201,ntmps201
  subst hw1
  go_wp2_with (first
   | (with_reducible refine wpList_load_row rfl 244 (.tmp 1) rfl w.heap.size rfl 244 L.toArray (0,0) _ hR.out underlying244 rfl hsl.out ?_)
   | (go_at_call 239;refine (hno.out _).mono ?_;rintro e w2 ⟨rfl,hb2⟩;have hE2:=hE1.next hb2;have hs2:=hs1.later (f1F _) hb2;have hb3:=hb.trans (hb2.mono hb.size))
   | (go_at_call 203;refine (hj.out _ hE2 hs2).mono ?_;rintro e w3 ⟨rfl,hb4⟩))
  go_ret
  exact⟨by rw[HG.out];rfl,hb3.trans (hb4.mono hb3.size)⟩
 ·have h2':(2:Int)≤(m:Int):=by omega
  have hj1:=f1D (fun w' (hE:Env w') (hs:Sl w' (some ⟨w.heap.size,0,none⟩) 8 (hwV l))=>j0U (l.take p) (by rw[List.length_take];omega) (fun n hn=>hm n (List.mem_of_mem_take hn)) 58 (some ⟨w.heap.size,0,none⟩) p 8 (by rw[List.length_take];omega) w' hE (by
   have e:hwV l=hwV (l.take p)++hwV (l.drop p):=by unfold hwV;rw[←List.map_append,List.take_append_drop]
   rw[e] at hs
   exact hs.pre))
  obtain⟨A2,hcut,hsA⟩:=b1J l h8 w.heap.size (p+m) hle ((p:Int)+(m:Int)) (by omega)
  have hj2:=f1D (fun w' (hE:Env w') (hs:Sl w' (some ⟨w.heap.size,0,none⟩) 8 (hwV l))=>j0U (l.drop (p+m)) (by rw[List.length_drop];omega) (fun n hn=>hm n (List.mem_of_mem_drop hn)) 58 A2 (8 - (p+m)) (8 - (p+m)) (by rw[List.length_drop];omega) w' hE (hsA w' hs))
  clear hsA
  have HG:=f1D (show d0M l=b0i 58 ((l.take p).map (numL 16))++[58,58]++b0i 58 ((l.drop (p+m)).map (numL 16)) by rw[HT.out,if_neg h2,b0T,b0T,List.append_assoc];rfl)
  have hl1:(b0i 58 ((l.take p).map (numL 16))).length≤17*8:=by
   have h1:=i0A 58 ((l.take p).map (numL 16))
   have h2:=n0p 16 (by omega) (l.take p) (fun n hn=>Nat.lt_of_lt_of_le (hm n (List.mem_of_mem_take hn)) (by decide))
   rw[List.length_take] at h2
   omega
  have hl2:(b0i 58 ((l.drop (p+m)).map (numL 16))).length≤17*8:=by
   have h1:=i0A 58 ((l.drop (p+m)).map (numL 16))
   have h2:=n0p 16 (by omega) (l.drop (p+m)) (fun n hn=>Nat.lt_of_lt_of_le (hm n (List.mem_of_mem_drop hn)) (by decide))
   rw[List.length_drop] at h2
   omega
  generalize b0i 58 ((l.take p).map (numL 16))=X1 at *
  generalize b0i 58 ((l.drop (p+m)).map (numL 16))=X2 at *
  have hz1:(bstr X1).size=X1.length:=a0c _
  have hz2:(bstr X2).size=X2.length:=a0c _
  have hp0:(0:Int)≤(p:Int):=by omega
  have hp1:(p:Int)≤8:=by omega
  have hq0:(0:Int)≤(p:Int)+(m:Int):=by omega
  have hq1:(p:Int)+(m:Int)≤8:=by omega
  have hqw:IntKind.i64.wrap ((p:Int)+(m:Int))=(p:Int)+(m:Int):=by rw[IntKind.wrap_i64];omega
  go_enter func201,ntmps201
  subst hw1
  go_wp2_with (first
   | (with_reducible refine wpList_load_row rfl 244 (.tmp 1) rfl w.heap.size rfl 244 L.toArray (0,0) _ hR.out underlying244 rfl hsl.out ?_)
   | (go_at_call 239;refine (hno.out _).mono ?_;rintro e w2 ⟨rfl,hb2⟩;have hE2:=hE1.next hb2;have hs2:=hs1.later (f1F _) hb2;have hb3:=hb.trans (hb2.mono hb.size)))
  have hj1:=f1D (fun w' (hq:Below w2.heap.size w2 w')=>hj1.out w' (hE2.next hq) (hs2.later (f1F _) hq))
  have hj2:=f1D (fun w' (hq:Below w2.heap.size w2 w')=>hj2.out w' (hE2.next hq) (hs2.later (f1F _) hq))
  clear hno HL hr hR hsl
  refine wp_region_noPanic ?_
  refine wp_region_held_drew (S:=fun w'=>Below w2.heap.size w2 w') (by kernel_rfl) ((Below.refl _ _).drew) (fun hHeld=>?_)
  have hB:=hHeld
  refine rt 0 14 hHeld ?_
  refine rt 1 15 hHeld ?_
  refine rt 4 18 hHeld ?_
  refine rt 5 19 hHeld ?_
  refine rt 6 20 hHeld ?_
  refine rt 7 21 hHeld ?_
  refine rc1 2 fun K hK=>?_
  go_simp
  refine (hj1.out _ hB).mono ?_;rintro e ww22 ⟨rfl,hqw22⟩
  try go_wp2_with fail
  refine hK.out _ _ (hHeld.trans (hqw22.mono hHeld.size)) (fun hHeld'=>?_)
  clear hK K
  have hB:=a0a hB hqw22
  have hB2:Below ww22.heap.size ww22 ww22:=Below.refl _ _
  refine a0f (S':=fun w'=>Below ww22.heap.size ww22 w') (fun _ h=>(hHeld.trans (hqw22.mono hHeld.size)).trans (h.mono (hHeld.trans (hqw22.mono hHeld.size)).size)) _ _ _ _ ?_
  clear hHeld
  have hHeld:Below ww22.heap.size ww22 ww22:=Below.refl _ _
  refine rt 3 17 hHeld ?_ (hy:=by intro w hS;go_simp;rw[if_neg (by (try simp only[ByteArray.size_append,hz1,hz2]);(try simp only[show ByteArray.size { data:=#[58,58] }=2 from rfl]);omega)])
  refine rc1 8 fun K hK=>?_
  go_simp
  refine (hj2.out _ hB).mono ?_;rintro e ww28 ⟨rfl,hqw28⟩
  try go_wp2_with fail
  refine hK.out _ _ (hHeld.trans (hqw28.mono hHeld.size)) (fun hHeld'=>?_)
  clear hK K
  have hB:=a0a hB hqw28
  have hB2:=a0a hB2 hqw28
  have hB8:Below ww28.heap.size ww28 ww28:=Below.refl _ _
  refine a0f (S':=fun w'=>Below ww28.heap.size ww28 w') (fun _ h=>(hHeld.trans (hqw28.mono hHeld.size)).trans (h.mono (hHeld.trans (hqw28.mono hHeld.size)).size)) _ _ _ _ ?_
  clear hHeld
  have hHeld:Below ww28.heap.size ww28 ww28:=Below.refl _ _
  refine rt 9 23 hHeld ?_ (hy:=by intro w hS;go_simp;rw[if_neg (by (try simp only[ByteArray.size_append,hz1,hz2]);(try simp only[show ByteArray.size { data:=#[58,58] }=2 from rfl]);omega)])
  refine rt 10 2 hHeld ?_
  refine wpAnyH_done (by kernel_rfl) ?_ _
  refine NoPanic.normal ?_
  have hBe:=hb3.trans (hB.mono hb3.size)
  clear hHeld
  go_wp2
  go_ret
  exact⟨by rw[HG.out,←a0x,←a0x];rfl,hBe⟩
end Go.Proofs.YtcbilopdeiapjaaGreatDoor
