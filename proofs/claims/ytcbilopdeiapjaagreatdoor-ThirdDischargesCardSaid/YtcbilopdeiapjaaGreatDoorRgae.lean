import Derived.Test.YtcbilopdeiapjaaGreatDoorRgad
import Derived.StillTailTactics
set_option maxHeartbeats 16000000
set_option maxRecDepth 100000
open Go.Proofs.Tryz
namespace Go.Proofs.YtcbilopdeiapjaaGreatDoor
open Go.RowKit
theorem a1V (x:BitVec 32) (n:Nat) (h:n < 32):x >>> n ||| x <<< (32 - n)=turn x (n:Int):=by
 unfold turn
 rw[BitVec.rotateRight_def,show ((n:Int)%32).toNat=n by omega,Nat.mod_eq_of_lt h]
theorem c0B (x:BitVec 32) (n:Int) (w:World) (h0:0≤n) (h1:n < 32) :
  Calls prog 215 #[.int .u32 (u x),.int .u64 n] w fun e w'=>e=.returned (.int .u32 (u (turn x n)))∧w=w':=by
 obtain⟨n,rfl⟩:=Int.eq_ofNat_of_zero_le h0
 have hn:IntKind.u64.wrap (32 - (n:Int))=((32 - n:Nat):Int):=by rw[IntKind.wrap_u64];omega
 have H:=f1D (a1V x n (by omega))
 go_enter func215,ntmps215
 go_wp2
 go_ret
 refine⟨?_,rfl⟩
 rw[←H.out]
 rfl
def j0P (xs:List (BitVec 32)) (w:World) (e:Ending) (w':World):Prop :=
 ∃v,e=.returned v∧w'.ownsRow w.heap.size 147 1 v xs.length (a0L xs)∧Below w.heap.size w w'
theorem r0C:(prog.info? 147).map (fun i=>(i.zero,i.size,i.bytes))=some (some (.int .u32 0),1,4):=by kernel_rfl
theorem c1P (A:Option Addr) (n c:Nat) (l:List UInt8) (w:World) (hl:Sl w A c (byts l)) (hn:n=l.length) :
  Calls prog 247 #[.slice A n c] w fun e w'=>e=.returned (.int .u32 (getV l))∧w=w':=by
 subst hn;exact a1F A c l w hl
theorem c0w {w:World} {base t g n cap:Nat} {xs:List (BitVec 32)} (h:w.ownsRow base t 1 (.slice (some ⟨g,0,none⟩) n cap) n (a0L xs)) (i:Nat) (hi:i < xs.length) :
  w.cell? ⟨g,i,none⟩=some (.int .u32 (u (xs.getD i 0#32))):=by
 obtain⟨ys,hr⟩:=Row.of_own h
 rw[hr.cell,List.getElem?_append_left (by rw[a0z];exact hi),f0d _ _ hi]
@[go_sem] theorem f1s (x:BitVec 32):IntKind.u32.wrap ((u x).tdiv 1024)=u (x >>> 10):=by
 rw[IntWalk.u32_quo _ _ ⟨(u_bd x).1,by have:=u_bd x;omega,by decide⟩,d1g]
@[go_sem] theorem f1w (x:BitVec 32):IntKind.u32.wrap ((u x).tdiv 8)=u (x >>> 3):=by
 rw[IntWalk.u32_quo _ _ ⟨(u_bd x).1,by have:=u_bd x;omega,by decide⟩,f1c]
theorem y0f (x:BitVec 32):turn x 17 ^^^ turn x 19 ^^^ x >>> 10=g0m 1 x:=by unfold g0m;rw[if_neg (by decide),if_pos rfl]
theorem y0d (x:BitVec 32):turn x 7 ^^^ turn x 18 ^^^ x >>> 3=g0m 0 x:=by unfold g0m;rw[if_pos rfl]
theorem n0k (b o c:Nat) (l:List UInt8) (hl:l.length=64) (w:World) (hsl:Sl w (some ⟨b,o,none⟩) c (byts l)) :
  Calls prog 213 #[.slice (some ⟨b,o,none⟩) 64 c] w (j0P (b0m l 64) w):=by
 obtain⟨i0,hi,hz0,hz1,hz2⟩:=info_parts r0C
 have hroom:64≤c:=by have:=hsl.room;rw[a0b,hl] at this;exact this
 have hown0:(w.alloc (.cells #[] 147)).ownsRow w.heap.size 147 1 (.slice (some ⟨w.heap.size,0,none⟩) 0 0) 0 (a0L (b0m l 0)):=World.ownsRow_lit w #[] 0 (f1F _) (by unfold maxLen;omega) rfl
 have hbel0:Below w.heap.size w (w.alloc (.cells #[] 147)):=(Below.refl _ _).alloc (f1F _) _
 go_enter func213,ntmps213
 go_wp2_with fail
 go_loopw [3,4] (fun v i wr=>∃k:Nat,k≤16∧i=.int .i64 k∧wr.ownsRow w.heap.size 147 1 v k (a0L (b0m l k))∧Below w.heap.size w wr) (fun _ i _=>16 - (intOf i).toNat)
 case atStart=>exact⟨0,by omega,rfl,hown0,hbel0⟩
 case round =>
  clear hown0 hbel0
  obtain⟨k,hk,rfl,hown,hb⟩:=hrel
  by_cases hlt:k < 16
  ·have hI1:(0:Int)≤4*(k:Int):=by omega
   have hI2:4*(k:Int)≤64:=by omega
   have hI4:4*(k:Int)≤(c:Int):=by omega
   have hI3:¬(c=4*k):=by omega
   have hI5:((4*(k:Int)).toNat)=4*k:=by omega
   have hsk:Sl wr (some ⟨b,o+4*k,none⟩) (c - 4*k) (byts (l.drop (4*k))):=by
    have h1:=(hsl.later (f1F _) hb).cut (k:=4*k) (by rw[a0b];omega)
    rw[show (byts l).drop (4*k)=byts (l.drop (4*k)) from by unfold byts;rw[List.map_drop]] at h1
    exact h1
   have hln:=f1D (show 64 - 4*k=(l.drop (4*k)).length by rw[List.length_drop,hl])
   have hlo:=f1D (r0J l k hlt)
   have hd1:k+1≤maxLen:=by unfold maxLen;omega
   have hd2:(k+1)*4≤140737488355328:=by omega
   have hbs:=hb.size
   have hbe:=hb.alloc hbs (.cells #[Value.int .u32 (u (h0U l (b0m l k)))] 147)
   have howna:=hown.alloc (.cells #[Value.int .u32 (u (h0U l (b0m l k)))] 147)
   have hlt':=fun j hj=>(hown.lt j hj).1
   clear hown hb
   go_wp2_with (first
    | (go_at_call 247;refine (c1P _ _ _ (l.drop (4*k)) _ hsk hln.out).mono ?_;rintro e w' ⟨rfl,rfl⟩;rw[←b1r,←hlo.out])
    | (at_builtin;refine wpList_append_own _ rfl (.tmp 13) (.tmp 19) 202 rfl w.heap.size 147 i0 _ 1 4 underlying202 hi hz0 hz1 hz2 rfl (by omega) _ k (a0L (b0m l k)) rfl howna ⟨wr.heap.size,0,none⟩ 1 1 (a0L [h0U l (b0m l k)]) rfl rfl (d0m _ _ _) (d0J _) hd1 hd2 (by rw[World.size_alloc];omega) ?_;intro v3 w3 hown3 hg3 _;have hb3:Below w.heap.size w w3:=hbe.grown hg3 (by rw[World.size_alloc];omega) hlt'))
   go_roundw
   case rel =>
    refine⟨k+1,by omega,by go_num,?_,hb3⟩
    rw[b0m,g0N];exact hown3
   case measure=>simp[intOf];omega
  ·have e16:k=16:=by omega
   rw[e16] at hown
   clear e16
   go_wp2_with fail
   go_loopw [3,5] (fun v i wr=>∃j:Nat,j≤48∧i=.int .i64 ((j:Int)+16)∧wr.ownsRow w.heap.size 147 1 v (j+16) (a0L (b0m l (j+16)))∧Below w.heap.size w wr) (fun _ i _=>64 - (intOf i).toNat)
   case atStart=>exact⟨0,by omega,rfl,hown,hb⟩
   case round =>
    clear hown hb
    obtain⟨j,hj,rfl,hown,hb⟩:=hrel
    by_cases hlt:j < 48
    ·obtain⟨g,cap,rfl,_,hgl⟩:=hown.form (by omega)
     go_wp2_with fail
     have hk6:=b0D l (j+16)
     have c2:=c0w hown (j+14) (by omega)
     have c7:=c0w hown (j+9) (by omega)
     have c15:=c0w hown (j+1) (by omega)
     have c16:=c0w hown j (by omega)
     have hnx:=o0K l (j+16) (by omega)
     rw[show j+16 - 2=j+14 by omega,show j+16 - 7=j+9 by omega,show j+16 - 15=j+1 by omega,show j+16 - 16=j by omega] at hnx
     generalize (b0m l (j+16)).getD (j+14) 0#32=x2 at *
     generalize (b0m l (j+16)).getD (j+9) 0#32=x7 at *
     generalize (b0m l (j+16)).getD (j+1) 0#32=x15 at *
     generalize (b0m l (j+16)).getD j 0#32=x16 at *
     have HNX:=f1D hnx
     have HK6:=f1D hk6
     clear hnx hk6
     have w2:IntKind.i64.wrap ((j:Int)+16 - 2)=(j:Int)+14:=by rw[IntKind.wrap_i64];omega
     have w7:IntKind.i64.wrap ((j:Int)+16 - 7)=(j:Int)+9:=by rw[IntKind.wrap_i64];omega
     have w15:IntKind.i64.wrap ((j:Int)+16 - 15)=(j:Int)+1:=by rw[IntKind.wrap_i64];omega
     have n14:(0:Int)≤(j:Int)+14:=by omega
     have m14:(j:Int)+14 < (j:Int)+16:=by omega
     have t14:((j:Int)+14).toNat=j+14:=by omega
     have n9:(0:Int)≤(j:Int)+9:=by omega
     have m9:(j:Int)+9 < (j:Int)+16:=by omega
     have t9:((j:Int)+9).toNat=j+9:=by omega
     have n1:(0:Int)≤(j:Int)+1:=by omega
     have m1:(j:Int)+1 < (j:Int)+16:=by omega
     have t1:((j:Int)+1).toNat=j+1:=by omega
     have m0:(j:Int) < (j:Int)+16:=by omega
     have w0:IntKind.i64.wrap (j:Int)=(j:Int):=by rw[IntKind.wrap_i64];omega
     refine wp_region_noPanic ?_
     refine wp_region_held_drew (S:=fun w'=>w'=wr.drew) (by kernel_rfl) (rfl) (fun hHeld=>?_)
     refine rt 0 25 rfl ?_ (hy:=by intro w hS;subst hS;go_simp;try with_reducible rfl)
     refine rt 1 26 rfl ?_ (hy:=by intro w hS;subst hS;go_simp;try with_reducible rfl)
     refine rt 6 31 rfl ?_ (hy:=by intro w hS;subst hS;go_simp;try with_reducible rfl)
     refine rt 7 32 rfl ?_ (hy:=by intro w hS;subst hS;go_simp;try with_reducible rfl)
     refine rt 13 38 rfl ?_ (hy:=by intro w hS;subst hS;go_simp;try with_reducible rfl)
     refine rt 14 39 rfl ?_ (hy:=by intro w hS;subst hS;go_simp;try with_reducible rfl)
     refine rt 2 27 rfl ?_ (hy:=by intro w hS;subst hS;go_simp;try with_reducible rfl)
     refine rt 8 33 rfl ?_ (hy:=by intro w hS;subst hS;go_simp;try with_reducible rfl)
     refine rt 15 40 rfl ?_ (hy:=by intro w hS;subst hS;go_simp;try with_reducible rfl)
     refine rt 3 28 rfl ?_ (hy:=by intro w hS;subst hS;go_simp;try with_reducible rfl)
     refine rt 9 34 rfl ?_ (hy:=by intro w hS;subst hS;go_simp;try with_reducible rfl)
     refine rt 16 41 rfl ?_ (hy:=by intro w hS;subst hS;go_simp;try with_reducible rfl)
     refine rt 4 29 rfl ?_ (hy:=by intro w hS;subst hS;go_simp;try with_reducible rfl)
     refine rt 10 35 rfl ?_ (hy:=by intro w hS;subst hS;go_simp;try with_reducible rfl)
     refine rt 17 42 rfl ?_ (hy:=by intro w hS;subst hS;go_simp;try with_reducible rfl)
     refine rt 18 43 rfl ?_ (hy:=by intro w hS;subst hS;go_simp;try with_reducible rfl)
     refine rc1 5 fun K hK=>?_
     go_simp
     refine (c0B _ 17 _ (by decide) (by decide)).mono ?_;rintro e w' ⟨rfl,rfl⟩
     try go_wp2_with fail
     refine hK.out _ _ rfl (fun _=>?_)
     clear hK K
     try (rw[a0l];dsimp only[List.set])
     refine rc1 11 fun K hK=>?_
     go_simp
     refine (c0B _ 19 _ (by decide) (by decide)).mono ?_;rintro e w' ⟨rfl,rfl⟩
     try go_wp2_with fail
     refine hK.out _ _ rfl (fun _=>?_)
     clear hK K
     try (rw[a0l];dsimp only[List.set])
     refine rt 12 37 rfl ?_ (hy:=by intro w hS;subst hS;go_simp;try with_reducible rfl)
     refine rt 19 44 rfl ?_ (hy:=by intro w hS;subst hS;go_simp;try with_reducible rfl)
     refine rt 20 6 rfl ?_ (hy:=by intro w hS;subst hS;go_simp;try with_reducible rfl)
     refine wpAnyH_done (by kernel_rfl) ?_ _
     refine NoPanic.normal ?_
     rw[y0f]
     go_wp2_with fail
     refine wp_region_noPanic ?_
     refine wp_region_held_drew (S:=fun w'=>w'=wr.drew.drew) (by kernel_rfl) (rfl) (fun hHeld=>?_)
     refine rt 0 45 rfl ?_ (hy:=by intro w hS;subst hS;go_simp;try with_reducible rfl)
     refine rt 1 46 rfl ?_ (hy:=by intro w hS;subst hS;go_simp;try with_reducible rfl)
     refine rt 6 51 rfl ?_ (hy:=by intro w hS;subst hS;go_simp;try with_reducible rfl)
     refine rt 7 52 rfl ?_ (hy:=by intro w hS;subst hS;go_simp;try with_reducible rfl)
     refine rt 13 58 rfl ?_ (hy:=by intro w hS;subst hS;go_simp;try with_reducible rfl)
     refine rt 14 59 rfl ?_ (hy:=by intro w hS;subst hS;go_simp;try with_reducible rfl)
     refine rt 2 47 rfl ?_ (hy:=by intro w hS;subst hS;go_simp;try with_reducible rfl)
     refine rt 8 53 rfl ?_ (hy:=by intro w hS;subst hS;go_simp;try with_reducible rfl)
     refine rt 15 60 rfl ?_ (hy:=by intro w hS;subst hS;go_simp;try with_reducible rfl)
     refine rt 3 48 rfl ?_ (hy:=by intro w hS;subst hS;go_simp;try with_reducible rfl)
     refine rt 9 54 rfl ?_ (hy:=by intro w hS;subst hS;go_simp;try with_reducible rfl)
     refine rt 16 61 rfl ?_ (hy:=by intro w hS;subst hS;go_simp;try with_reducible rfl)
     refine rt 4 49 rfl ?_ (hy:=by intro w hS;subst hS;go_simp;try with_reducible rfl)
     refine rt 10 55 rfl ?_ (hy:=by intro w hS;subst hS;go_simp;try with_reducible rfl)
     refine rt 17 62 rfl ?_ (hy:=by intro w hS;subst hS;go_simp;try with_reducible rfl)
     refine rt 18 63 rfl ?_ (hy:=by intro w hS;subst hS;go_simp;try with_reducible rfl)
     refine rc1 5 fun K hK=>?_
     go_simp
     refine (c0B _ 7 _ (by decide) (by decide)).mono ?_;rintro e w' ⟨rfl,rfl⟩
     try go_wp2_with fail
     refine hK.out _ _ rfl (fun _=>?_)
     clear hK K
     try (rw[a0l];dsimp only[List.set])
     refine rc1 11 fun K hK=>?_
     go_simp
     refine (c0B _ 18 _ (by decide) (by decide)).mono ?_;rintro e w' ⟨rfl,rfl⟩
     try go_wp2_with fail
     refine hK.out _ _ rfl (fun _=>?_)
     clear hK K
     try (rw[a0l];dsimp only[List.set])
     refine rt 12 57 rfl ?_ (hy:=by intro w hS;subst hS;go_simp;try with_reducible rfl)
     refine rt 19 64 rfl ?_ (hy:=by intro w hS;subst hS;go_simp;try with_reducible rfl)
     refine rt 20 7 rfl ?_ (hy:=by intro w hS;subst hS;go_simp;try with_reducible rfl)
     refine wpAnyH_done (by kernel_rfl) ?_ _
     refine NoPanic.normal ?_
     rw[y0d]
     go_wp2_with fail
     have hownd:wr.drew.drew.drew.ownsRow w.heap.size 147 1 (.slice (some ⟨g,0,none⟩) (j+16) cap) (j+16) (a0L (b0m l (j+16))):=hown
     have hbd:Below w.heap.size w wr.drew.drew.drew:=hb.drew.drew.drew
     have hd1:j+16+1≤maxLen:=by unfold maxLen;omega
     have hd2:(j+16+1)*4≤140737488355328:=by omega
     have hd3:w.heap.size≤(wr.drew.drew.drew.alloc (.cells #[Value.int .u32 (u (g0m 1 x2+x7+g0m 0 x15+x16))] 147)).heap.size:=by rw[World.size_alloc];have:=hbd.size;omega
     refine wp_region_noPanic ?_
     refine wp_region_held_drew (S:=fun w'=>w'.cell? ⟨g,j+9,none⟩=some (.int .u32 (u x7))∧w'.cell? ⟨g,j,none⟩=some (.int .u32 (u x16))) (by kernel_rfl) (⟨c7,c16⟩) (fun hHeld=>?_)
     refine rt 0 65 hHeld ?_ (hy:=by intro w hS;obtain⟨s7,s16⟩:=hS;go_simp;try with_reducible rfl)
     refine rt 1 66 hHeld ?_ (hy:=by intro w hS;obtain⟨s7,s16⟩:=hS;go_simp;try with_reducible rfl)
     refine rt 2 67 hHeld ?_ (hy:=by intro w hS;obtain⟨s7,s16⟩:=hS;go_simp;try with_reducible rfl)
     refine rt 3 68 hHeld ?_ (hy:=by intro w hS;obtain⟨s7,s16⟩:=hS;go_simp;try with_reducible rfl)
     refine rt 8 73 hHeld ?_ (hy:=by intro w hS;obtain⟨s7,s16⟩:=hS;go_simp;try with_reducible rfl)
     refine rt 10 75 hHeld ?_ (hy:=by intro w hS;obtain⟨s7,s16⟩:=hS;go_simp;try with_reducible rfl)
     refine rt 11 76 hHeld ?_ (hy:=by intro w hS;obtain⟨s7,s16⟩:=hS;go_simp;try with_reducible rfl)
     refine rt 4 69 hHeld ?_ (hy:=by intro w hS;obtain⟨s7,s16⟩:=hS;go_simp;try with_reducible rfl)
     refine rt 12 77 hHeld ?_ (hy:=by intro w hS;obtain⟨s7,s16⟩:=hS;go_simp;try with_reducible rfl)
     refine rt 5 70 hHeld ?_ (hy:=by intro w hS;obtain⟨s7,s16⟩:=hS;go_simp;try with_reducible rfl)
     refine rt 13 78 hHeld ?_ (hy:=by intro w hS;obtain⟨s7,s16⟩:=hS;go_simp;try with_reducible rfl)
     refine rt 6 71 hHeld ?_ (hy:=by intro w hS;obtain⟨s7,s16⟩:=hS;go_simp;try with_reducible rfl)
     refine rt 14 79 hHeld ?_ (hy:=by intro w hS;obtain⟨s7,s16⟩:=hS;go_simp;try with_reducible rfl)
     refine rt 7 72 hHeld ?_ (hy:=by intro w hS;obtain⟨s7,s16⟩:=hS;go_simp;try with_reducible rfl)
     refine rt 9 74 hHeld ?_ (hy:=by intro w hS;obtain⟨s7,s16⟩:=hS;go_simp;try with_reducible rfl)
     refine rt 15 80 hHeld ?_ (hy:=by intro w hS;obtain⟨s7,s16⟩:=hS;go_simp;try with_reducible rfl)
     refine rc1 16 fun K hK=>?_
     go_simp
     refine hK.out _ _ (by exact⟨(World.cell?_alloc_lt _ _ _ hgl).trans c7,(World.cell?_alloc_lt _ _ _ hgl).trans c16⟩) (fun hHeld=>?_)
     clear hK K
     try (rw[a0l];dsimp only[List.set])
     refine rc1 17 fun K hK=>?_
     refine j0n (by rfl) (.tmp 65) (.tmp 81) 202 (by rfl) w.heap.size 147 i0 _ 4 underlying202 hi hz0 hz1 hz2 rfl g (j+16) cap (a0L (b0m l (j+16))) (by rfl) (hownd.alloc _) ⟨wr.heap.size,0,none⟩ 1 1 (a0L [g0m 1 x2+x7+g0m 0 x15+x16]) (by rfl) rfl (d0m _ _ _) (d0J _) hd1 hd2 hd3 ?_;intro v3 w3 hown3 hg3 hk3;have hb3:Below w.heap.size w w3:=(hbd.alloc hbd.size _).grown hg3 hd3 (fun i hi=>by injection hi with hi;omega)
     refine hK.out _ _ (by exact⟨(hk3 _ (by omega)).trans ((World.cell?_alloc_lt _ _ _ hgl).trans c7),(hk3 _ (by omega)).trans ((World.cell?_alloc_lt _ _ _ hgl).trans c16)⟩) (fun hHeld=>?_)
     clear hK K
     try (rw[a0l];dsimp only[List.set])
     refine rt 18 3 hHeld ?_ (hy:=by intro w hS;obtain⟨s7,s16⟩:=hS;go_simp;try with_reducible rfl)
     refine wpAnyH_done (by kernel_rfl) ?_ _
     refine NoPanic.normal ?_
     clear c2 c7 c15 c16 w2 w7 w15 n14 m14 t14 n9 m9 t9 n1 m1 t1 m0 w0 hHeld hb hown hownd hbd
     go_wp2_with fail
     go_roundw
     case rel =>
      refine⟨j+1,by omega,by go_num,?_,hb3⟩
      rw[show j+1+16=j+16+1 by omega,b0m,HNX.out,g0N]
      exact hown3
     case measure=>simp[intOf];omega
    ·have e48:j=48:=by omega
     rw[e48] at hown
     have hl64:=b0D l 64
     generalize b0m l 64=ws at *
     go_wp2
     go_ret
     exact⟨_,rfl,by rw[hl64];exact hown,hb⟩
end Go.Proofs.YtcbilopdeiapjaaGreatDoor
namespace Go.Proofs.YtcbilopdeiapjaaGreatDoor
open Go.RowKit
@[go_sem] theorem f1v (a:BitVec 32):bits .xor .u32 (u a) 4294967295=u (~~~a):=by
 show IntKind.u32.wrap ((BitVec.ofInt 32 (u a) ^^^ BitVec.ofInt 32 4294967295).toNat:Int)=_
 rw[f0v,show BitVec.ofInt 32 4294967295=BitVec.allOnes 32 from by decide,BitVec.xor_allOnes];exact m0n _
theorem c1W {w:World} {b o c:Nat} {xs:List (BitVec 32)} (h:Sl w (some ⟨b,o,none⟩) c (a0L xs)) (i:Nat) (hi:i < xs.length):w.cell? ⟨b,o+i,none⟩=some (.int .u32 (u (xs.getD i 0#32))):=by
 obtain⟨b',o',he,_,hc⟩:=h.rd.get (i:=i) (by rw[a0z];exact hi)
 cases he
 rw[hc,f0d _ _ hi]
theorem w0p (x:BitVec 32):turn x 6 ^^^ turn x 11 ^^^ turn x 25=h0y 1 x:=by unfold h0y;rw[if_neg (by decide),if_pos rfl]
theorem w0o (x:BitVec 32):turn x 2 ^^^ turn x 13 ^^^ turn x 22=h0y 0 x:=by unfold h0y;rw[if_pos rfl]
theorem n0f (b1 o1 c1' b2 o2 c2':Nat) (s:St) (l:List UInt8) (hl:l.length=64) (w:World) (hs1:Sl w (some ⟨b1,o1,none⟩) c1' (a0L s.list)) (hs2:Sl w (some ⟨b2,o2,none⟩) c2' (byts l)) :
  Calls prog 157 #[.slice (some ⟨b1,o1,none⟩) 8 c1',.slice (some ⟨b2,o2,none⟩) 64 c2'] w (j0P (h0i l s).list w):=by
 obtain⟨i0,hi,hz0,hz1,hz2⟩:=info_parts r0C
 obtain⟨ws,hws⟩:∃ws,ws=b0m l 64:=⟨_,rfl⟩
 have hlen:ws.length=64:=by rw[hws,b0D]
 have HWS:=f1D hws
 clear hws
 have hl8:=f1D (show 8=(a0L s.list).length by rw[a0z];rfl)
 have hm8:0+8≤maxLen:=by unfold maxLen;omega
 go_enter func157,ntmps157
 go_wp2_with (first
  | (go_at_call 213;refine (n0k b2 o2 c2' l hl _ hs2).mono ?_;rintro e w1 ⟨v1,rfl,hown1,hb1⟩;rw[←HWS.out,hlen] at hown1;obtain⟨g1,cap1,rfl,_,hgl1⟩:=hown1.form (by omega))
  | (go_at_call 214;refine (q0S _).mono ?_;rintro e w2 ⟨rfl,hp2,hb2⟩;have hb2':=a0a hb1 hb2;have hown2:(w2.alloc (.cells #[] 147)).ownsRow w.heap.size 147 1 (.slice (some ⟨w2.heap.size,0,none⟩) 0 0) 0 []:=World.ownsRow_lit w2 #[] 0 hb2'.size (by unfold maxLen;omega) rfl;have hsl2:=(hs1.later (f1F _) hb2').later (f1F _) ((Below.refl _ w2).alloc (f1F _) (.cells #[] 147));have hb2a:=hb2'.alloc hb2'.size (.cells #[] 147))
  | (at_builtin;refine a0j rfl (.tmp 19) (.tmp 20) 202 rfl w.heap.size 147 i0 _ 4 underlying202 hi hz0 hz1 hz2 rfl _ 0 [] rfl hown2 (some ⟨b1,o1,none⟩) 8 c1' (a0L s.list) rfl hl8.out hsl2 (d0J _) hm8 (by omega) hb2a.size ?_;intro v3 w3 hown3 hg3;have hb3:Below w.heap.size w w3:=hb2a.grown hg3 hb2a.size (fun k hk=>(hown2.lt k hk).1)))
 have hb23:Below w2.heap.size w2 w3:=((Below.refl _ w2).alloc (f1F _) _).grown hg3 (by rw[World.size_alloc];omega) (fun k hk=>by have hk':some w2.heap.size=some k:=hk;injection hk' with hk';omega)
 have hb13:=a0a hb2 hb23
 have hown1':=a0D hown1 hb13 (f1F _)
 have hp3:=hp2.later hb23 hp2.lt
 have hg13:g1 < w3.heap.size:=Nat.lt_of_lt_of_le hgl1 hb13.size
 have hp3l:=hp3.lt
 simp only[Nat.zero_add,List.nil_append] at hown3
 clear hown1 hb1 hb2 hb2' hown2 hsl2 hb2a hg3 hb23 hb13 hp2 hgl1
 go_loopw [7,8] (fun v i wr=>∃k:Nat,k≤64∧i=.int .i64 k∧wr.ownsRow w.heap.size 147 1 v 8 (a0L (d0r ws s k).list)∧Below w3.heap.size w3 wr) (fun _ i _=>64 - (intOf i).toNat)
 case atStart=>exact⟨0,by omega,rfl,hown3,Below.refl _ _⟩
 case round =>
  clear hown3
  obtain⟨k,hk,rfl,hown,hb⟩:=hrel
  by_cases hlt:k < 64
  ·obtain⟨g',cap',rfl,_,hgl⟩:=hown.form (by omega)
   have HR:=f1D (show d0r ws s (k+1)=s0i (d0r ws s k) (i0d k) (ws.getD k 0#32) from rfl)
   go_wp2_with fail
   have cw:wr.cell? ⟨g1,k,none⟩=some (.int .u32 (u (ws.getD k 0#32))):=by rw[hb.cell (p:=⟨g1,k,none⟩) hg13];exact c0w hown1' k (by omega)
   have cp:wr.cell? ⟨w1.heap.size,k,none⟩=some (.int .u32 (u (i0d k))):=by rw[s0t k hlt];exact (hp3.later hb hp3l).cube k hlt
   generalize ws.getD k 0#32=x at *
   generalize d0r ws s k=st at *
   obtain⟨a,b,c,d,e,f,g,h⟩:=st
   have n0:(0:Int)≤(k:Int):=by omega
   have m64:(k:Int) < 64:=by omega
   have c0:wr.cell? ⟨g',0,none⟩=some (.int .u32 (u a)):=c0w hown 0 (by show 0 < 8;omega)
   have c1:wr.cell? ⟨g',1,none⟩=some (.int .u32 (u b)):=c0w hown 1 (by show 1 < 8;omega)
   have c2:wr.cell? ⟨g',2,none⟩=some (.int .u32 (u c)):=c0w hown 2 (by show 2 < 8;omega)
   have c3:wr.cell? ⟨g',3,none⟩=some (.int .u32 (u d)):=c0w hown 3 (by show 3 < 8;omega)
   have c4:wr.cell? ⟨g',4,none⟩=some (.int .u32 (u e)):=c0w hown 4 (by show 4 < 8;omega)
   have c5:wr.cell? ⟨g',5,none⟩=some (.int .u32 (u f)):=c0w hown 5 (by show 5 < 8;omega)
   have c6:wr.cell? ⟨g',6,none⟩=some (.int .u32 (u g)):=c0w hown 6 (by show 6 < 8;omega)
   have c7:wr.cell? ⟨g',7,none⟩=some (.int .u32 (u h)):=c0w hown 7 (by show 7 < 8;omega)
   refine wp_region_noPanic ?_
   refine wp_region_held_drew (S:=fun w'=>w'=wr.drew) (by kernel_rfl) (rfl) (fun hHeld=>?_)
   refine rt 0 26 rfl ?_ (hy:=by intro w hS;subst hS;go_simp;try with_reducible rfl)
   refine rt 1 27 rfl ?_ (hy:=by intro w hS;subst hS;go_simp;try with_reducible rfl)
   refine rt 2 28 rfl ?_ (hy:=by intro w hS;subst hS;go_simp;try with_reducible rfl)
   refine rt 4 30 rfl ?_ (hy:=by intro w hS;subst hS;go_simp;try with_reducible rfl)
   refine rt 5 31 rfl ?_ (hy:=by intro w hS;subst hS;go_simp;try with_reducible rfl)
   refine rt 6 32 rfl ?_ (hy:=by intro w hS;subst hS;go_simp;try with_reducible rfl)
   refine rt 9 35 rfl ?_ (hy:=by intro w hS;subst hS;go_simp;try with_reducible rfl)
   refine rt 10 36 rfl ?_ (hy:=by intro w hS;subst hS;go_simp;try with_reducible rfl)
   refine rt 11 37 rfl ?_ (hy:=by intro w hS;subst hS;go_simp;try with_reducible rfl)
   refine rc1 3 fun K hK=>?_
   go_simp
   refine (c0B _ 6 _ (by decide) (by decide)).mono ?_;rintro e' w' ⟨rfl,rfl⟩
   try go_wp2_with fail
   refine hK.out _ _ rfl (fun _=>?_)
   clear hK K
   try (rw[a0l];dsimp only[List.set])
   refine rc1 7 fun K hK=>?_
   go_simp
   refine (c0B _ 11 _ (by decide) (by decide)).mono ?_;rintro e' w' ⟨rfl,rfl⟩
   try go_wp2_with fail
   refine hK.out _ _ rfl (fun _=>?_)
   clear hK K
   try (rw[a0l];dsimp only[List.set])
   refine rt 8 34 rfl ?_ (hy:=by intro w hS;subst hS;go_simp;try with_reducible rfl)
   refine rc1 12 fun K hK=>?_
   go_simp
   refine (c0B _ 25 _ (by decide) (by decide)).mono ?_;rintro e' w' ⟨rfl,rfl⟩
   try go_wp2_with fail
   refine hK.out _ _ rfl (fun _=>?_)
   clear hK K
   try (rw[a0l];dsimp only[List.set])
   refine rt 13 39 rfl ?_ (hy:=by intro w hS;subst hS;go_simp;try with_reducible rfl)
   refine rt 14 9 rfl ?_ (hy:=by intro w hS;subst hS;go_simp;try with_reducible rfl)
   refine wpAnyH_done (by kernel_rfl) ?_ _
   refine NoPanic.normal ?_
   rw[w0p]
   generalize hgr:h0y 1 e=tg
   go_wp2_with fail
   refine wp_region_noPanic ?_
   refine wp_region_held_drew (S:=fun w'=>w'=wr.drew.drew) (by kernel_rfl) (rfl) (fun hHeld=>?_)
   refine rt 0 40 rfl ?_ (hy:=by intro w hS;subst hS;go_simp;try with_reducible rfl)
   refine rt 1 41 rfl ?_ (hy:=by intro w hS;subst hS;go_simp;try with_reducible rfl)
   refine rt 2 42 rfl ?_ (hy:=by intro w hS;subst hS;go_simp;try with_reducible rfl)
   refine rt 3 43 rfl ?_ (hy:=by intro w hS;subst hS;go_simp;try with_reducible rfl)
   refine rt 4 44 rfl ?_ (hy:=by intro w hS;subst hS;go_simp;try with_reducible rfl)
   refine rt 5 45 rfl ?_ (hy:=by intro w hS;subst hS;go_simp;try with_reducible rfl)
   refine rt 6 46 rfl ?_ (hy:=by intro w hS;subst hS;go_simp;try with_reducible rfl)
   refine rt 7 47 rfl ?_ (hy:=by intro w hS;subst hS;go_simp;try with_reducible rfl)
   refine rt 8 48 rfl ?_ (hy:=by intro w hS;subst hS;go_simp;try with_reducible rfl)
   refine rt 9 49 rfl ?_ (hy:=by intro w hS;subst hS;go_simp;try with_reducible rfl)
   refine rt 10 50 rfl ?_ (hy:=by intro w hS;subst hS;go_simp;try with_reducible rfl)
   refine rt 11 51 rfl ?_ (hy:=by intro w hS;subst hS;go_simp;try with_reducible rfl)
   refine rt 12 52 rfl ?_ (hy:=by intro w hS;subst hS;go_simp;try with_reducible rfl)
   refine rt 13 53 rfl ?_ (hy:=by intro w hS;subst hS;go_simp;try with_reducible rfl)
   refine rt 14 54 rfl ?_ (hy:=by intro w hS;subst hS;go_simp;try with_reducible rfl)
   refine rt 15 55 rfl ?_ (hy:=by intro w hS;subst hS;go_simp;try with_reducible rfl)
   refine rt 16 10 rfl ?_ (hy:=by intro w hS;subst hS;go_simp;try with_reducible rfl)
   refine wpAnyH_done (by kernel_rfl) ?_ _
   refine NoPanic.normal ?_
   generalize hch:e &&& f ||| ~~~e &&& g=tc
   go_wp2_with fail
   refine wp_region_noPanic ?_
   refine wp_region_held_drew (S:=fun w'=>w'=wr.drew.drew.drew) (by kernel_rfl) (rfl) (fun hHeld=>?_)
   refine rt 0 56 rfl ?_ (hy:=by intro w hS;subst hS;go_simp;try with_reducible rfl)
   refine rt 1 57 rfl ?_ (hy:=by intro w hS;subst hS;go_simp;try with_reducible rfl)
   refine rt 2 58 rfl ?_ (hy:=by intro w hS;subst hS;go_simp;try with_reducible rfl)
   refine rt 3 59 rfl ?_ (hy:=by intro w hS;subst hS;go_simp;try with_reducible rfl)
   refine rt 4 60 rfl ?_ (hy:=by intro w hS;subst hS;go_simp;try with_reducible rfl)
   refine rt 5 61 rfl ?_ (hy:=by intro w hS;subst hS;go_simp;try with_reducible rfl)
   refine rt 6 62 rfl ?_ (hy:=by intro w hS;subst hS;go_simp;try with_reducible rfl)
   refine rt 7 63 rfl ?_ (hy:=by intro w hS;subst hS;go_simp;try with_reducible rfl)
   refine rt 8 64 rfl ?_ (hy:=by intro w hS;subst hS;go_simp;try with_reducible rfl)
   refine rt 9 65 rfl ?_ (hy:=by intro w hS;subst hS;go_simp;try with_reducible rfl)
   refine rt 10 66 rfl ?_ (hy:=by intro w hS;subst hS;go_simp;try with_reducible rfl)
   refine rt 11 67 rfl ?_ (hy:=by intro w hS;subst hS;go_simp;try with_reducible rfl)
   refine rt 12 68 rfl ?_ (hy:=by intro w hS;subst hS;go_simp;try with_reducible rfl)
   refine rt 13 69 rfl ?_ (hy:=by intro w hS;subst hS;go_simp;try with_reducible rfl)
   refine rt 14 70 rfl ?_ (hy:=by intro w hS;subst hS;go_simp;try with_reducible rfl)
   refine rt 15 71 rfl ?_ (hy:=by intro w hS;subst hS;go_simp;try with_reducible rfl)
   refine rt 16 72 rfl ?_ (hy:=by intro w hS;subst hS;go_simp;try with_reducible rfl)
   refine rt 17 11 rfl ?_ (hy:=by intro w hS;subst hS;go_simp;try with_reducible rfl)
   refine wpAnyH_done (by kernel_rfl) ?_ _
   refine NoPanic.normal ?_
   generalize ht1:h+tg+tc+i0d k+x=t1
   go_wp2_with fail
   refine wp_region_noPanic ?_
   refine wp_region_held_drew (S:=fun w'=>w'=wr.drew.drew.drew.drew) (by kernel_rfl) (rfl) (fun hHeld=>?_)
   refine rt 0 73 rfl ?_ (hy:=by intro w hS;subst hS;go_simp;try with_reducible rfl)
   refine rt 1 74 rfl ?_ (hy:=by intro w hS;subst hS;go_simp;try with_reducible rfl)
   refine rt 2 75 rfl ?_ (hy:=by intro w hS;subst hS;go_simp;try with_reducible rfl)
   refine rt 4 77 rfl ?_ (hy:=by intro w hS;subst hS;go_simp;try with_reducible rfl)
   refine rt 5 78 rfl ?_ (hy:=by intro w hS;subst hS;go_simp;try with_reducible rfl)
   refine rt 6 79 rfl ?_ (hy:=by intro w hS;subst hS;go_simp;try with_reducible rfl)
   refine rt 9 82 rfl ?_ (hy:=by intro w hS;subst hS;go_simp;try with_reducible rfl)
   refine rt 10 83 rfl ?_ (hy:=by intro w hS;subst hS;go_simp;try with_reducible rfl)
   refine rt 11 84 rfl ?_ (hy:=by intro w hS;subst hS;go_simp;try with_reducible rfl)
   refine rc1 3 fun K hK=>?_
   go_simp
   refine (c0B _ 2 _ (by decide) (by decide)).mono ?_;rintro e' w' ⟨rfl,rfl⟩
   try go_wp2_with fail
   refine hK.out _ _ rfl (fun _=>?_)
   clear hK K
   try (rw[a0l];dsimp only[List.set])
   refine rc1 7 fun K hK=>?_
   go_simp
   refine (c0B _ 13 _ (by decide) (by decide)).mono ?_;rintro e' w' ⟨rfl,rfl⟩
   try go_wp2_with fail
   refine hK.out _ _ rfl (fun _=>?_)
   clear hK K
   try (rw[a0l];dsimp only[List.set])
   refine rt 8 81 rfl ?_ (hy:=by intro w hS;subst hS;go_simp;try with_reducible rfl)
   refine rc1 12 fun K hK=>?_
   go_simp
   refine (c0B _ 22 _ (by decide) (by decide)).mono ?_;rintro e' w' ⟨rfl,rfl⟩
   try go_wp2_with fail
   refine hK.out _ _ rfl (fun _=>?_)
   clear hK K
   try (rw[a0l];dsimp only[List.set])
   refine rt 13 86 rfl ?_ (hy:=by intro w hS;subst hS;go_simp;try with_reducible rfl)
   refine rt 14 12 rfl ?_ (hy:=by intro w hS;subst hS;go_simp;try with_reducible rfl)
   refine wpAnyH_done (by kernel_rfl) ?_ _
   refine NoPanic.normal ?_
   rw[w0o]
   generalize hgr0:h0y 0 a=tg0
   go_wp2_with fail
   refine wp_region_noPanic ?_
   refine wp_region_held_drew (S:=fun w'=>w'=wr.drew.drew.drew.drew.drew) (by kernel_rfl) (rfl) (fun hHeld=>?_)
   refine rt 0 87 rfl ?_ (hy:=by intro w hS;subst hS;go_simp;try with_reducible rfl)
   refine rt 1 88 rfl ?_ (hy:=by intro w hS;subst hS;go_simp;try with_reducible rfl)
   refine rt 2 89 rfl ?_ (hy:=by intro w hS;subst hS;go_simp;try with_reducible rfl)
   refine rt 3 90 rfl ?_ (hy:=by intro w hS;subst hS;go_simp;try with_reducible rfl)
   refine rt 4 91 rfl ?_ (hy:=by intro w hS;subst hS;go_simp;try with_reducible rfl)
   refine rt 5 92 rfl ?_ (hy:=by intro w hS;subst hS;go_simp;try with_reducible rfl)
   refine rt 6 93 rfl ?_ (hy:=by intro w hS;subst hS;go_simp;try with_reducible rfl)
   refine rt 7 94 rfl ?_ (hy:=by intro w hS;subst hS;go_simp;try with_reducible rfl)
   refine rt 8 95 rfl ?_ (hy:=by intro w hS;subst hS;go_simp;try with_reducible rfl)
   refine rt 9 96 rfl ?_ (hy:=by intro w hS;subst hS;go_simp;try with_reducible rfl)
   refine rt 10 97 rfl ?_ (hy:=by intro w hS;subst hS;go_simp;try with_reducible rfl)
   refine rt 11 98 rfl ?_ (hy:=by intro w hS;subst hS;go_simp;try with_reducible rfl)
   refine rt 12 99 rfl ?_ (hy:=by intro w hS;subst hS;go_simp;try with_reducible rfl)
   refine rt 13 100 rfl ?_ (hy:=by intro w hS;subst hS;go_simp;try with_reducible rfl)
   refine rt 14 101 rfl ?_ (hy:=by intro w hS;subst hS;go_simp;try with_reducible rfl)
   refine rt 15 102 rfl ?_ (hy:=by intro w hS;subst hS;go_simp;try with_reducible rfl)
   refine rt 16 103 rfl ?_ (hy:=by intro w hS;subst hS;go_simp;try with_reducible rfl)
   refine rt 17 104 rfl ?_ (hy:=by intro w hS;subst hS;go_simp;try with_reducible rfl)
   refine rt 18 105 rfl ?_ (hy:=by intro w hS;subst hS;go_simp;try with_reducible rfl)
   refine rt 19 106 rfl ?_ (hy:=by intro w hS;subst hS;go_simp;try with_reducible rfl)
   refine rt 20 107 rfl ?_ (hy:=by intro w hS;subst hS;go_simp;try with_reducible rfl)
   refine rt 21 108 rfl ?_ (hy:=by intro w hS;subst hS;go_simp;try with_reducible rfl)
   refine rt 22 109 rfl ?_ (hy:=by intro w hS;subst hS;go_simp;try with_reducible rfl)
   refine rt 23 13 rfl ?_ (hy:=by intro w hS;subst hS;go_simp;try with_reducible rfl)
   refine wpAnyH_done (by kernel_rfl) ?_ _
   refine NoPanic.normal ?_
   generalize hmo:a &&& b ||| a &&& c ||| b &&& c=tm
   go_wp2_with fail
   refine wp_region_noPanic ?_
   refine wp_region_held_drew (S:=fun w'=>w'.cell? ⟨g',0,none⟩=some (.int .u32 (u a))∧w'.cell? ⟨g',1,none⟩=some (.int .u32 (u b))∧w'.cell? ⟨g',2,none⟩=some (.int .u32 (u c))∧w'.cell? ⟨g',3,none⟩=some (.int .u32 (u d))∧w'.cell? ⟨g',4,none⟩=some (.int .u32 (u e))∧w'.cell? ⟨g',5,none⟩=some (.int .u32 (u f))∧w'.cell? ⟨g',6,none⟩=some (.int .u32 (u g))) (by kernel_rfl) (⟨c0,c1,c2,c3,c4,c5,c6⟩) (fun hHeld=>?_)
   refine rt 0 113 hHeld ?_ (hy:=by intro w hS;obtain⟨s0,s1,s2,s3,s4,s5,s6⟩:=hS;go_simp;try with_reducible rfl)
   refine rt 1 114 hHeld ?_ (hy:=by intro w hS;obtain⟨s0,s1,s2,s3,s4,s5,s6⟩:=hS;go_simp;try with_reducible rfl)
   refine rt 2 115 hHeld ?_ (hy:=by intro w hS;obtain⟨s0,s1,s2,s3,s4,s5,s6⟩:=hS;go_simp;try with_reducible rfl)
   refine rt 3 116 hHeld ?_ (hy:=by intro w hS;obtain⟨s0,s1,s2,s3,s4,s5,s6⟩:=hS;go_simp;try with_reducible rfl)
   refine rt 4 117 hHeld ?_ (hy:=by intro w hS;obtain⟨s0,s1,s2,s3,s4,s5,s6⟩:=hS;go_simp;try with_reducible rfl)
   refine rt 5 118 hHeld ?_ (hy:=by intro w hS;obtain⟨s0,s1,s2,s3,s4,s5,s6⟩:=hS;go_simp;try with_reducible rfl)
   refine rt 6 119 hHeld ?_ (hy:=by intro w hS;obtain⟨s0,s1,s2,s3,s4,s5,s6⟩:=hS;go_simp;try with_reducible rfl)
   refine rt 7 120 hHeld ?_ (hy:=by intro w hS;obtain⟨s0,s1,s2,s3,s4,s5,s6⟩:=hS;go_simp;try with_reducible rfl)
   refine rt 8 121 hHeld ?_ (hy:=by intro w hS;obtain⟨s0,s1,s2,s3,s4,s5,s6⟩:=hS;go_simp;try with_reducible rfl)
   refine rt 9 122 hHeld ?_ (hy:=by intro w hS;obtain⟨s0,s1,s2,s3,s4,s5,s6⟩:=hS;go_simp;try with_reducible rfl)
   refine rt 10 123 hHeld ?_ (hy:=by intro w hS;obtain⟨s0,s1,s2,s3,s4,s5,s6⟩:=hS;go_simp;try with_reducible rfl)
   refine rt 11 124 hHeld ?_ (hy:=by intro w hS;obtain⟨s0,s1,s2,s3,s4,s5,s6⟩:=hS;go_simp;try with_reducible rfl)
   refine rt 12 125 hHeld ?_ (hy:=by intro w hS;obtain⟨s0,s1,s2,s3,s4,s5,s6⟩:=hS;go_simp;try with_reducible rfl)
   refine rt 13 126 hHeld ?_ (hy:=by intro w hS;obtain⟨s0,s1,s2,s3,s4,s5,s6⟩:=hS;go_simp;try with_reducible rfl)
   refine rt 14 127 hHeld ?_ (hy:=by intro w hS;obtain⟨s0,s1,s2,s3,s4,s5,s6⟩:=hS;go_simp;try with_reducible rfl)
   refine rt 15 128 hHeld ?_ (hy:=by intro w hS;obtain⟨s0,s1,s2,s3,s4,s5,s6⟩:=hS;go_simp;try with_reducible rfl)
   refine rt 16 129 hHeld ?_ (hy:=by intro w hS;obtain⟨s0,s1,s2,s3,s4,s5,s6⟩:=hS;go_simp;try with_reducible rfl)
   refine rt 17 130 hHeld ?_ (hy:=by intro w hS;obtain⟨s0,s1,s2,s3,s4,s5,s6⟩:=hS;go_simp;try with_reducible rfl)
   refine rt 18 131 hHeld ?_ (hy:=by intro w hS;obtain⟨s0,s1,s2,s3,s4,s5,s6⟩:=hS;go_simp;try with_reducible rfl)
   refine rt 19 132 hHeld ?_ (hy:=by intro w hS;obtain⟨s0,s1,s2,s3,s4,s5,s6⟩:=hS;go_simp;try with_reducible rfl)
   refine rt 20 133 hHeld ?_ (hy:=by intro w hS;obtain⟨s0,s1,s2,s3,s4,s5,s6⟩:=hS;go_simp;try with_reducible rfl)
   refine rt 21 134 hHeld ?_ (hy:=by intro w hS;obtain⟨s0,s1,s2,s3,s4,s5,s6⟩:=hS;go_simp;try with_reducible rfl)
   refine rt 22 135 hHeld ?_ (hy:=by intro w hS;obtain⟨s0,s1,s2,s3,s4,s5,s6⟩:=hS;go_simp;try with_reducible rfl)
   refine rt 23 136 hHeld ?_ (hy:=by intro w hS;obtain⟨s0,s1,s2,s3,s4,s5,s6⟩:=hS;go_simp;try with_reducible rfl)
   refine rt 24 137 hHeld ?_ (hy:=by intro w hS;obtain⟨s0,s1,s2,s3,s4,s5,s6⟩:=hS;go_simp;try with_reducible rfl)
   refine rt 25 138 hHeld ?_ (hy:=by intro w hS;obtain⟨s0,s1,s2,s3,s4,s5,s6⟩:=hS;go_simp;try with_reducible rfl)
   refine rc1 26 fun K hK=>?_
   go_simp
   refine hK.out _ _ (by exact⟨(World.cell?_alloc_lt _ _ _ hgl).trans c0,(World.cell?_alloc_lt _ _ _ hgl).trans c1,(World.cell?_alloc_lt _ _ _ hgl).trans c2,(World.cell?_alloc_lt _ _ _ hgl).trans c3,(World.cell?_alloc_lt _ _ _ hgl).trans c4,(World.cell?_alloc_lt _ _ _ hgl).trans c5,(World.cell?_alloc_lt _ _ _ hgl).trans c6⟩) (fun hHeld=>?_)
   clear hK K
   try (rw[a0l];dsimp only[List.set])
   refine rt 27 7 hHeld ?_ (hy:=by intro w hS;obtain⟨s0,s1,s2,s3,s4,s5,s6⟩:=hS;go_simp;try with_reducible rfl)
   refine wpAnyH_done (by kernel_rfl) ?_ _
   refine NoPanic.normal ?_
   have hbs:=hb.size
   have hbd:=(hb.alloc hbs (.cells #[Value.int .u32 (u (t1+(tg0+tm))),Value.int .u32 (u a),Value.int .u32 (u b),Value.int .u32 (u c),Value.int .u32 (u (d+t1)),Value.int .u32 (u e),Value.int .u32 (u f),Value.int .u32 (u g)] 147)).drew.drew.drew.drew.drew.drew
   have hs3:=hb3.size
   clear c0 c1 c2 c3 c4 c5 c6 c7 cw cp n0 m64 hHeld hb hown hgl
   go_wp2_with fail
   go_roundw
   case rel =>
    refine⟨k+1,by omega,by go_num,?_,hbd⟩
    rw[HR.out]
    have ho:=World.ownsRow_lit (base:=w.heap.size) (e:=147) (size:=1) wr #[Value.int .u32 (u (t1+(tg0+tm))),Value.int .u32 (u a),Value.int .u32 (u b),Value.int .u32 (u c),Value.int .u32 (u (d+t1)),Value.int .u32 (u e),Value.int .u32 (u f),Value.int .u32 (u g)] 8 (by omega) (by unfold maxLen;omega) rfl
    rw[←ht1,←hgr,←hch,←hgr0,←hmo] at ho ⊢
    exact ho
   case measure=>simp[intOf];omega
  ·have e64:k=64:=by omega
   rw[e64] at hown
   generalize hst:d0r ws s 64=st at *
   have HST:=f1D hst
   clear hst e64 hown1' hp3 hg13 hp3l
   obtain⟨g',cap',rfl,hgb,hgl⟩:=hown.form (by omega)
   go_wp2_with fail
   have hA8:(addS st s).list.length=8:=rfl
   have hB8:st.list.length=8:=rfl
   have hbw:=hb3.trans (hb.mono hb3.size)
   have hb1w:=f1p hs1 (by rw[←hl8.out];omega)
   have hne:(⟨g',0,none⟩:Addr).block≠b1:=by show g'≠b1;omega
   rw[show a0L st.list=a0L (mixL (addS st s).list st.list 0) from rfl] at hown
   clear hb hb3 hgl
   go_loopw [142] (fun i wr=>∃k:Nat,k≤8∧i=.int .i64 k∧wr.ownsRow w.heap.size 147 1 (.slice (some ⟨g',0,none⟩) 8 cap') 8 (a0L (mixL (addS st s).list st.list k))∧Below w.heap.size w wr) (fun i _=>8 - (intOf i).toNat)
   case atStart=>exact⟨0,by omega,rfl,hown,hbw⟩
   case round =>
    clear hown hbw
    obtain⟨i,hi8,rfl,hown,hb⟩:=hrel
    by_cases hlt8:i < 8
    ·go_wp2_with fail
     have c1:=c0w hown i (by rw[k0s _ _ _ hA8 hB8];exact hlt8)
     rw[r0G _ _ _ hA8 hB8 hlt8] at c1
     have c2:=c1W (hs1.later (f1F _) hb.drew) i (by have h:=hl8.out;rw[a0z] at h;omega)
     have hsum:=r0l st s i hlt8
     have hset:=r0H (addS st s).list st.list i hA8 hB8 hlt8
     obtain⟨ys,hrow⟩:=Row.of_own hown
     have hf:=hrow.free i
     generalize st.list.getD i 0#32=y at *
     generalize s.list.getD i 0#32=z at *
     have n0:(0:Int)≤(i:Int):=by omega
     have n8:(i:Int) < 8:=by omega
     clear hrow
     refine wp_region_noPanic ?_
     refine wp_region_held_drew (S:=fun w'=>w'.cell? ⟨b1,o1+i,none⟩=some (.int .u32 (u z))) (by kernel_rfl) (c2) (fun hHeld=>?_)
     refine rt 0 145 hHeld ?_
     refine rt 1 146 hHeld ?_
     refine rt 2 147 hHeld ?_
     refine rt 3 148 hHeld ?_
     refine rt 4 149 hHeld ?_
     refine rt 6 151 hHeld ?_
     refine rt 7 152 hHeld ?_
     refine rt 8 153 hHeld ?_
     refine rt 9 154 hHeld ?_
     refine rc1 5 fun K hK=>?_
     go_simp
     refine hK.out _ _ (hHeld) (fun hHeld=>?_)
     clear hK K
     try (rw[a0l];dsimp only[List.set])
     refine rt 10 155 hHeld ?_
     refine rt 11 156 hHeld ?_
     refine rc1 12 fun K hK=>?_
     go_simp
     refine hK.out _ _ (by exact (World.cell?_setCell_far _ _ _ _ hne).trans c2) (fun _=>?_)
     clear hK K
     try (rw[a0l];dsimp only[List.set])
     refine wpAnyH_done (by kernel_rfl) ?_ _
     refine NoPanic.normal ?_
     have hos:=(x0c hown i (.int .u32 (u (y+z)))).drew
     rw[←hsum,hset,hsum] at hos
     have hbs:=(hb.setCell (p:=⟨g',i,none⟩) (by show w.heap.size≤g';exact hgb) (.int .u32 (u (y+z)))).drew
     clear c1 c2 hf n0 n8 hset hown hb
     go_wp2_with fail
     go_roundw
     case rel=>exact⟨i+1,by omega,by go_num,hos,hbs⟩
     case measure=>simp[intOf];omega
    ·have e8:i=8:=by omega
     rw[e8] at hown
     have hz:mixL (addS st s).list st.list 8=(addS st s).list:=rfl
     have hcomp:h0i l s=addS (d0r ws s 64) s:=by unfold h0i;rw[HWS.out]
     rw[HST.out] at hcomp
     rw[hz,←hcomp] at hown
     have hl9:(h0i l s).list.length=8:=rfl
     generalize (h0i l s).list=cs at *
     go_wp2
     go_ret
     exact⟨_,rfl,by rw[hl9];exact hown,hb⟩
end Go.Proofs.YtcbilopdeiapjaaGreatDoor
namespace Go.Proofs.YtcbilopdeiapjaaGreatDoor
open Go Go.RowKit
theorem q0T (w:World) :
  Calls prog 156 #[] w (j0P S0.list w):=by
 go_enter func156,ntmps156
 go_wp2
 go_ret
 exact⟨_,rfl,World.ownsRow_lit w #[_,_,_,_,_,_,_,_] 8 (f1F _) (by unfold maxLen;omega) rfl,(Below.refl _ _).alloc (f1F _) _⟩
theorem q0P (A:Option Addr) (n c:Nat) (l:List UInt8) (w:World) (hs:Sl w A c (byts l)) (hn:n=l.length) (hm:l.length≤35184372088832) :
  Calls prog 111 #[.slice A n c] w (a0H (shaL l) w):=by
 subst hn
 obtain⟨i0,hi,hz0,hz1,hz2⟩:=info_parts infoByte
 have hm0:0+l.length≤maxLen:=by unfold maxLen;omega
 have hmb:(0+l.length)*1≤140737488355328:=by omega
 have hpl:=h0A l.length
 have hpn:=g0Z l.length
 have hm1:0+l.length+(padL l.length).length≤maxLen:=by unfold maxLen;omega
 have hmc:(0+l.length+(padL l.length).length)*1≤140737488355328:=by omega
 have hpm:=l0R l
 have hwl:IntKind.u64.wrap (l.length:Int)=(l.length:Int):=by rw[IntKind.wrap_u64];omega
 have hown0:(w.alloc (.cells #[] 5)).ownsRow w.heap.size 5 1 (.slice (some ⟨w.heap.size,0,none⟩) 0 0) 0 []:=World.ownsRow_lit w #[] 0 (f1F _) (by unfold maxLen;omega) rfl
 have hb0:Below w.heap.size w (w.alloc (.cells #[] 5)):=(Below.refl _ _).alloc (f1F _) _
 obtain⟨M,hM⟩:∃M,M=l++padL l.length:=⟨_,rfl⟩
 have hMl:M.length=l.length+(padL l.length).length:=by rw[hM,List.length_append]
 have HM:=f1D hM
 have HML:=f1D hMl
 have HPM:=f1D hpm
 have HPL:=f1D hpl
 clear hM hMl hpm hpl
 go_enter func111,ntmps111
 go_wp2_with (first
  | (at_builtin;refine a0j rfl (.tmp 9) (.tmp 10) 61 rfl w.heap.size 5 i0 _ 1 underlying61 hi hz0 hz1 hz2 rfl _ 0 [] rfl hown0 A l.length c (byts l) rfl (a0b l).symm (hs.later (f1F _) hb0) (a0o l) hm0 hmb hb0.size ?_;intro v1 w1 hown1 hg1;have hb1:Below w.heap.size w w1:=hb0.grown hg1 hb0.size (fun k hk=>(hown0.lt k hk).1))
  | (go_at_call 155;refine (a1J l.length _).mono ?_;rintro e w2 ⟨v2,rfl,hown2,hb2⟩;obtain⟨A2,c2,rfl,hl2,hsl2⟩:=Sl.of_own hown2;have hown1':=a0D hown1 hb2 (f1F _);have hbB:=hb1.trans (hb2.mono hb1.size))
  | (at_builtin;refine a0j rfl (.tmp 11) (.tmp 15) 61 rfl w.heap.size 5 i0 _ 1 underlying61 hi hz0 hz1 hz2 rfl _ (0+l.length) ([]++byts l) rfl hown1' A2 (padL l.length).length c2 (byts (padL l.length)) rfl (a0b _).symm hsl2 (a0o _) hm1 hmc hbB.size ?_;intro v3 w3 hown3 hg3;have hb3:Below w.heap.size w w3:=hbB.grown hg3 hbB.size (fun k hk=>(hown1'.lt k hk).1))
  | (go_at_call 156;refine (q0T _).mono ?_;rintro e w4 ⟨v4,rfl,hown4,hb4⟩))
 have hM0:0 < M.length:=by rw[HML.out,HPL.out];omega
 have hM64:M.length%64=0:=by rw[HML.out];exact HPM.out
 have e0:0+l.length+(padL l.length).length=M.length:=by rw[HML.out];omega
 have eM:[]++byts l++byts (padL l.length)=byts M:=by rw[HM.out,a0h,List.nil_append]
 rw[e0,eM] at hown3
 have hl8:S0.list.length=8:=rfl
 rw[hl8] at hown4
 obtain⟨g3,cap3,rfl,_,hgl3⟩:=hown3.form hM0
 obtain⟨A3,c3,he3,_,hsl3⟩:=Sl.of_own hown3
 cases he3
 have hsl4:=hsl3.later (f1F _) hb4
 have hb4':=hb3.trans (hb4.mono hb3.size)
 have hroom:=hsl4.room
 rw[a0b] at hroom
 have hMm:M.length≤140737488355328:=by rw[HML.out];omega
 clear hown0 hb0 hown1 hg1 hb1 hb2 hown2 hl2 hsl2 hown1' hbB hg3 hown3 hsl3 e0 eM hl8 hwl
 go_loopw [4,5] (fun v i wr=>∃k:Nat,64*k≤M.length∧i=.int .i64 ((64*k:Nat):Int)∧wr.ownsRow w3.heap.size 147 1 v 8 (a0L (stK M k).list)∧Below w4.heap.size w4 wr) (fun _ i _=>M.length - (intOf i).toNat)
 case atStart=>exact⟨0,by omega,rfl,hown4,Below.refl _ _⟩
 case round =>
  clear hown4
  obtain⟨k,hk,rfl,hown,hb⟩:=hrel
  by_cases hlt:64*k < M.length
  ·have hk1:64*k+64≤M.length:=by omega
   obtain⟨g5,cap5,rfl,hg5,hgl5⟩:=hown.form (by omega)
   obtain⟨A5,c5,he5,_,hsl5⟩:=Sl.of_own hown
   cases he5
   have hsl6:=hsl4.later (f1F _) hb
   have hsl7:=hsl6.cut (k:=64*k) (by rw[a0b];omega)
   rw[v0o,Nat.zero_add] at hsl7
   have hsl8:=hsl7.pre
   have hbl:=f1D (o0y M k (by omega))
   have HST:=f1D (show stK M (k+1)=h0i (j0X M k) (stK M k) from rfl)
   generalize j0X M k=B at *
   generalize stK M k=st at *
   obtain⟨p,hp⟩:∃p,p=64*k:=⟨_,rfl⟩
   rw[←hp] at hlt hk1 hsl8 ⊢
   have hI0:IntKind.i64.wrap ((p:Int)+64)=(p:Int)+64:=by rw[IntKind.wrap_i64];omega
   have hI1:(p:Int)+64≤(cap3:Int):=by omega
   have hI2:¬(cap3=p):=by omega
   have hI3:(p:Int) < (M.length:Int):=by omega
   have HPk:=f1D hp
   clear hp hsl6 hsl7 hk
   have hI4:p+64 - p=64:=by omega
   have hle:w3.heap.size≤wr.heap.size:=Nat.le_trans hb4.size hb.size
   go_wp2_with (go_at_call 157;refine (n0f g5 0 cap5 g3 p (cap3 - p) st B hbl.out _ hsl5 hsl8).mono ?_;rintro e w6 ⟨v6,rfl,hown6,hb6⟩)
   have hown6':w6.ownsRow w3.heap.size 147 1 v6 8 (a0L (h0i B st).list):=a0N hown6 hle
   have hb6':=a0a hb hb6
   clear hI0 hI1 hI2 hI4 hsl8 hsl5 hown6 hb6 hown hb
   go_roundw
   case rel =>
    refine⟨k+1,by have:=HPk.out;omega,?_,by rw[HST.out];exact hown6',hb6'⟩
    rw[show 64*(k+1)=p+64 by rw[HPk.out];omega]
    go_num
   case measure=>simp[intOf];omega
  ·have ek:k=M.length/64:=by omega
   have hst:(stK M k).list=(shaS l).list:=by rw[ek,HML.out,HM.out];rfl
   rw[hst] at hown
   have hge:¬(((64*k:Nat):Int) < (M.length:Int)):=by omega
   obtain⟨p,hp⟩:∃p,p=64*k:=⟨_,rfl⟩
   rw[←hp] at hge ⊢
   obtain⟨ws,hws⟩:∃ws,ws=(shaS l).list:=⟨_,rfl⟩
   have hwsl:ws.length=8:=by rw[hws];rfl
   rw[←hws] at hown
   have HWS:=f1D hws
   have HWL:=f1D hwsl
   obtain⟨g5,cap5,rfl,hg5,hgl5⟩:=hown.form (by omega)
   have hb5:=hb4'.trans (hb.mono hb4'.size)
   clear hb
   obtain⟨wo,rfl⟩:∃wo:World,wo=wr:=⟨_,rfl⟩
   have hownB:(wo.alloc (.cells #[] 5)).ownsRow wo.heap.size 5 1 (.slice (some ⟨wo.heap.size,0,none⟩) 0 0) 0 (byts (f0M (ws.take 0))):=World.ownsRow_lit wo #[] 0 (f1F _) (by unfold maxLen;omega) rfl
   have hbC:Below wo.heap.size wo (wo.alloc (.cells #[] 5)):=(Below.refl _ wo).alloc (f1F _) (.cells #[] 5)
   clear hst hp hws hwsl ek
   go_wp2_with fail
   go_loopw [6,34] (fun v i wq=>∃j:Nat,j≤8∧i=.int .i64 j∧wq.ownsRow wo.heap.size 5 1 v (4*j) (byts (f0M (ws.take j)))∧Below wo.heap.size wo wq) (fun _ i _=>8 - (intOf i).toNat)
   case atStart=>exact⟨0,by omega,rfl,hownB,hbC⟩
   case round =>
    clear hownB hbC
    obtain⟨j,hj,rfl,howno,hb⟩:=hrel
    by_cases hlt8:j < 8
    ·have cj:=c0w (a0D hown hb (f1F _)) j (by rw[HWL.out];exact hlt8)
     have HS:=f1D (l0i ws j (by rw[HWL.out];exact hlt8))
     generalize ws.getD j 0#32=x at *
     have n1:4*j+4≤maxLen:=by unfold maxLen;omega
     have n2:(4*j+4)*1≤140737488355328:=by omega
     go_wp2_with (first
      | (go_at_call 158;refine (u0a x _).mono ?_;rintro e w7 ⟨v7,rfl,hown7,hb7⟩;obtain⟨A7,c7,rfl,_,hsl9⟩:=Sl.of_own hown7;have howno':=a0D howno hb7 (f1F _);have hbD:=a0a hb hb7)
      | (at_builtin;refine a0j rfl (.tmp 38) (.tmp 40) 61 rfl wo.heap.size 5 i0 _ 1 underlying61 hi hz0 hz1 hz2 rfl _ (4*j) (byts (f0M (ws.take j))) rfl howno' A7 (b0U x).length c7 (byts (b0U x)) rfl (a0b _).symm hsl9 (a0o _) n1 n2 hbD.size ?_;intro v8 w8 hown8 hg8;have hb8:Below wo.heap.size wo w8:=hbD.grown hg8 hbD.size (fun k hk=>(howno'.lt k hk).1)))
     clear hg8 howno' hbD hown7 hb7 hsl9 howno hb cj
     rw[←a0h,←HS.out] at hown8
     go_roundw
     case rel=>exact⟨j+1,by omega,by go_num,hown8,hb8⟩
     case measure=>simp[intOf];omega
    ·have e8:j=8:=by omega
     rw[e8,List.take_of_length_le (by rw[HWL.out];exact f1F _),HWS.out] at howno
     go_wp2
     go_ret
     exact⟨_,rfl,a0N howno hb5.size,hb5.trans (hb.mono hb5.size)⟩
end Go.Proofs.YtcbilopdeiapjaaGreatDoor
