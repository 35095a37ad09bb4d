import Derived.Test.YtimdhdimhboboaaGreatDoorRbah
import Derived.Test.YtimdhdimhboboaaGreatDoorRbam
import Derived.Test.YtimdhdimhboboaaGreatDoorRbak
import Derived.Test.YtimdhdimhboboaaGreatDoorRbal
import Derived.Test.YtimdhdimhboboaaGreatDoorRbab
namespace Go.Proofs.YtimdhdimhboboaaGreatDoor
set_option maxRecDepth 100000
open Go Go.RowKit
theorem y0U (w:World):(binOp BinOp.eql 25 (.slice none 0 0) (.slice none 0 0)).run Tryz.prog w=.ok (.bool true) w:=by kernel_rfl
theorem w0h {w:World} {b b' t k n:Nat} {v:Value} {xs:List Value} (h:w.ownsRow b t k v n xs) (hb:b'≤b):w.ownsRow b' t k v n xs:=by
 obtain⟨hl,h | ⟨g,cap,cur,rfl,hg,h⟩⟩:=h
 ·exact⟨hl,.inl h⟩
 ·exact⟨hl,.inr ⟨g,cap,cur,rfl,Nat.le_trans hb hg,h⟩⟩
theorem y0V (ad:Addr) (n c:Nat) (w:World):(binOp BinOp.eql 25 (.slice (some ad) n c) (.slice none 0 0)).run Tryz.prog w=.ok (.bool false) w:=by kernel_rfl
set_option maxRecDepth 100000 in
set_option maxHeartbeats 2000000 in
theorem p0O (cs:List Cav) (hm:cs.length≤1000000) (A:Option Addr) (c:Nat) (w:World) (hs:Sl w A (c*5) (cs.flatMap cavV)) :
  Calls Tryz.prog 45 #[.slice A cs.length c] w fun e w'=>∃B d,e=.returned (.slice B cs.length d)∧w'.ownsRow w.heap.size 29 5 (.slice B cs.length d) cs.length (cs.flatMap cavV)∧Below w.heap.size w w':=by
 cases A with
 | none =>
  have h0:cs.length=0:=by
   have h1:=hs.bare rfl
   have h2:=hs.room
   rw[b0d] at h2
   omega
  have hc:c=0:=by
   have h1:=hs.bare rfl
   omega
  obtain rfl:cs=[]:=List.eq_nil_of_length_eq_zero h0
  subst hc
  clear h0
  have hnil:=y0U
  go_enter Tryz.func45,Tryz.ntmps45
  go_wp2
  go_ret
  exact⟨none,0,rfl,World.ownsRow_nil w _ _ _,Below.refl _ _⟩
 | some ad =>
  obtain⟨i0,hi,hz0,hz1,hz2⟩:=m0g
  have HF:=Lib.hid (b0d cs)
  have hone:=Lib.hid (f0g cs)
  have n1:0+cs.length≤maxLen:=by unfold maxLen;omega
  have n2:(0+cs.length)*64≤140737488355328:=by omega
  have hb1:=(Below.refl w.heap.size w).alloc (Nat.le_refl _) (.cells #[] 29)
  have hs1:=hs.later (Nat.le_refl _) hb1
  have hown1:(w.alloc (.cells #[] 29)).ownsRow w.heap.size 29 5 (.slice (some ⟨w.heap.size,0,none⟩) 0 0) 0 []:=World.ownsRow_lit w _ 0 (Nat.le_refl _) (by decide) rfl
  generalize hw1:w.alloc (.cells #[] 29)=w1 at hb1 hs1 hown1
  have HW:=Lib.hid hw1
  clear hw1 hs
  generalize cs.length=n at *
  have hnil:=y0V ad n c
  go_enter Tryz.func45,Tryz.ntmps45
  go_wp2_with (at_builtin;rw[HW.out];refine g0z rfl (.tmp 5) (.tmp 6) 25 rfl w.heap.size 29 i0 _ 5 64 Tryz.underlying25 hi hz0 hz1 (by omega) hz2 rfl _ 0 [] rfl hown1 (some ad) n c (cs.flatMap cavV) rfl HF.out hs1 hone.out n1 n2 hb1.size ?_;intro v7 w7 hown7 hg7;have hb7:=hb1.grown hg7 hb1.size (fun k hk=>(hown1.lt k hk).1))
  rw[List.nil_append,Nat.zero_add] at hown7
  obtain⟨A7,c7,rfl,_,_⟩:=Sl.of_ownk hown7
  replace hown7:=Lib.hid hown7
  go_ret
  exact⟨A7,c7,rfl,hown7.out,hb7⟩
set_option maxRecDepth 100000 in
set_option maxHeartbeats 2000000 in
theorem s0Y (t:Tok) (ht:t.Ok) (hm:t.cavs.length≤1000000) (A:Option Addr) (c:Nat) (w:World) (hs:Sl w A (c*5) (t.cavs.flatMap cavV)) :
  Calls Tryz.prog 29 #[.agg (tokV t A c).toArray] w fun e w'=>∃B d,e=.returned (.agg (tokV t B d).toArray)∧w'.ownsRow w.heap.size 29 5 (.slice B t.cavs.length d) t.cavs.length (t.cavs.flatMap cavV)∧Below w.heap.size w w':=by
 have hck:=Lib.hid (fun w1 h=>p0O t.cavs hm A c w1 h)
 have hg:=g0Q t A c
 have hVs:=Lib.hid (fun B d=>show (tokV t A c).set 2 (.slice B t.cavs.length d)=tokV t B d from rfl)
 have hlen:=Lib.hid (fun B d=>a0u ht B d)
 have hone:=Lib.hid (fun B d=>a0Y (b0W t B d))
 obtain⟨V,hV⟩:∃V,V=tokV t A c:=⟨_,rfl⟩
 rw[←hV] at hg hVs ⊢
 clear hV
 have c2:((w.alloc (.cells V.toArray 27)).alloc (.cells [Value.int .u64 0,.string { data:=#[] },.slice none 0 0,.bool false,.int .u8 0,.int .u8 0,.int .u8 0,.int .u8 0,.int .u8 0,.int .u8 0,.int .u8 0,.int .u8 0,.int .u8 0,.int .u8 0,.int .u8 0,.int .u8 0,.int .u8 0,.int .u8 0,.int .u8 0,.int .u8 0,.int .u8 0,.int .u8 0,.int .u8 0,.int .u8 0,.int .u8 0,.int .u8 0,.int .u8 0,.int .u8 0,.int .u8 0,.int .u8 0,.int .u8 0,.int .u8 0,.int .u8 0,.int .u8 0,.int .u8 0,.int .u8 0].toArray 27)).cell? ⟨w.heap.size,2,none⟩=some (.slice A t.cavs.length c):=by rw[(f0W (w:=w) (A:=V) (B:=[Value.int .u64 0,.string { data:=#[] },.slice none 0 0,.bool false,.int .u8 0,.int .u8 0,.int .u8 0,.int .u8 0,.int .u8 0,.int .u8 0,.int .u8 0,.int .u8 0,.int .u8 0,.int .u8 0,.int .u8 0,.int .u8 0,.int .u8 0,.int .u8 0,.int .u8 0,.int .u8 0,.int .u8 0,.int .u8 0,.int .u8 0,.int .u8 0,.int .u8 0,.int .u8 0,.int .u8 0,.int .u8 0,.int .u8 0,.int .u8 0,.int .u8 0,.int .u8 0,.int .u8 0,.int .u8 0,.int .u8 0,.int .u8 0]) (tA:=27) (tB:=27) rfl).1.cell];exact hg.2.2.1
 go_enter Tryz.func29,Tryz.ntmps29
 go_wp2_with fail
 generalize hw2:World.alloc (World.alloc w _) _=w2 at c2 ⊢
 obtain⟨r0,r1,hb1,hsz⟩:=f0W (A:=V) (B:=[Value.int .u64 0,.string { data:=#[] },.slice none 0 0,.bool false,.int .u8 0,.int .u8 0,.int .u8 0,.int .u8 0,.int .u8 0,.int .u8 0,.int .u8 0,.int .u8 0,.int .u8 0,.int .u8 0,.int .u8 0,.int .u8 0,.int .u8 0,.int .u8 0,.int .u8 0,.int .u8 0,.int .u8 0,.int .u8 0,.int .u8 0,.int .u8 0,.int .u8 0,.int .u8 0,.int .u8 0,.int .u8 0,.int .u8 0,.int .u8 0,.int .u8 0,.int .u8 0,.int .u8 0,.int .u8 0,.int .u8 0,.int .u8 0]) (tA:=27) (tB:=27) hw2
 have hs1:=hs.later (Nat.le_refl _) hb1
 have hlt0:=r0.lt
 have hlt1:=r1.lt
 obtain⟨Z,hZ⟩:∃Z:List Value,Z=[Value.int .u64 0,.string { data:=#[] },.slice none 0 0,.bool false,.int .u8 0,.int .u8 0,.int .u8 0,.int .u8 0,.int .u8 0,.int .u8 0,.int .u8 0,.int .u8 0,.int .u8 0,.int .u8 0,.int .u8 0,.int .u8 0,.int .u8 0,.int .u8 0,.int .u8 0,.int .u8 0,.int .u8 0,.int .u8 0,.int .u8 0,.int .u8 0,.int .u8 0,.int .u8 0,.int .u8 0,.int .u8 0,.int .u8 0,.int .u8 0,.int .u8 0,.int .u8 0,.int .u8 0,.int .u8 0,.int .u8 0,.int .u8 0]:=⟨_,rfl⟩
 have hzl:Z.toArray.size=36:=by rw[hZ];rfl
 rw[←hZ] at r1
 clear hsz hw2 hs hZ c2
 have hsz36:=Lib.hid (show (Tryz.prog.info? 27).map (·.size)=some 36 from a0T)
 go_wp2_with (first
  | (go_at_call 45;refine (hck.out _ hs1).mono ?_;rintro e w3 ⟨B,d,rfl,hown3,hb3⟩;replace hown3:=Lib.hid hown3;have hfz3:=(r0.later hb3 hlt0).free 2;have hcl3:w3.cell? ⟨w.heap.size,2,none⟩=some (.slice A t.cavs.length c):=(by rw[(r0.later hb3 hlt0).cell];exact hg.2.2.1);obtain⟨V4,hV4⟩:∃V4,V4=tokV t B d:=⟨_,rfl⟩;have hl4:V4.toArray.size=36:=(by rw[hV4,List.size_toArray];exact hlen.out B d);have hone4:=Lib.hid (show V4.toArray.all (·.oneCell')=true by rw[hV4];exact hone.out B d);have R4:=Lib.hid (show (w3.setCell ⟨w.heap.size,2,none⟩ (.slice B t.cavs.length d)).heap[w.heap.size]?=some (.cells V4.toArray 27 (0,0)) by rw[hV4,←hVs.out];exact (r0.later hb3 hlt0).set 2 _);have RZ:=Lib.hid (show (w3.setCell ⟨w.heap.size,2,none⟩ (.slice B t.cavs.length d)).heap[w.heap.size+1]?=some (.cells Z.toArray 27 (0,0)) from (r1.later hb3 hlt1).far _ _ (by show w.heap.size+1≠w.heap.size;omega));have hzf4:=Lib.hid (show (Tryz.prog.info? 27).map (·.size)=some V4.toArray.size by rw[hl4];exact hsz36.out);have hzz:=Lib.hid (show Z.toArray.size=V4.toArray.size by rw[hl4,hzl]);have HV4:=Lib.hid hV4;clear hV4 hl4)
  | (with_reducible refine wpList_load_row rfl 27 (.tmp 1) rfl w.heap.size rfl 27 V4.toArray (0,0) _ R4.out Tryz.underlying27 rfl hzf4.out ?_)
  | (with_reducible refine wpList_store_row rfl 27 (.tmp 2) (.tmp 7) rfl (w.heap.size+1) V4.toArray rfl rfl 27 Z.toArray RZ.out hzf4.out hzz.out hone4.out ?_;refine Hid.out ?_))
 refine Lib.hid ?_
 generalize hw9:World.setRow _ _ _=w9
 obtain⟨r9,hg9⟩:=a0z (xs:=V4) (show Row _ (w.heap.size+1) 27 Z from RZ.out) hw9
 have R9:=Lib.hid (show w9.heap[w.heap.size+1]?=some (.cells V4.toArray 27 (0,0)) from r9)
 have hb4:=(hb1.trans (hb3.mono hb1.size)).grown (a0q w3 w.heap.size 2 (.slice B t.cavs.length d)) (hb1.trans (hb3.mono hb1.size)).size (fun k h=>by cases h;exact Nat.le_refl _)
 have hb9:=hb4.grown hg9 hb4.size (fun k h=>by cases h;exact Nat.le_succ _)
 have own9:=Lib.hid (i0o (i0o hown3.out (a0q w3 w.heap.size 2 (.slice B t.cavs.length d)) hlt0) hg9 hlt1)
 clear hw9 r9 hg9 hzz hzl hfz3 hcl3
 go_wp2_with (with_reducible refine bodyPost_ret (results_cell_row rfl _ _ (w.heap.size+1) 27 V4.toArray (0,0) _ rfl R9.out Tryz.underlying27 rfl hzf4.out) rfl ?_)
 exact⟨B,d,by rw[HV4.out],w0h own9.out hb1.size,hb9⟩
set_option maxHeartbeats 4000000 in
theorem y0M (key:List UInt8) (hk:key.length=32) (n:Nat) (_hn:n < 18446744073709551616) (id:List UInt8) (hi:id.length≤100000000) (w:World) (hT:Tabs w) :
  Calls Tryz.prog 11 #[.agg (byts key).toArray,.int .u64 (n:Int),.string (bstr id)] w fun e w'=>e=.returned (.agg (byts (d0H key n id)).toArray)∧Below w.heap.size w w':=by
 have hKl:=a0R key hk
 have hkz:=Lib.hid (show (Tryz.prog.info? 23).map (·.size)=some (byts key).length by rw[a0C,hKl])
 obtain⟨V,hV⟩:∃V,V=byts (d0H key n id):=⟨_,rfl⟩
 have hVl:V.length=32:=by rw[hV];exact a0R _ (c0N _ _ _)
 have hone:=Lib.hid (show ∀v∈V,v.oneCell'=true by rw[hV];exact a0o _)
 have hszl:=Lib.hid (show (Tryz.prog.info? 23).map (·.size)=some V.length by rw[a0C,hVl])
 have hsz2:=Lib.hid (show (Tryz.prog.info? 23).map (·.size)=some V.toArray.size by rw[a0C,List.size_toArray,hVl])
 have hfit:=Lib.hid (show 0+V.length≤(List.replicate 32 (Value.int .u8 0)).length by rw[hVl,List.length_replicate];decide)
 have HVr:=Lib.hid (show splice (List.replicate 32 (Value.int .u8 0)) 0 V=V by
  unfold splice
  rw[List.take_zero,List.nil_append,Nat.zero_add,hVl,List.drop_eq_nil_of_le (by simp),List.append_nil])
 have HV:=Lib.hid hV
 clear hV hVl hKl
 go_enter Tryz.func11,Tryz.ntmps11
 go_upto_region 1 with fail
 generalize hw1:World.alloc (World.alloc _ _) _=w1
 obtain⟨r1,r2,hb1⟩:=f0F (B:=List.replicate 32 (Value.int .u8 0)) hw1
 clear hw1
 refine wp_region_noPanic ?_
 refine wp_region_held_drew (S:=fun w'=>Row w' w.heap.size 23 (byts key)) (by kernel_rfl) (r1.later ((Below.refl _ _).drew) r1.lt) (fun hHeld=>?_)
 have hB:Below w1.heap.size w1 w1.drew:=(Below.refl _ _).drew
 refine rt 0 7 hHeld ?_ (hy:=by intro w hS;exact a0A 23 (.tmp 3) rfl _ 0 rfl (byts key) _ (a0m hS) Tryz.underlying23 rfl hkz.out)
 refine rt 1 8 hHeld ?_
 refine rt 4 11 hHeld ?_
 refine wpAnyH_ready (rs:=[2]) (by kernel_rfl) (by simp) (AllReadyH.cons (o:=_) rfl (fun K hK=>?_) AllReadyH.nil)
 go_simp
 refine (l0n n _).mono ?_;rintro e ww12 ⟨v2,rfl,ho2,hqw12⟩;obtain⟨A2,c2,rfl,-,s2⟩:=Sl.of_own ho2
 try go_wp2_with fail
 refine hK.out _ _ (hHeld.later hqw12 hHeld.lt) (fun hHeld=>?_)
 clear hK K
 try (first | (rw[a0c];dsimp only[List.set]) | rw[a0d])
 have hB:=a0a hB hqw12
 have hB2:Below ww12.heap.size ww12 ww12:=Below.refl _ _
 refine wpAnyH_ready (rs:=[3]) (by kernel_rfl) (by simp) (AllReadyH.cons (o:=_) rfl (fun K hK=>?_) AllReadyH.nil)
 refine m0H (some 10) rfl (by rfl) (.string (bstr (b0T n))) (by have hcv:=b0Q s2 _ rfl;go_simp) ?_
 refine hK.out _ _ hHeld (fun hHeld=>?_)
 clear hK K
 try (first | (rw[a0c];dsimp only[List.set]) | rw[a0d])
 refine wpAnyH_ready (rs:=[5]) (by kernel_rfl) (by simp) (AllReadyH.cons (o:=_) rfl (fun K hK=>?_) AllReadyH.nil)
 refine k0G (some 12) rfl (by rfl) _ [b0T n,id] (by have hss:=q0i (b0T n) id ww12;go_simp;rfl) rfl ?_;intro ww15 s5 hqw15
 refine hK.out _ _ (hHeld.later hqw15 hHeld.lt) (fun hHeld=>?_)
 clear hK K
 try (first | (rw[a0c];dsimp only[List.set]) | rw[a0d])
 have hB:=a0a hB hqw15
 have hB2:=a0a hB2 hqw15
 have hB5:Below ww15.heap.size ww15 ww15:=Below.refl _ _
 refine wpAnyH_ready (rs:=[6]) (by kernel_rfl) (by simp) (AllReadyH.cons (o:=_) rfl (fun K hK=>?_) AllReadyH.nil)
 go_simp
 refine (q0J key hk [109,105,110,116] _ 2 2 [b0T n,id] _ (hT.later (hb1.trans (hB.mono hb1.size)) (Nat.le_refl _)) s5 rfl (by show (4+1)+(((b0T n).length+1)+((id.length+1)+0))≤_;rw[b0j];omega)).mono ?_;rintro e ww16 ⟨rfl,hqw16⟩;rw[show keyD key [109,105,110,116] [b0T n,id]=d0H key n id from rfl,←HV.out]
 try go_wp2_with fail
 refine hK.out _ _ (hHeld.later hqw16 hHeld.lt) (fun hHeld=>?_)
 clear hK K
 try (first | (rw[a0c];dsimp only[List.set]) | rw[a0d])
 have hB:=a0a hB hqw16
 have hB2:=a0a hB2 hqw16
 have hB5:=a0a hB5 hqw16
 have hB6:Below ww16.heap.size ww16 ww16:=Below.refl _ _
 refine wpAnyH_ready (rs:=[7]) (by kernel_rfl) (by simp) (AllReadyH.cons (o:=_) rfl (fun K hK=>?_) AllReadyH.nil)
 refine b0h none rfl (by rfl) 23 (.tmp 6) (.tmp 13) rfl _ 0 23 _ V rfl rfl (r2.later hB r2.lt) hfit.out hszl.out hone.out ?_;intro wf rf hgf;have hBz:=hB
 refine hK.out _ _ (hHeld.grown hgf (by omega)) (fun hHeld=>?_)
 clear hK K
 try (first | (rw[a0c];dsimp only[List.set]) | rw[a0d])
 refine wpAnyH_done (by kernel_rfl) ?_ _
 refine NoPanic.normal ?_
 have r9:Row wf (w.heap.size+1) 23 V:=by rw[HVr.out] at rf;exact rf
 have hb9:=(hb1.trans (hBz.mono hb1.size)).grown hgf (Nat.le_trans hb1.size hBz.size) (fun k h=>by cases h;omega)
 have R9:=Lib.hid (show wf.heap[(w.heap.size+1:Nat)]?=some (.cells V.toArray 23 (0,0)) from r9)
 clear r9 hgf rf hBz hHeld hb1
 go_wp2_with (with_reducible refine bodyPost_ret (results_cell_row rfl _ _ (w.heap.size+1) 23 V.toArray (0,0) (.array 32 5) rfl R9.out Tryz.underlying23 rfl hsz2.out) rfl ?_)
 exact⟨by rw[HV.out],hb9⟩
set_option maxHeartbeats 4000000 in
theorem v0x (key:List UInt8) (hk:key.length=32) (c:Cav) (hp:c.party < 18446744073709551616) (hc:capC c≤100000) (w:World) (hT:Tabs w) :
  Calls Tryz.prog 12 #[.agg (byts key).toArray,.agg (cavV c).toArray] w fun e w'=>e=.returned (.agg (byts (d0l key c)).toArray)∧Below w.heap.size w w':=by
 have hKl:=a0R key hk
 have hkz:=Lib.hid (show (Tryz.prog.info? 23).map (·.size)=some (byts key).length by rw[a0C,hKl])
 obtain⟨V,hV⟩:∃V,V=byts (d0l key c):=⟨_,rfl⟩
 have hVl:V.length=32:=by rw[hV];exact a0R _ (c0N _ _ _)
 have hone:=Lib.hid (show ∀v∈V,v.oneCell'=true by rw[hV];exact a0o _)
 have hszl:=Lib.hid (show (Tryz.prog.info? 23).map (·.size)=some V.length by rw[a0C,hVl])
 have hsz2:=Lib.hid (show (Tryz.prog.info? 23).map (·.size)=some V.toArray.size by rw[a0C,List.size_toArray,hVl])
 have hfit:=Lib.hid (show 0+V.length≤(List.replicate 32 (Value.int .u8 0)).length by rw[hVl,List.length_replicate];decide)
 have HVr:=Lib.hid (show splice (List.replicate 32 (Value.int .u8 0)) 0 V=V by
  unfold splice
  rw[List.take_zero,List.nil_append,Nat.zero_add,hVl,List.drop_eq_nil_of_le (by simp),List.append_nil])
 have HV:=Lib.hid hV
 clear hV hVl hKl
 go_enter Tryz.func12,Tryz.ntmps12
 go_upto_region 1 with fail
 generalize hw1:World.alloc (World.alloc (World.alloc _ _) _) _=w1
 obtain⟨r1,r2,r3,hb1,-⟩:=o0y (C:=List.replicate 32 (Value.int .u8 0)) hw1
 clear hw1
 refine wp_region_noPanic ?_
 refine wp_region_held_drew (S:=fun w'=>Row w' w.heap.size 23 (byts key)∧Row w' (w.heap.size+1) 29 (cavV c)) (by kernel_rfl) (⟨r1.later ((Below.refl _ _).drew) r1.lt,r2.later ((Below.refl _ _).drew) r2.lt⟩) (fun hHeld=>?_)
 have hB:Below w1.heap.size w1 w1.drew:=(Below.refl _ _).drew
 refine rt 0 5 hHeld ?_ (hy:=by intro w hS;exact a0A 23 (.tmp 2) rfl _ 0 rfl (byts key) _ (a0m hS.1) Tryz.underlying23 rfl hkz.out)
 refine rt 1 6 hHeld ?_ (hy:=by intro w hS;exact a0A 29 (.tmp 3) rfl _ 0 rfl (cavV c) _ (a0m hS.2) Tryz.underlying29 rfl c0r)
 refine wpAnyH_ready (rs:=[2]) (by kernel_rfl) (by simp) (AllReadyH.cons (o:=_) rfl (fun K hK=>?_) AllReadyH.nil)
 go_simp
 refine (z0n c hp hc _).mono ?_;rintro e ww12 ⟨v2,rfl,ho2,hqw12⟩;obtain⟨A2,c2,rfl,-,s2⟩:=Sl.of_own ho2
 try go_wp2_with fail
 refine hK.out _ _ ⟨hHeld.1.later hqw12 hHeld.1.lt,hHeld.2.later hqw12 hHeld.2.lt⟩ (fun hHeld=>?_)
 clear hK K
 try (first | (rw[a0c];dsimp only[List.set]) | rw[a0d])
 have hB:=a0a hB hqw12
 have hB2:Below ww12.heap.size ww12 ww12:=Below.refl _ _
 refine wpAnyH_ready (rs:=[3]) (by kernel_rfl) (by simp) (AllReadyH.cons (o:=_) rfl (fun K hK=>?_) AllReadyH.nil)
 refine m0H (some 8) rfl (by rfl) (.string (bstr (capB c))) (by have hcv:=b0Q s2 _ rfl;unfold capB;go_simp) ?_
 refine hK.out _ _ hHeld (fun hHeld=>?_)
 clear hK K
 try (first | (rw[a0c];dsimp only[List.set]) | rw[a0d])
 refine wpAnyH_ready (rs:=[4]) (by kernel_rfl) (by simp) (AllReadyH.cons (o:=_) rfl (fun K hK=>?_) AllReadyH.nil)
 refine k0G (some 9) rfl (by rfl) _ [capB c] (by have hss:=k0y (capB c) ww12;go_simp;rfl) rfl ?_;intro ww14 s4 hqw14
 refine hK.out _ _ ⟨hHeld.1.later hqw14 hHeld.1.lt,hHeld.2.later hqw14 hHeld.2.lt⟩ (fun hHeld=>?_)
 clear hK K
 try (first | (rw[a0c];dsimp only[List.set]) | rw[a0d])
 have hB:=a0a hB hqw14
 have hB2:=a0a hB2 hqw14
 have hB4:Below ww14.heap.size ww14 ww14:=Below.refl _ _
 refine wpAnyH_ready (rs:=[5]) (by kernel_rfl) (by simp) (AllReadyH.cons (o:=_) rfl (fun K hK=>?_) AllReadyH.nil)
 go_simp
 refine (q0J key hk [99,97,118,101,97,116] _ 1 1 [capB c] _ (hT.later (hb1.trans (hB.mono hb1.size)) (Nat.le_refl _)) s4 rfl (by have hz:=n0N hc;show (6+1)+(((c0s (cavF c)).length+1)+0)≤_;omega)).mono ?_;rintro e ww15 ⟨rfl,hqw15⟩;rw[show keyD key [99,97,118,101,97,116] [capB c]=d0l key c from rfl,←HV.out]
 try go_wp2_with fail
 refine hK.out _ _ ⟨hHeld.1.later hqw15 hHeld.1.lt,hHeld.2.later hqw15 hHeld.2.lt⟩ (fun hHeld=>?_)
 clear hK K
 try (first | (rw[a0c];dsimp only[List.set]) | rw[a0d])
 have hB:=a0a hB hqw15
 have hB2:=a0a hB2 hqw15
 have hB4:=a0a hB4 hqw15
 have hB5:Below ww15.heap.size ww15 ww15:=Below.refl _ _
 refine wpAnyH_ready (rs:=[6]) (by kernel_rfl) (by simp) (AllReadyH.cons (o:=_) rfl (fun K hK=>?_) AllReadyH.nil)
 refine b0h none rfl (by rfl) 23 (.tmp 4) (.tmp 10) rfl _ 0 23 _ V rfl rfl (r3.later hB r3.lt) hfit.out hszl.out hone.out ?_;intro wf rf hgf;have hBz:=hB
 refine hK.out _ _ ⟨hHeld.1.grown hgf (by omega),hHeld.2.grown hgf (by omega)⟩ (fun hHeld=>?_)
 clear hK K
 try (first | (rw[a0c];dsimp only[List.set]) | rw[a0d])
 refine wpAnyH_done (by kernel_rfl) ?_ _
 refine NoPanic.normal ?_
 have r9:Row wf (w.heap.size+1+1) 23 V:=by rw[HVr.out] at rf;exact rf
 have hb9:=(hb1.trans (hBz.mono hb1.size)).grown hgf (Nat.le_trans hb1.size hBz.size) (fun k h=>by cases h;omega)
 have R9:=Lib.hid (show wf.heap[(w.heap.size+1+1:Nat)]?=some (.cells V.toArray 23 (0,0)) from r9)
 clear r9 hgf rf hBz hHeld hb1
 go_wp2_with (with_reducible refine bodyPost_ret (results_cell_row rfl _ _ (w.heap.size+1+1) 23 V.toArray (0,0) (.array 32 5) rfl R9.out Tryz.underlying23 rfl hsz2.out) rfl ?_)
 exact⟨by rw[HV.out],hb9⟩
set_option maxHeartbeats 8000000 in
theorem v0z (key:List UInt8) (hk:key.length=32) (t:Tok) (ht:t.Ok) (hi:t.id.length≤100000000) (hm:t.cavs.length≤1000000) (hcb:∀c∈t.cavs,capC c≤100000) (A:Option Addr) (c:Nat) (w:World) (hT:Tabs w) (hs:Sl w A (c*5) (t.cavs.flatMap cavV)) :
  Calls Tryz.prog 8 #[.agg (byts key).toArray,.agg (tokV t A c).toArray] w fun e w'=>∃B d,e=.returned (.slice B (t.cavs.length+1) d)∧Sl w' B (d*32) (h0T (m0L key t))∧Below w.heap.size w w':=by
 obtain⟨i0,hi0,hz0,hsz0,hby0⟩:=s0s
 replace hT:=Lib.hid hT
 have HTB:=hT
 clear hT
 obtain⟨X,hX⟩:∃X,X=tokV t A c:=⟨_,rfl⟩
 obtain⟨w1,hw1⟩:∃w1,w1=(w.alloc (.cells (byts key).toArray 23)).alloc (.cells X.toArray 27):=⟨_,rfl⟩
 obtain⟨r1,r2,hb1⟩:=f0F hw1.symm
 have HW:=Lib.hid hw1
 have hc0:w1.cell? ⟨w.heap.size+1,0,none⟩=some (.int .u64 t.key):=by rw[r2.cell,hX];rfl
 have hc1:w1.cell? ⟨w.heap.size+1,1,none⟩=some (.string (bstr t.id)):=by rw[r2.cell,hX];rfl
 have hX2:=Lib.hid (show X[2]?=some (.slice A t.cavs.length c) by rw[hX];rfl)
 have hkz:=Lib.hid (show (Tryz.prog.info? 23).map (·.size)=some (byts key).toArray.size by rw[List.size_toArray,a0R key hk];exact a0C)
 have R1:=Lib.hid (show w1.heap[w.heap.size]?=some (.cells (byts key).toArray 23 (0,0)) from r1)
 have hst:=Lib.hid (y0M key hk t.key ht.key t.id hi)
 have hTl:(m0L key t).length=t.cavs.length+1:=i0A _ _
 obtain⟨S0,hS0⟩:∃S0,S0=d0H key t.key t.id:=⟨_,rfl⟩
 have hS0l:S0.length=32:=by rw[hS0];exact d0b _ _ _
 have HT:=Lib.hid (show m0L key t=g0V S0 t.cavs by rw[hS0];rfl)
 rw[←hS0] at hst
 have hnx:=Lib.hid (fun (x:List UInt8) (hx:x.length=32) (cv:Cav) (hcv:cv∈t.cavs)=>v0x x hx cv (ht.party cv hcv) (hcb cv hcv))
 rw[←hX]
 generalize t.cavs=cs at *
 generalize m0L key t=TT at *
 generalize t.key=tk at *
 generalize t.id=ti at *
 clear hw1 hX r1 hcb ht hTl hS0
 have hSz:=Lib.hid (show (Tryz.prog.info? 23).map (·.size)=some (byts S0).toArray.size by rw[List.size_toArray,a0R S0 hS0l];exact a0C)
 have hS32:=Lib.hid (show (32:Nat)=(byts S0).toArray.size by rw[List.size_toArray,a0R S0 hS0l])
 have hS1:=Lib.hid (l0P S0)
 have tok1:True:=trivial
 go_enter Tryz.func8,Tryz.ntmps8
 go_wp2_with (first
  | (have _t:=tok1;rw[←HW.out];clear tok1)
  | (with_reducible refine wpList_load_row rfl 23 (.tmp 2) rfl w.heap.size rfl 23 (byts key).toArray (0,0) _ R1.out Tryz.underlying23 rfl hkz.out ?_)
  | (go_at_call 11;refine (hst.out _ (HTB.out.later hb1 (Nat.le_refl _))).mono ?_;rintro e w2 ⟨rfl,hb2⟩;have r2:=r2.later hb2 r2.lt;have hb2w:=hb1.trans (hb2.mono hb1.size))
  | (have _t:=hb2;with_reducible refine wpList_store_row rfl 23 (.tmp 5) (.tmp 14) rfl w2.heap.size (byts S0).toArray rfl rfl 23 _ (heap_alloc_new w2 _) hSz.out (Eq.trans (by kernel_rfl) hS32.out) hS1.out ?_;refine Hid.out ?_))
 refine Lib.hid ?_
 generalize hw3:World.setRow _ _ _=w3
 obtain⟨r5,hb3⟩:=a0p (xs:=byts S0) hw3
 have l2:=r2.lt
 have r2:=r2.later hb3 r2.lt
 have hb3w:=hb2w.trans (hb3.mono hb2w.size)
 have R5:=Lib.hid (show w3.heap[w2.heap.size]?=some (.cells (byts S0).toArray 23 (0,0)) from r5)
 have l5:=r5.lt
 generalize hG5:w2.heap.size=g5 at *
 clear hw3 hb3 hc0 hc1 hb2 hb2w hb1 HW R1 hst hkz
 go_wp2_with (first
  | (with_reducible refine wpList_load_row rfl 23 (.tmp 5) rfl g5 rfl 23 (byts S0).toArray (0,0) _ R5.out Tryz.underlying23 rfl hSz.out ?_)
  | (refine f0s rfl 32 1 [_] rfl [(0,.agg (byts S0).toArray)] rfl _ (l0D (byts S0) (a0R S0 hS0l) w3) ?_;refine Hid.out ?_))
 refine Lib.hid ?_
 have own4:=World.ownsRow_lit (base:=w3.heap.size) (e:=23) (size:=32) w3 (byts S0).toArray 1 (Nat.le_refl _) (by decide) (by rw[List.size_toArray,a0R S0 hS0l])
 rw[List.toList_toArray] at own4
 have hb4:=(Below.refl w3.heap.size w3).alloc (Nat.le_refl _) (.cells (byts S0).toArray 23)
 generalize w3.alloc (.cells (byts S0).toArray 23)=w4 at *
 have hc2:w4.cell? ⟨w.heap.size+1,2,none⟩=some (.slice A cs.length c):=by rw[(r2.later hb4 r2.lt).cell,hX2.out]
 have r5:=r5.later hb4 l5
 have hb4w:=hb3w.trans (hb4.mono hb3w.size)
 have hb43:=hb4.size
 generalize hbs:w3.heap.size=bs at *
 clear r2 R5 hb3w hb4 hSz hS32 hS1 hG5 hX2
 go_wp2_with fail
 clear hc2
 go_loopw [6,20] (fun o i wr=>∃k:Nat,k≤cs.length∧i=.int .i64 k∧wr.ownsRow bs 23 32 o (k+1) (h0T (g0V S0 (cs.take k)))∧Row wr g5 23 (byts (endF S0 (cs.take k)))∧bs≤wr.heap.size∧Below w.heap.size w wr) (fun _ i _=>cs.length - (intOf i).toNat)
 case atStart=>exact⟨0,by omega,rfl,by rw[List.take_zero];show World.ownsRow _ _ _ _ _ _ (h0T [S0]);rw[o0R];exact own4,by rw[List.take_zero];exact r5,hb43,hb4w⟩
 case round =>
  clear own4 r5 hb43 hb4w
  obtain⟨k,hkl,rfl,own,r5,hB,hb⟩:=hrel
  by_cases hlt:k < cs.length
  ·obtain⟨cv,hcv⟩:∃cv,cs[k]?=some cv:=⟨_,List.getElem?_eq_getElem hlt⟩
   obtain⟨b,o,rfl,hb0,hr0⟩:=hs.rd.get (i:=0) (by rw[b0d];omega)
   clear hb0 hr0
   have hix:=f0w (some ⟨b,o,none⟩) b o cs.length c k rfl hlt
   have hrg:=(hs.later (Nat.le_refl _) hb).thing (k:=5) (fun _ _=>rfl) k cv hcv
   obtain⟨x,hx⟩:∃x,x=endF S0 (cs.take k):=⟨_,rfl⟩
   have hxl:x.length=32:=by rw[hx];exact j0S _ _ hS0l
   have hT:=x0p S0 cs k cv hcv
   rw[←hx] at hT
   have hcall:=Lib.hid (hnx.out x hxl cv (List.mem_of_getElem? hcv))
   obtain⟨y,hy⟩:∃y,y=d0l x cv:=⟨_,rfl⟩
   have hyl:y.length=32:=by rw[hy];exact b0G _ _
   rw[←hy] at hcall hT
   rw[←hx] at r5
   have HT1:=Lib.hid hT.1
   have HT2:=Lib.hid hT.2
   have hzf:=Lib.hid (show (Tryz.prog.info? 29).map (·.size)=some (cavV cv).length from c0r)
   have hzf2:=Lib.hid (show (Tryz.prog.info? 29).map (·.size)=some (cavV cv).toArray.size from c0r)
   have hof:=Lib.hid (show (cavV cv).toArray.all (·.oneCell')=true from a0Y (fun v hv=>f0g [cv] v (by simpa using hv)))
   obtain⟨V2,hV2q⟩:∃V,V=cavV cv:=⟨_,rfl⟩
   rw[←hV2q] at hrg hcall hzf hzf2 hof
   have hV2:=Lib.hid (show (5:Nat)=V2.toArray.size by rw[hV2q];rfl)
   clear hV2q hcv hT hx hy
   go_wp2_with (first
    | (with_reducible refine wpList_load_mid rfl 29 (.tmp 22) rfl b (o+k*5) rfl V2 _ hrg Tryz.underlying29 rfl hzf.out ?_)
    | (with_reducible refine wpList_store_row rfl 29 (.tmp 8) (.tmp 23) rfl wr.heap.size V2.toArray rfl rfl 29 _ (heap_alloc_new wr _) hzf2.out (Eq.trans (by kernel_rfl) hV2.out) hof.out ?_;refine Hid.out ?_))
   refine Lib.hid ?_
   generalize hw5:World.setRow _ _ _=w5
   obtain⟨r8,hb5⟩:=a0p (xs:=V2) hw5
   have own:=c0h own hb5 (Nat.le_refl _)
   have r5:=r5.later hb5 r5.lt
   have hB:=Nat.le_trans hB hb5.size
   have hb:=hb.trans (hb5.mono hb.size)
   have R8:=Lib.hid (show w5.heap[wr.heap.size]?=some (.cells V2.toArray 29 (0,0)) from r8)
   have R5:=Lib.hid (show w5.heap[g5]?=some (.cells (byts x).toArray 23 (0,0)) from r5)
   have hSx:=Lib.hid (show (Tryz.prog.info? 23).map (·.size)=some (byts x).toArray.size by rw[List.size_toArray,a0R x hxl];exact a0C)
   have hSy:=Lib.hid (show (Tryz.prog.info? 23).map (·.size)=some (byts y).toArray.size by rw[List.size_toArray,a0R y hyl];exact a0C)
   have hxy:=Lib.hid (show (byts x).toArray.size=(byts y).toArray.size by rw[List.size_toArray,List.size_toArray,a0R x hxl,a0R y hyl])
   have hy1:=Lib.hid (l0P y)
   clear hw5 hrg hix hb5 r8 hs hzf hof hV2 hnx
   go_wp2_with (first
    | (with_reducible refine wpList_load_row rfl 23 (.tmp 5) rfl g5 rfl 23 (byts x).toArray (0,0) _ R5.out Tryz.underlying23 rfl hSx.out ?_)
    | (with_reducible refine wpList_load_row rfl 29 (.tmp 8) rfl wr.heap.size rfl 29 V2.toArray (0,0) _ R8.out Tryz.underlying29 rfl hzf2.out ?_)
    | (go_at_call 12;refine (hcall.out _ (HTB.out.later hb (Nat.le_refl _))).mono ?_;rintro e w6 ⟨rfl,hb6⟩;have own:=c0h own hb6 (Nat.le_refl _);have r5:=r5.later hb6 r5.lt;have hB:=Nat.le_trans hB hb6.size;have hb:=hb.trans (hb6.mono hb.size);have R6:=Lib.hid (show w6.heap[g5]?=some (.cells (byts x).toArray 23 (0,0)) from r5))
    | (have _t:=R6;with_reducible refine wpList_store_row rfl 23 (.tmp 5) (.tmp 26) rfl g5 (byts y).toArray rfl rfl 23 (byts x).toArray R6.out hSy.out hxy.out hy1.out ?_;refine Hid.out ?_))
   refine Lib.hid ?_
   generalize hw7:World.setRow _ _ _=w7
   obtain⟨r5,hg7⟩:=a0z r5 hw7
   have own:=i0o own hg7 l5
   have hB:=Nat.le_trans hB hg7.size
   have hb:=hb.grown hg7 hb.size (fun j h=>by cases h;omega)
   have R7:=Lib.hid (show w7.heap[g5]?=some (.cells (byts y).toArray 23 (0,0)) from r5)
   clear hw7 R5 R6 R8 hg7 hcall hxy
   go_wp2_with (first
    | (with_reducible refine wpList_load_row rfl 23 (.tmp 5) rfl g5 rfl 23 (byts y).toArray (0,0) _ R7.out Tryz.underlying23 rfl hSy.out ?_)
    | (refine f0s rfl 32 1 [_] rfl [(0,.agg (byts y).toArray)] rfl _ (l0D (byts y) (a0R y hyl) w7) ?_;refine Hid.out ?_))
   refine Lib.hid ?_
   have hb8:=(Below.refl w7.heap.size w7).alloc (Nat.le_refl _) (.cells (byts y).toArray 23)
   have s8:Sl (w7.alloc (.cells (byts y).toArray 23)) (some ⟨w7.heap.size,0,none⟩) (1*32) (byts y):=c0O (byts y) rfl 32 (a0R y hyl)
   generalize w7.alloc (.cells (byts y).toArray 23)=w8 at *
   have own:=c0h own hb8 (Nat.le_refl _)
   have r5:=r5.later hb8 r5.lt
   have hB:=Nat.le_trans hB hb8.size
   have hb:=hb.trans (hb8.mono hb.size)
   have n1:k+1+1≤maxLen:=by unfold maxLen;omega
   have n2:(k+1+1)*32≤140737488355328:=by omega
   have hfy:=a0R y hyl
   clear R7 hb8
   go_wp2_with (at_builtin;refine g0z rfl (.tmp 27) (.tmp 29) 32 rfl bs 23 i0 _ 32 32 Tryz.underlying32 hi0 hz0 hsz0 (by omega) hby0 rfl _ (k+1) (h0T (g0V S0 (cs.take k))) rfl own (some ⟨w7.heap.size,0,none⟩) 1 1 (byts y) rfl hfy s8 (a0o y) n1 n2 hB ?_;intro v9 w9 own9 hg9;have own9:=Lib.hid own9;have r9:=Lib.hid (Row.kept r5 hg9 (fun j hj e=>by have:=(own.lt j hj).1;omega));have hb9:=Lib.hid (hb.grown hg9 hb.size (fun j hj=>by have:=(own.lt j hj).1;omega));have hB9:=Lib.hid (Nat.le_trans hB hg9.size);clear hg9)
   go_roundw
   case rel=>exact⟨k+1,by omega,by go_num,by rw[HT1.out,x0o,o0R];exact own9.out,by rw[HT2.out];exact r9.out,hB9.out,hb9.out⟩
   case measure=>simp[intOf];omega
  ·obtain rfl:k=cs.length:=by omega
   rw[List.take_length,←HT.out] at own
   obtain⟨B,d,rfl,-,s⟩:=Sl.of_ownk own
   clear hlt own r5 hs hm hnx HT
   generalize hn:cs.length=n at *
   go_wp2
   go_ret
   exact⟨B,d,by rw[hn];rfl,s,hb⟩
theorem i0B (l:List (List UInt8)) (h:∀u∈l,(byts u).length=32):(h0T l).length=l.length*32:=by
 induction l with
 | nil=>rfl
 | cons a l ih =>
  show (byts a++h0T l).length=(l.length+1)*32
  rw[List.length_append,ih (fun u hu=>h u (List.mem_cons_of_mem _ hu)),h a List.mem_cons_self];omega
theorem i0i (A:Option Addr) (b o n c k:Nat) (hA:A=some ⟨b,o,none⟩) (hk:k < n) (w:World) :
  (Instr.indexAt 32 (.slice A n c) (.int .i64 k)).run Tryz.prog w=.ok (.pointer (some ⟨b,o+k*32,none⟩)) w:=by
 subst hA
 have h:(k:Int) < (n:Int):=by omega
 go_simp
set_option maxHeartbeats 4000000 in
theorem c1B (key:List UInt8) (hk:key.length=32) (t:Tok) (ht:t.Ok) (hi:t.id.length≤100000000) (hm:t.cavs.length≤1000000) (hcb:∀c∈t.cavs,capC c≤100000) (A:Option Addr) (c:Nat) (w:World) (hT:Tabs w) (hs:Sl w A (c*5) (t.cavs.flatMap cavV)) :
  Calls Tryz.prog 10 #[.agg (byts key).toArray,.agg (tokV t A c).toArray] w fun e w'=>e=.returned (.agg (byts (endT key t)).toArray)∧Below w.heap.size w w':=by
 obtain⟨X,hX⟩:∃X,X=tokV t A c:=⟨_,rfl⟩
 have hXl:X.length=36:=by rw[hX];exact a0u ht A c
 have hzX:=Lib.hid (show (Tryz.prog.info? 27).map (·.size)=some X.toArray.size by rw[List.size_toArray,hXl];exact a0T)
 have hel:(endT key t).length=32:=j0S _ _ (d0b _ _ _)
 have hkz:=Lib.hid (show (Tryz.prog.info? 23).map (·.size)=some (byts key).toArray.size by rw[List.size_toArray,a0R key hk];exact a0C)
 have hez:=Lib.hid (show (Tryz.prog.info? 23).map (·.size)=some (byts (endT key t)).length by rw[a0R _ hel];exact a0C)
 have hez2:=Lib.hid (show (Tryz.prog.info? 23).map (·.size)=some (byts (endT key t)).toArray.size by rw[List.size_toArray,a0R _ hel];exact a0C)
 have hes:=Lib.hid (show (List.replicate 32 (Value.int .u8 0)).toArray.size=(byts (endT key t)).toArray.size by rw[List.size_toArray,List.size_toArray,a0R _ hel];rfl)
 have he1:=Lib.hid (l0P (endT key t))
 have htg:=Lib.hid (fun w1 (hb1:Below w.heap.size w w1)=>v0z key hk t ht hi hm hcb A c w1 (hT.later hb1 (Nat.le_refl _)) (hs.later (Nat.le_refl _) hb1))
 have hla:=Lib.hid (show (m0L key t)[t.cavs.length]?=some (endT key t) from x0m _ _)
 have hfl:=Lib.hid (show ∀u∈m0L key t,(byts u).length=32 from fun u hu=>a0R u (x0n _ _ (d0b _ _ _) u hu))
 have hln:=Lib.hid (show (m0L key t).length=t.cavs.length+1 from i0A _ _)
 rw[←hX] at htg ⊢
 clear hX hXl hT hs hcb hel
 have hsub:IntKind.i64.wrap (((t.cavs.length+1:Nat):Int) - 1)=(t.cavs.length:Int):=by rw[IntKind.wrap_i64];omega
 generalize t.cavs.length=n at *
 generalize m0L key t=TT at *
 generalize endT key t=EE at *
 go_enter Tryz.func10,Tryz.ntmps10
 go_upto_region 1 with fail
 generalize hw1:World.alloc (World.alloc (World.alloc _ _) _) _=w1
 obtain⟨r1,r2,r3,hb1,-⟩:=o0y (C:=List.replicate 32 (Value.int .u8 0)) hw1
 have R1:=Lib.hid (show w1.heap[w.heap.size]?=some (.cells (byts key).toArray 23 (0,0)) from r1)
 have R2:=Lib.hid (show w1.heap[w.heap.size+1]?=some (.cells X.toArray 27 (0,0)) from r2)
 clear hw1 r1 r2
 go_wp2_with (first
  | (with_reducible refine wpList_load_row rfl 23 (.tmp 2) rfl w.heap.size rfl 23 (byts key).toArray (0,0) _ R1.out Tryz.underlying23 rfl hkz.out ?_)
  | (with_reducible refine wpList_load_row rfl 27 (.tmp 3) rfl (w.heap.size+1) rfl 27 X.toArray (0,0) _ R2.out Tryz.underlying27 rfl hzX.out ?_)
  | (go_at_call 8;refine (htg.out _ hb1).mono ?_;rintro e w2 ⟨B,d,rfl,s2,hq⟩;have r3:=r3.later hq r3.lt;have hb2:=hb1.trans (hq.mono hb1.size);refine Hid.out ?_))
 refine Lib.hid ?_
 obtain⟨b,o,rfl,hb0,hr0⟩:=s2.rd.get (i:=0) (by rw[i0B TT hfl.out,hln.out];omega)
 clear hb0 hr0
 have hix:=i0i (some ⟨b,o,none⟩) b o (n+1) d n rfl (by omega)
 have hrg:=Lib.hid (s2.thing (k:=32) hfl.out n EE hla.out)
 have R3:=Lib.hid (show w2.heap[w.heap.size+1+1]?=some (.cells (List.replicate 32 (Value.int .u8 0)).toArray 23 (0,0)) from r3)
 have HB:=Lib.hid hb2
 clear r3 hb1 s2 htg hla hfl hln hb2 hq R1 R2
 go_wp2_with (first
  | (with_reducible refine wpList_load_mid rfl 23 (.tmp 13) rfl b (o+n*32) rfl (byts EE) _ hrg.out Tryz.underlying23 rfl hez.out ?_)
  | (with_reducible refine wpList_store_row rfl 23 (.tmp 4) (.tmp 14) rfl (w.heap.size+1+1) (byts EE).toArray rfl rfl 23 (List.replicate 32 (Value.int .u8 0)).toArray R3.out hez2.out hes.out he1.out ?_;refine Hid.out ?_))
 refine Lib.hid ?_
 generalize hw8:World.setRow _ _ _=w8
 obtain⟨r8,hg8⟩:=a0z (xs:=byts EE) (show Row w2 (w.heap.size+1+1) 23 (List.replicate 32 (Value.int .u8 0)) from R3.out) hw8
 have hb8:=HB.out.grown hg8 HB.out.size (fun k h=>by cases h;omega)
 have R8:=Lib.hid (show w8.heap[w.heap.size+1+1]?=some (.cells (byts EE).toArray 23 (0,0)) from r8)
 clear hw8 r8 R3
 go_wp2_with (with_reducible refine bodyPost_ret (results_cell_row rfl _ _ (w.heap.size+1+1) 23 (byts EE).toArray (0,0) (.array 32 5) rfl R8.out Tryz.underlying23 rfl hez2.out) rfl ?_)
def tok0 (n:Nat) (id:List UInt8):Tok:=⟨n,id,[],false,List.replicate 32 0⟩
theorem c1b (n:Nat) (hn:n < 18446744073709551616) (id:List UInt8):(tok0 n id).Ok:=⟨hn,(fun c h=>by cases h),rfl⟩
theorem z0S (n:Nat) (id:List UInt8):errT (tok0 n id)=f0K id:=by
 unfold errT f0K
 have h:d0F (tok0 n id)=decide (id.length≤1024):=by
  show (decide (id.length≤1024)&&true&&true)=_
  rw[Bool.and_true,Bool.and_true]
 rw[h]
 by_cases hb:id.length≤1024
 ·rw[decide_eq_true hb,if_pos rfl,if_neg (by omega)]
 ·rw[decide_eq_false hb,if_neg (by decide),if_pos (by omega)]
theorem r0R (n:Nat) (id:List UInt8) (w:World):(Instr.build 27 #[(0,.int .u64 (n:Int)),(1,.string (bstr id))]).run Tryz.prog w=.ok (.agg (tokV (tok0 n id) none 0).toArray) w:=by go_simp;rfl
set_option maxHeartbeats 8000000 in
theorem b1j (key:List UInt8) (hk:key.length=32) (n:Nat) (hn:n < 18446744073709551616) (id:List UInt8) (hi:id.length≤100000000) (w:World) (hT:Tabs w) :
  Calls Tryz.prog 16 #[.agg (byts key).toArray,.int .u64 (n:Int),.string (bstr id)] w (d0z (n0W key n id) (f0K id) w):=by
 obtain⟨Z,hZ⟩:∃Z,Z=tokV d0j none 0:=⟨_,rfl⟩
 have hZl:Z.length=36:=by rw[hZ];exact a0u d0p none 0
 have hZe:=Lib.hid (hZ.trans ztok)
 have hzZ:=Lib.hid (show (Tryz.prog.info? 27).map (·.size)=some Z.toArray.size by rw[List.size_toArray,hZl];exact a0T)
 have hZ1:=Lib.hid (show Z.toArray.all (·.oneCell')=true by rw[hZ,List.all_toArray,List.all_eq_true];exact b0W _ _ _)
 have HZ:=Lib.hid hZ
 have ho0:=c1b n hn id
 obtain⟨U,hU⟩:∃U,U=tokV (tok0 n id) none 0:=⟨_,rfl⟩
 have hUl:U.length=36:=by rw[hU];exact a0u ho0 none 0
 have hzU:=Lib.hid (show (Tryz.prog.info? 27).map (·.size)=some U.toArray.size by rw[List.size_toArray,hUl];exact a0T)
 have hU1:=Lib.hid (show U.toArray.all (·.oneCell')=true by rw[hU,List.all_toArray,List.all_eq_true];exact b0W _ _ _)
 have hU36:=Lib.hid (show (36:Nat)=U.toArray.size by rw[List.size_toArray,hUl])
 have hbl:=Lib.hid (fun w'=>r0R n id w')
 have hck:=Lib.hid (fun w'=>l0v (tok0 n id) ho0 ⟨by show id.length≤_;omega,by show (0:Nat)≤_;omega,fun c h=>by cases h⟩ none 0 w' ⟨.inl rfl,Nat.le_refl _,fun _=>rfl⟩)
 have hen:=Lib.hid (fun w' h=>c1B key hk (tok0 n id) ho0 (by show id.length≤_;omega) (by show (0:Nat)≤_;omega) (fun c h=>by cases h) none 0 w' h ⟨.inl rfl,Nat.le_refl _,fun _=>rfl⟩)
 rw[z0S] at hck
 rw[show endT key (tok0 n id)=d0H key n id from rfl] at hen
 rw[←hU] at hbl hck hen
 have hput:=Lib.hid (show ∀g:List UInt8,g.length=32→splice U 4 (byts g)=tokV ⟨n,id,[],false,g⟩ none 0 from fun g hg=>by rw[hU];exact h0r (tok0 n id) none 0 g ho0 hg)
 obtain⟨w1,hw1⟩:∃w1,w1=(w.alloc (.cells (byts key).toArray 23)).alloc (.cells Z.toArray 27):=⟨_,rfl⟩
 obtain⟨r1,r2,hb1⟩:=f0F hw1.symm
 have HW:=Lib.hid (hw1.trans (by rw[hZe.out]))
 have hkz:=Lib.hid (show (Tryz.prog.info? 23).map (·.size)=some (byts key).toArray.size by rw[List.size_toArray,a0R key hk];exact a0C)
 have tok1:True:=trivial
 have HT:=Lib.hid hT
 clear hw1 hZ hU hT ho0
 go_enter Tryz.func16,Tryz.ntmps16
 go_wp2_with (first
  | (have _t:=tok1;rw[←HW.out];clear tok1)
  | (refine b0a rfl 27 0 1 (.tmp 10) (.tmp 11) rfl (.int .u64 (n:Int)) (.string (bstr id)) (.agg U.toArray) rfl rfl (hbl.out _) ?_)
  | (with_reducible refine wpList_store_row rfl 27 (.tmp 8) (.tmp 12) rfl w1.heap.size U.toArray rfl rfl 27 _ (heap_alloc_new w1 _) hzU.out (Eq.trans (by kernel_rfl) hU36.out) hU1.out ?_;refine Hid.out ?_))
 refine Lib.hid ?_
 generalize hw2:World.setRow _ _ _=w2
 obtain⟨r8,hq⟩:=a0p (xs:=U) hw2
 have r1:=r1.later hq r1.lt
 have l2:=r2.lt
 have r2:=r2.later hq r2.lt
 have hb2:=hb1.trans (hq.mono hb1.size)
 have R8:=Lib.hid (show w2.heap[w1.heap.size]?=some (.cells U.toArray 27 (0,0)) from r8)
 generalize hG8:w1.heap.size=g8 at *
 clear hw2 hq hbl hb1 HW hG8
 go_wp2_with (first
  | (with_reducible refine wpList_load_row rfl 27 (.tmp 8) rfl g8 rfl 27 U.toArray (0,0) _ R8.out Tryz.underlying27 rfl hzU.out ?_)
  | (go_at_call 30;refine (hck.out _).mono ?_;rintro e w3 ⟨rfl,hq⟩;have r1:=r1.later hq r1.lt;have r2:=r2.later hq r2.lt;have r8:=r8.later hq r8.lt;have hb3:=hb2.trans (hq.mono hb2.size);clear hq;refine Hid.out ?_))
 refine Lib.hid ?_
 have R1:=Lib.hid (show w3.heap[w.heap.size]?=some (.cells (byts key).toArray 23 (0,0)) from r1)
 have R2:=Lib.hid (show w3.heap[w.heap.size+1]?=some (.cells Z.toArray 27 (0,0)) from r2)
 have R8:=Lib.hid (show w3.heap[g8]?=some (.cells U.toArray 27 (0,0)) from r8)
 clear hb2 hck
 by_cases hb:1024 < id.length
 ·have HE:=Lib.hid (show f0K id=1 by unfold f0K;rw[if_pos hb])
  have HG:=Lib.hid (show n0W key n id=d0j by unfold n0W;rw[if_pos hb])
  have he:=HE.out
  generalize n0W key n id=UU at *
  generalize f0K id=er at *
  have hne:(er != 0)=true:=by rw[he];rfl
  clear he
  go_wp2_with (have _t:=R2;refine wpList_store_row rfl 27 (.tmp 6) (.tmp 17) rfl (w.heap.size+1) Z.toArray rfl (by rw[hZe.out];rfl) 27 Z.toArray R2.out hzZ.out rfl hZ1.out ?_;refine Hid.out ?_)
  refine Lib.hid ?_
  generalize hw8:World.setRow _ _ _=w8
  obtain⟨r9,hg8⟩:=a0z (show Row w3 (w.heap.size+1) 27 Z from R2.out) hw8
  have hb8:=hb3.grown hg8 hb3.size (fun k h=>by cases h;omega)
  have R9:=Lib.hid (show w8.heap[w.heap.size+1]?=some (.cells Z.toArray 27 (0,0)) from r9)
  clear hw8 r9 R2
  go_wp2_with fail
  exact⟨rfl,_,a0g rfl _ _ (w.heap.size+1) 27 Z.toArray (0,0) _ rfl R9.out Tryz.underlying27 rfl hzZ.out _ rfl,none,0,by rw[HG.out,HZ.out];rfl,by rw[HG.out];exact d0O _,(fun a h=>by cases h),hb8⟩
 ·have HE:=Lib.hid (show f0K id=0 by unfold f0K;rw[if_neg hb])
  have HG:=Lib.hid (show n0W key n id=⟨n,id,[],false,d0H key n id⟩ by unfold n0W;rw[if_neg hb])
  have hsl:=d0b key n id
  have HP:=Lib.hid (hput.out _ hsl)
  obtain⟨V,hV⟩:∃V,V=tokV ⟨n,id,[],false,d0H key n id⟩ none 0:=⟨_,rfl⟩
  have hVl:V.length=36:=by rw[hV];exact a0u ⟨hn,(fun c h=>by cases h),hsl⟩ none 0
  have hzV:=Lib.hid (show (Tryz.prog.info? 27).map (·.size)=some V.toArray.size by rw[List.size_toArray,hVl];exact a0T)
  have hV1:=Lib.hid (show V.toArray.all (·.oneCell')=true by rw[hV,List.all_toArray,List.all_eq_true];exact b0W _ _ _)
  have hVZ:=Lib.hid (show Z.toArray.size=V.toArray.size by rw[List.size_toArray,List.size_toArray,hVl,hZl])
  rw[←hV] at HP
  have HV:=Lib.hid hV
  have hSz:=Lib.hid (show (Tryz.prog.info? 23).map (·.size)=some (byts (d0H key n id)).length by rw[a0R _ hsl];exact a0C)
  have hS1:=Lib.hid (a0o (d0H key n id))
  have hfit:=Lib.hid (show 4+(byts (d0H key n id)).length≤U.length by rw[a0R _ hsl,hUl];exact Nat.le_refl _)
  have he:=HE.out
  clear hV hVl hsl hUl hZl
  generalize n0W key n id=UU at *
  generalize d0H key n id=st at *
  generalize f0K id=er at *
  have hne:(er != 0)=false:=by rw[he];rfl
  clear he
  go_wp2_with (first
   | (with_reducible refine wpList_load_row rfl 23 (.tmp 3) rfl w.heap.size rfl 23 (byts key).toArray (0,0) _ R1.out Tryz.underlying23 rfl hkz.out ?_)
   | (with_reducible refine wpList_load_row rfl 27 (.tmp 8) rfl g8 rfl 27 U.toArray (0,0) _ R8.out Tryz.underlying27 rfl hzU.out ?_)
   | (go_at_call 10;refine (hen.out _ (HT.out.later hb3 (Nat.le_refl _))).mono ?_;rintro e w4 ⟨rfl,hq⟩;have r2:=r2.later hq r2.lt;have r8:=r8.later hq r8.lt;have hb4:=hb3.trans (hq.mono hb3.size);clear hq)
   | (have _t:=hb4;refine d0D rfl 23 (.tmp 22) (.tmp 21) rfl g8 4 27 U (byts st) rfl rfl r8 hfit.out hSz.out hS1.out ?_;intro w5 r5 hg5;refine Hid.out ?_))
  refine Lib.hid ?_
  have r5:Row w5 g8 27 V:=by rw[HP.out] at r5;exact r5
  have r2:=r2.grown hg5 (by omega)
  have hb5:=hb4.grown hg5 hb4.size (fun k h=>by cases h;omega)
  have K5:=Lib.hid (show w5.heap[g8]?=some (.cells V.toArray 27 (0,0)) from r5)
  have Q2:=Lib.hid (show w5.heap[w.heap.size+1]?=some (.cells Z.toArray 27 (0,0)) from r2)
  clear hg5 r5 hen R1 R2 R8 HP hfit hSz hS1 r1 r8
  go_wp2_with (first
   | (with_reducible refine wpList_load_row rfl 27 (.tmp 8) rfl g8 rfl 27 V.toArray (0,0) _ K5.out Tryz.underlying27 rfl hzV.out ?_)
   | (have _t:=Q2;refine wpList_store_row rfl 27 (.tmp 6) (.tmp 23) rfl (w.heap.size+1) V.toArray rfl rfl 27 Z.toArray Q2.out hzV.out hVZ.out hV1.out ?_;refine Hid.out ?_))
  refine Lib.hid ?_
  generalize hw8:World.setRow _ _ _=w8
  obtain⟨r9,hg8⟩:=a0z (show Row w5 (w.heap.size+1) 27 Z from Q2.out) hw8
  have hb8:=hb5.grown hg8 hb5.size (fun k h=>by cases h;omega)
  have R9:=Lib.hid (show w8.heap[w.heap.size+1]?=some (.cells V.toArray 27 (0,0)) from r9)
  clear hw8 r9 Q2
  go_wp2_with fail
  exact⟨rfl,_,a0g rfl _ _ (w.heap.size+1) 27 V.toArray (0,0) _ rfl R9.out Tryz.underlying27 rfl hzV.out _ rfl,none,0,by rw[HE.out,HG.out,HV.out];rfl,by rw[HG.out];exact⟨.inl rfl,Nat.le_refl _,fun _=>rfl⟩,(fun a h=>by cases h),hb8⟩
theorem k0Q {P:Program} (w:World) (base:Nat) (t ty e:TypeId) (i:TypeInfo) (z:Value) (k bytes:Nat) (ht:P.underlying t=some (.slice e)) (hi:P.info? e=some i) (hz:i.zero=some z)
  (hsize:i.size=k) (hk:0 < k) (hby:i.bytes=bytes) (hzs:z.cells.size=k) (v:Value) (n:Nat) (xs:List Value) (hown:w.ownsRow base e k v n xs)
  (ad:Addr) (c:Nat) (news:List Value) (hm:news.length=k) (hsl:Sl w (some ad) (c*k) news) (h1:∀u∈news,u.oneCell'=true)
  (h63:n+1≤maxLen) (hbytes:(n+1)*bytes≤140737488355328) (hbase:base≤w.heap.size) :
  ∃v' w',(Builtin.append_ #[t,t] ty #[v,.slice (some ad) 1 c]).run P w=.ok v' w'∧w'.ownsRow base e k v' (n+1) (xs++news)∧w.grownBy w' v.ownBlock∧(∀g',v'.ownBlock=some g'→v.ownBlock=some g'∨w.heap.size≤g'):=by
 obtain⟨v',w',hrun,h2,h3,_⟩:=run_append_own (P:=P) w base t ty e i z k bytes ht hi hz hsize hby hzs hk v n xs hown ad 1 c news (by omega) hsl.rd.at_add h1 h63 hbytes hbase
 refine⟨v',w',hrun,h2,h3,?_⟩
 subst hsize hby
 rcases hown.2 with ⟨rfl,rfl⟩ | ⟨g,cap,cur,rfl,hbg,hg,hnc,hcm,hcs,htake⟩
 ·have hr:=run_append_nil (P:=P) w t ty e i z ht hi hz ad 1 c news (by omega) hsl.rd.at_add (by omega) (by omega) (by omega)
  rw[hr] at hrun
  injection hrun with hv _
  subst hv
  intro g' hg'
  cases hg'
  exact .inr (Nat.le_refl _)
 ·by_cases hroom:n+1≤cap
  ·have hfit:n*i.size+news.length≤cur.size:=by
    have h4:(n+1)*i.size≤cap*i.size:=Nat.mul_le_mul_right _ hroom
    rw[hcs,hm]
    rw[Nat.succ_mul] at h4;omega
   have hr:=run_append_room (P:=P) w t ty e i ht hi g n cap cur hg ad 1 c news (by omega) hsl.rd.at_add h1 hroom hfit
   rw[hr] at hrun
   injection hrun with hv _
   subst hv
   exact fun g' hg'=>.inl hg'
  ·have holds:∀j u,xs[j]?=some u→w.cell? ((⟨g,0,none⟩:Addr).add j)=some u:=hown.cells (g:=g) rfl
   have hsmall:n+1≤9223372036854775807:=by simp only[maxLen] at h63;omega
   have hr:=run_append_grow (P:=P) w t ty e i z ht hi hz ⟨g,0,none⟩ n cap xs hown.1 holds ad 1 c news (by omega) hsl.rd.at_add (by omega) (by omega) (growslice_fits (by omega) hbytes)
   rw[hr] at hrun
   injection hrun with hv _
   subst hv
   intro g' hg'
   cases hg'
   exact .inr (Nat.le_refl _)
theorem i0s {P:Program} {w:World} {ops:Array Oper} {rest:List Oper} {o:Oper} {a:Act} {Q:Exit→Act→World→Prop} (hgd:o.guard=none) (s x:Operand) (t:TypeId)
  (ho:o.op=.call { callee:=.builtin .append,args:=#[s,x],argTypes:=#[t,t] })
  (base:Nat) (e:TypeId) (i:TypeInfo) (z:Value) (k bytes:Nat) (ht:P.underlying t=some (.slice e)) (hi:P.info? e=some i) (hz:i.zero=some z)
  (hsize:i.size=k) (hk:0 < k) (hby:i.bytes=bytes) (hzs:z.cells.size=k) (v:Value) (n:Nat) (xs:List Value) (hs:a.eval s=v) (hown:w.ownsRow base e k v n xs)
  (ad:Addr) (c:Nat) (news:List Value) (hx:a.eval x=.slice (some ad) 1 c) (hm:news.length=k) (hsl:Sl w (some ad) (c*k) news) (h1:∀u∈news,u.oneCell'=true)
  (h63:n+1≤maxLen) (hbytes:(n+1)*bytes≤140737488355328) (hbase:base≤w.heap.size)
  (h:∀v' w',w'.ownsRow base e k v' (n+1) (xs++news)→w.grownBy w' v.ownBlock→(∀g',v'.ownBlock=some g'→v.ownBlock=some g'∨w.heap.size≤g')→wpList P ops Q rest (a.put o.dst v') w'):wpList P ops Q (o :: rest) a w:=by
 refine wpList_plain hgd fun _ hK=>?_
 obtain⟨v',w',hrun,h2,h3,h4⟩:=k0Q (P:=P) w base t o.type e i z k bytes ht hi hz hsize hk hby hzs v n xs hown ad c news hm hsl h1 h63 hbytes hbase
 unfold Oper.wp execOp
 simp only[ho,resolve,invoke,builtin,Sem.run_bind,Sem.run_pure,Result.andThen_ok,List.map_toArray,List.map_cons,List.map_nil,hs,hx,hrun]
 exact hK _ _ (h v' w' h2 h3 h4)
end Go.Proofs.YtimdhdimhboboaaGreatDoor
