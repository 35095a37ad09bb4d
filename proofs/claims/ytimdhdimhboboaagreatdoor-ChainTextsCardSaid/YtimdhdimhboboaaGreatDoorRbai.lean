import Derived.Test.YtimdhdimhboboaaGreatDoorRbah
import Derived.Test.YtimdhdimhboboaaGreatDoorRbab
namespace Go.Proofs.YtimdhdimhboboaaGreatDoor
set_option maxRecDepth 100000
open Go Go.RowKit
theorem w0O (a:Adr) (h:a.Ok) (hc:b0b a=false) (w:World) :
  Calls Tryz.prog 112 #[.agg (adrV a).toArray] w fun e w'=>e=.returned (.string (bstr (a0U a)))∧Below w.heap.size w w':=by
 have HT:=Lib.hid (show a0U a=[] by unfold a0U;rw[hc];rfl)
 obtain⟨w1,hw1⟩:∃w1,w1=w.alloc (.cells (adrV a).toArray 65):=⟨_,rfl⟩
 have hr:Row w1 w.heap.size 65 (adrV a):=by rw[hw1];exact Row.new w _ _
 have hb:Below w.heap.size w w1:=by rw[hw1];exact (Below.refl _ w).alloc (Nat.le_refl _) _
 have hchk:=Lib.hid (f0S a h)
 have hT:=a0m hr
 obtain⟨V,hV⟩:∃V,V=adrV a:=⟨_,rfl⟩
 have hl:=Lib.hid (show (Tryz.prog.info? 65).map (·.size)=some V.length by rw[hV,a0l h,a0W])
 rw[←hV] at hw1 hchk hT ⊢
 rw[hc] at hchk
 clear hV hr
 go_enter Tryz.func112,Tryz.ntmps112
 subst hw1
 go_wp2_with (first
  | (with_reducible refine wpList_load_mid rfl 65 (.tmp 1) rfl w.heap.size 0 rfl V _ hT Tryz.underlying65 rfl hl.out ?_)
  | (go_at_call 154;refine (hchk.out _).mono ?_;rintro e w2 ⟨rfl,hb2⟩;have hb3:=hb.trans (hb2.mono hb.size)))
 go_ret
 exact⟨by rw[HT.out];rfl,hb3⟩
set_option maxHeartbeats 2000000 in
theorem t0u (a:Adr) (h:a.Ok) (hc:b0b a=true) (h6:a.v6=false) (w:World) :
  Calls Tryz.prog 112 #[.agg (adrV a).toArray] w fun e w'=>e=.returned (.string (bstr (a0U a)))∧Below w.heap.size w w':=by
 obtain⟨w1,hw1⟩:∃w1,w1=w.alloc (.cells (adrV a).toArray 65):=⟨_,rfl⟩
 have hr:Row w1 w.heap.size 65 (adrV a):=by rw[hw1];exact Row.new w _ _
 have hb:Below w.heap.size w w1:=by rw[hw1];exact (Below.refl _ w).alloc (Nat.le_refl _) _
 have hchk:=Lib.hid (f0S a h)
 have hT:=a0m hr
 have hrl:=fun w' (h:Below w1.heap.size w1 w')=>hr.later h hr.lt
 have hD:∀k,k < 4→∃x:UInt8,a.b.getD k 0=x:=fun k _=>⟨_,rfl⟩
 have HT:=Lib.hid (show a0U a=numL 10 (a.b.getD 0 0).toNat++[46]++numL 10 (a.b.getD 1 0).toNat++[46]++numL 10 (a.b.getD 2 0).toNat++[46]++numL 10 (a.b.getD 3 0).toNat by unfold a0U;rw[hc,h6];simp)
 have hE0:=Lib.hid (fun w' (hq:Below w1.heap.size w1 w')=>c0B h (hrl w' hq) 0 (by omega))
 have hE1:=Lib.hid (fun w' (hq:Below w1.heap.size w1 w')=>c0B h (hrl w' hq) 1 (by omega))
 have hE2:=Lib.hid (fun w' (hq:Below w1.heap.size w1 w')=>c0B h (hrl w' hq) 2 (by omega))
 have hE3:=Lib.hid (fun w' (hq:Below w1.heap.size w1 w')=>c0B h (hrl w' hq) 3 (by omega))
 have hE6:=Lib.hid (fun w' (hq:Below w1.heap.size w1 w')=>j0v (hrl w' hq))
 rw[h6] at hE6
 obtain⟨V,hV⟩:∃V,V=adrV a:=⟨_,rfl⟩
 have hl:=Lib.hid (show (Tryz.prog.info? 65).map (·.size)=some V.length by rw[hV,a0l h,a0W])
 rw[←hV] at hw1 hchk hT ⊢
 rw[hc] at hchk
 clear hV hr hrl hD
 have hn0:=Lib.hid (fun w'=>f0D (a.b.getD 0 0).toNat (a.b.getD 0 0).toNat w' (Nat.le_refl _) (by have:=(a.b.getD 0 0).toNat_lt;omega))
 have hl0:=b0f 10 (by omega) 2 (a.b.getD 0 0).toNat (by have:=(a.b.getD 0 0).toNat_lt;omega)
 generalize a.b.getD 0 0=x0 at *
 generalize numL 10 x0.toNat=X0 at *
 have hz0:(bstr X0).size=X0.length:=a0f _
 have hv0:IntKind.i64.wrap (x0.toNat:Int)=(x0.toNat:Int):=by rw[IntKind.wrap_i64];have:=x0.toNat_lt;omega
 have hn1:=Lib.hid (fun w'=>f0D (a.b.getD 1 0).toNat (a.b.getD 1 0).toNat w' (Nat.le_refl _) (by have:=(a.b.getD 1 0).toNat_lt;omega))
 have hl1:=b0f 10 (by omega) 2 (a.b.getD 1 0).toNat (by have:=(a.b.getD 1 0).toNat_lt;omega)
 generalize a.b.getD 1 0=x1 at *
 generalize numL 10 x1.toNat=X1 at *
 have hz1:(bstr X1).size=X1.length:=a0f _
 have hv1:IntKind.i64.wrap (x1.toNat:Int)=(x1.toNat:Int):=by rw[IntKind.wrap_i64];have:=x1.toNat_lt;omega
 have hn2:=Lib.hid (fun w'=>f0D (a.b.getD 2 0).toNat (a.b.getD 2 0).toNat w' (Nat.le_refl _) (by have:=(a.b.getD 2 0).toNat_lt;omega))
 have hl2:=b0f 10 (by omega) 2 (a.b.getD 2 0).toNat (by have:=(a.b.getD 2 0).toNat_lt;omega)
 generalize a.b.getD 2 0=x2 at *
 generalize numL 10 x2.toNat=X2 at *
 have hz2:(bstr X2).size=X2.length:=a0f _
 have hv2:IntKind.i64.wrap (x2.toNat:Int)=(x2.toNat:Int):=by rw[IntKind.wrap_i64];have:=x2.toNat_lt;omega
 have hn3:=Lib.hid (fun w'=>f0D (a.b.getD 3 0).toNat (a.b.getD 3 0).toNat w' (Nat.le_refl _) (by have:=(a.b.getD 3 0).toNat_lt;omega))
 have hl3:=b0f 10 (by omega) 2 (a.b.getD 3 0).toNat (by have:=(a.b.getD 3 0).toNat_lt;omega)
 generalize a.b.getD 3 0=x3 at *
 generalize numL 10 x3.toNat=X3 at *
 have hz3:(bstr X3).size=X3.length:=a0f _
 have hv3:IntKind.i64.wrap (x3.toNat:Int)=(x3.toNat:Int):=by rw[IntKind.wrap_i64];have:=x3.toNat_lt;omega
 go_enter Tryz.func112,Tryz.ntmps112
 subst hw1
 go_wp2_with (first
  | (with_reducible refine wpList_load_mid rfl 65 (.tmp 1) rfl w.heap.size 0 rfl V _ hT Tryz.underlying65 rfl hl.out ?_)
  | (go_at_call 154;refine (hchk.out _).mono ?_;rintro e w2 ⟨rfl,hb2⟩;have h6c:=hE6.out _ hb2))
 have hE0:∀w',Below w2.heap.size w2 w'→w'.cell? ⟨w.heap.size,1,none⟩=some (.int .u8 (x0.toNat:Int)):=fun w' hq=>hE0.out w' (hb2.trans (hq.mono hb2.size))
 have hE1:∀w',Below w2.heap.size w2 w'→w'.cell? ⟨w.heap.size,2,none⟩=some (.int .u8 (x1.toNat:Int)):=fun w' hq=>hE1.out w' (hb2.trans (hq.mono hb2.size))
 have hE2:∀w',Below w2.heap.size w2 w'→w'.cell? ⟨w.heap.size,3,none⟩=some (.int .u8 (x2.toNat:Int)):=fun w' hq=>hE2.out w' (hb2.trans (hq.mono hb2.size))
 have hE3:∀w',Below w2.heap.size w2 w'→w'.cell? ⟨w.heap.size,4,none⟩=some (.int .u8 (x3.toNat:Int)):=fun w' hq=>hE3.out w' (hb2.trans (hq.mono hb2.size))
 have hb2:=hb.trans (hb2.mono hb.size)
 clear hT hb
 refine wp_region_noPanic ?_
 refine wp_region_held_drew (S:=fun w'=>Below w2.heap.size w2 w') (by kernel_rfl) ((Below.refl _ _).drew) (fun hHeld=>?_)
 have hB:=hHeld
 refine rt 0 14 hHeld ?_
 refine rt 1 15 hHeld ?_
 refine rt 2 16 hHeld ?_
 refine rt 3 17 hHeld ?_
 refine rt 6 20 hHeld ?_
 refine rt 7 21 hHeld ?_
 refine rt 8 22 hHeld ?_
 refine rt 9 23 hHeld ?_
 refine rt 13 27 hHeld ?_
 refine rt 14 28 hHeld ?_
 refine rt 15 29 hHeld ?_
 refine rt 16 30 hHeld ?_
 refine rt 20 34 hHeld ?_
 refine rt 21 35 hHeld ?_
 refine rt 22 36 hHeld ?_
 refine rt 23 37 hHeld ?_
 refine wpAnyH_ready (rs:=[4]) (by kernel_rfl) (by simp) (AllReadyH.cons (o:=_) rfl (fun K hK=>?_) AllReadyH.nil)
 go_simp
 refine (hn0.out _).mono ?_;rintro e ww24 ⟨rfl,hqw24⟩
 try go_wp2_with fail
 refine hK.out _ _ (hHeld.trans (hqw24.mono hHeld.size)) (fun hHeld'=>?_)
 clear hK K
 try (first | (rw[a0c];dsimp only[List.set]) | rw[a0d])
 have hB:=a0a hB hqw24
 have hB4:Below ww24.heap.size ww24 ww24:=Below.refl _ _
 refine a0j (S':=fun w'=>Below ww24.heap.size ww24 w') (fun _ h=>(hHeld.trans (hqw24.mono hHeld.size)).trans (h.mono (hHeld.trans (hqw24.mono hHeld.size)).size)) _ _ _ _ ?_
 clear hHeld
 have hHeld:Below ww24.heap.size ww24 ww24:=Below.refl _ _
 refine rt 5 19 hHeld ?_ (hy:=by intro w hS;go_simp;rw[if_neg (by (try simp only[ByteArray.size_append,hz0,hz1,hz2,hz3]);(try simp only[show ByteArray.size { data:=#[46] }=1 from rfl]);omega)])
 refine wpAnyH_ready (rs:=[10]) (by kernel_rfl) (by simp) (AllReadyH.cons (o:=_) rfl (fun K hK=>?_) AllReadyH.nil)
 go_simp
 refine (hn1.out _).mono ?_;rintro e ww210 ⟨rfl,hqw210⟩
 try go_wp2_with fail
 refine hK.out _ _ (hHeld.trans (hqw210.mono hHeld.size)) (fun hHeld'=>?_)
 clear hK K
 try (first | (rw[a0c];dsimp only[List.set]) | rw[a0d])
 have hB:=a0a hB hqw210
 have hB4:=a0a hB4 hqw210
 have hB10:Below ww210.heap.size ww210 ww210:=Below.refl _ _
 refine a0j (S':=fun w'=>Below ww210.heap.size ww210 w') (fun _ h=>(hHeld.trans (hqw210.mono hHeld.size)).trans (h.mono (hHeld.trans (hqw210.mono hHeld.size)).size)) _ _ _ _ ?_
 clear hHeld
 have hHeld:Below ww210.heap.size ww210 ww210:=Below.refl _ _
 refine rt 11 25 hHeld ?_ (hy:=by intro w hS;go_simp;rw[if_neg (by (try simp only[ByteArray.size_append,hz0,hz1,hz2,hz3]);(try simp only[show ByteArray.size { data:=#[46] }=1 from rfl]);omega)])
 refine rt 12 26 hHeld ?_ (hy:=by intro w hS;go_simp;rw[if_neg (by (try simp only[ByteArray.size_append,hz0,hz1,hz2,hz3]);(try simp only[show ByteArray.size { data:=#[46] }=1 from rfl]);omega)])
 refine wpAnyH_ready (rs:=[17]) (by kernel_rfl) (by simp) (AllReadyH.cons (o:=_) rfl (fun K hK=>?_) AllReadyH.nil)
 go_simp
 refine (hn2.out _).mono ?_;rintro e ww217 ⟨rfl,hqw217⟩
 try go_wp2_with fail
 refine hK.out _ _ (hHeld.trans (hqw217.mono hHeld.size)) (fun hHeld'=>?_)
 clear hK K
 try (first | (rw[a0c];dsimp only[List.set]) | rw[a0d])
 have hB:=a0a hB hqw217
 have hB4:=a0a hB4 hqw217
 have hB10:=a0a hB10 hqw217
 have hB17:Below ww217.heap.size ww217 ww217:=Below.refl _ _
 refine a0j (S':=fun w'=>Below ww217.heap.size ww217 w') (fun _ h=>(hHeld.trans (hqw217.mono hHeld.size)).trans (h.mono (hHeld.trans (hqw217.mono hHeld.size)).size)) _ _ _ _ ?_
 clear hHeld
 have hHeld:Below ww217.heap.size ww217 ww217:=Below.refl _ _
 refine rt 18 32 hHeld ?_ (hy:=by intro w hS;go_simp;rw[if_neg (by (try simp only[ByteArray.size_append,hz0,hz1,hz2,hz3]);(try simp only[show ByteArray.size { data:=#[46] }=1 from rfl]);omega)])
 refine rt 19 33 hHeld ?_ (hy:=by intro w hS;go_simp;rw[if_neg (by (try simp only[ByteArray.size_append,hz0,hz1,hz2,hz3]);(try simp only[show ByteArray.size { data:=#[46] }=1 from rfl]);omega)])
 refine wpAnyH_ready (rs:=[24]) (by kernel_rfl) (by simp) (AllReadyH.cons (o:=_) rfl (fun K hK=>?_) AllReadyH.nil)
 go_simp
 refine (hn3.out _).mono ?_;rintro e ww224 ⟨rfl,hqw224⟩
 try go_wp2_with fail
 refine hK.out _ _ (hHeld.trans (hqw224.mono hHeld.size)) (fun hHeld'=>?_)
 clear hK K
 try (first | (rw[a0c];dsimp only[List.set]) | rw[a0d])
 have hB:=a0a hB hqw224
 have hB4:=a0a hB4 hqw224
 have hB10:=a0a hB10 hqw224
 have hB17:=a0a hB17 hqw224
 have hB24:Below ww224.heap.size ww224 ww224:=Below.refl _ _
 refine a0j (S':=fun w'=>Below ww224.heap.size ww224 w') (fun _ h=>(hHeld.trans (hqw224.mono hHeld.size)).trans (h.mono (hHeld.trans (hqw224.mono hHeld.size)).size)) _ _ _ _ ?_
 clear hHeld
 have hHeld:Below ww224.heap.size ww224 ww224:=Below.refl _ _
 refine rt 25 39 hHeld ?_ (hy:=by intro w hS;go_simp;rw[if_neg (by (try simp only[ByteArray.size_append,hz0,hz1,hz2,hz3]);(try simp only[show ByteArray.size { data:=#[46] }=1 from rfl]);omega)])
 refine rt 26 2 hHeld ?_
 refine wpAnyH_done (by kernel_rfl) ?_ _
 refine NoPanic.normal ?_
 have hBe:=hb2.trans (hB.mono hb2.size)
 clear hHeld
 go_wp2
 go_ret
 exact⟨by rw[HT.out];simp only[←a0r];rfl,hBe⟩
theorem h0B:(Tryz.prog.info? 3).map (fun i=>(i.zero,i.size,i.bytes))=some (some (.int .i64 0),1,8):=by kernel_rfl
def numA (a:Adr) (i:Nat):Nat:=(a.b.getD (2*i) 0).toNat*256+(a.b.getD (2*i+1) 0).toNat
theorem m0p (a:Adr):c0d a=(List.range 8).map (numA a):=rfl
theorem b1u (a:Adr) (i:Nat):numA a i≤65535:=by
 unfold numA
 have:=(a.b.getD (2*i) 0).toNat_lt
 have:=(a.b.getD (2*i+1) 0).toNat_lt
 omega
def c0V (l:List Nat) (k:Nat):Nat:=(List.range k).foldl (fun best i=>if a0S (l.drop i) > a0S (l.drop best) then i else best) 0
theorem k0U (l:List Nat) (k:Nat):c0V l (k+1)=if a0S (l.drop k) > a0S (l.drop (c0V l k)) then k else c0V l k:=by
 unfold c0V
 rw[List.range_succ,List.foldl_append];rfl
theorem l0Q (l:List Nat) (k:Nat):c0V l k≤k:=by
 induction k with
 | zero=>exact Nat.le_refl _
 | succ k ih=>rw[k0U];split<;>omega
theorem q0F (A:Option Addr) (c:Nat) (l:List Nat) (w0:World) (h:Sl w0 A c (b0i l)) (i:Nat) (hi:i≤l.length) :
  (∃A' c',(∀w,(Instr.sliceAt 158 (.slice A l.length c) none (some (.int .i64 i)) none).run Tryz.prog w=.ok (.slice A' i c') w)∧Sl w0 A' c' (b0i (l.take i))) ∧
  (∃A' c',(∀w,(Instr.sliceAt 158 (.slice A l.length c) (some (.int .i64 i)) none none).run Tryz.prog w=.ok (.slice A' (l.length - i) c') w)∧Sl w0 A' c' (b0i (l.drop i))):=by
 have hr:=h.room
 rw[b0F] at hr
 rw[s0u,s0t]
 cases A with
 | none =>
  have hc:=h.bare rfl
  subst hc
  have hl:l.length=0:=by omega
  obtain rfl:l=[]:=List.eq_nil_of_length_eq_zero hl
  have ei:i=0:=by simpa using hi
  subst ei
  clear hr hl hi
  refine⟨⟨none,0,fun w=>?_,h⟩,⟨none,0,fun w=>?_,h⟩⟩
  ·clear h;go_simp
  ·clear h;go_simp
 | some a =>
  refine⟨⟨some a,c,fun w=>?_,h.take⟩,⟨some (if c=i then a else a.add i),c - i,fun w=>?_,?_⟩⟩
  ·have h2:(i:Int)≤(c:Int):=by omega
   clear h hi hr
   go_simp
  ·have h3:(i:Int)≤(l.length:Int):=by omega
   have h2:(l.length:Int)≤(c:Int):=by omega
   have h4:((l.length:Int) - (i:Int)).toNat=l.length - i:=by omega
   clear h hi hr
   generalize l.length=n at *
   go_simp
   split<;>rfl
  ·by_cases h0:0 < l.length
   ·obtain⟨b,o,he,_⟩:=h.rd.get (i:=0) (by rw[b0F];exact h0)
    cases he
    rw[Addr.add_lit]
    exact h.from (by rw[b0F];omega) rfl
   ·obtain rfl:l=[]:=List.eq_nil_of_length_eq_zero (by omega)
    exact⟨.inl (by simp[b0i]),by simp[b0i],fun h=>by cases h⟩
set_option maxHeartbeats 2000000 in
theorem w0P (a:Adr) (h:a.Ok) (h6:a.v6=true) (w:World) :
  Calls Tryz.prog 112 #[.agg (adrV a).toArray] w fun e w'=>e=.returned (.string (bstr (a0U a)))∧Below w.heap.size w w':=by
 obtain⟨i0,hi,hz0,hz1,hz2⟩:=info_parts h0B
 obtain⟨w1,hw1⟩:∃w1,w1=w.alloc (.cells (adrV a).toArray 65):=⟨_,rfl⟩
 have hr:Row w1 w.heap.size 65 (adrV a):=by rw[hw1];exact Row.new w _ _
 have hb:Below w.heap.size w w1:=by rw[hw1];exact (Below.refl _ w).alloc (Nat.le_refl _) _
 have hchk:=Lib.hid (f0S a h)
 have hT:=a0m hr
 have hrl:=fun w' (h:Below w1.heap.size w1 w')=>hr.later h hr.lt
 have hc:b0b a=true:=by unfold b0b;rw[h6];rfl
 have HT:=Lib.hid (show a0U a=d0C (c0d a) by unfold a0U;rw[hc,h6];rfl)
 have hE:=Lib.hid (fun w' (hq:Below w1.heap.size w1 w')=>c0B h (hrl w' hq))
 have hE6:=Lib.hid (fun w' (hq:Below w1.heap.size w1 w')=>j0v (hrl w' hq))
 rw[h6] at hE6
 obtain⟨V,hV⟩:∃V,V=adrV a:=⟨_,rfl⟩
 have hl:=Lib.hid (show (Tryz.prog.info? 65).map (·.size)=some V.length by rw[hV,a0l h,a0W])
 rw[←hV] at hw1 hchk hT ⊢
 rw[hc] at hchk
 clear hV hr hrl
 go_enter Tryz.func112,Tryz.ntmps112
 subst hw1
 go_wp2_with (first
  | (with_reducible refine wpList_load_mid rfl 65 (.tmp 1) rfl w.heap.size 0 rfl V _ hT Tryz.underlying65 rfl hl.out ?_)
  | (go_at_call 154;refine (hchk.out _).mono ?_;rintro e w2 ⟨rfl,hb2⟩;have h6c:=hE6.out _ hb2;have hown0:(w2.alloc (.cells #[] 3)).ownsRow w2.heap.size 3 1 (.slice (some ⟨w2.heap.size,0,none⟩) 0 0) 0 (b0i []):=World.ownsRow_lit w2 (e:=3) (size:=1) #[] 0 (Nat.le_refl _) (by unfold maxLen;omega) rfl))
 have hE:∀w',Below w2.heap.size w2 w'→∀k,k < 16→w'.cell? ⟨w.heap.size,1+k,none⟩=some (.int .u8 ((a.b.getD k 0).toNat:Int)):=fun w' hq=>hE.out w' (hb2.trans (hq.mono hb2.size))
 have hb2:=hb.trans (hb2.mono hb.size)
 have hbr0:Below w2.heap.size w2 (w2.alloc (.cells #[] 3)):=(Below.refl _ w2).alloc (Nat.le_refl _) _
 clear hT hb hE6
 go_loopw [3,4] (fun v i wr=>∃k:Nat,k≤8∧i=.int .i64 k∧wr.ownsRow w2.heap.size 3 1 v k (b0i ((List.range k).map (numA a)))∧Below w2.heap.size w2 wr) (fun _ i _=>8 - (intOf i).toNat)
 case atStart=>exact⟨0,by omega,rfl,hown0,hbr0⟩
 case round =>
  clear hown0 hbr0
  obtain⟨k,hk,rfl,hown,hbr⟩:=hrel
  by_cases hlt:k < 8
  ·have hc1:∀w',Below w2.heap.size w2 w'→w'.cell? ⟨w.heap.size,1+2*k,none⟩=some (.int .u8 ((a.b.getD (2*k) 0).toNat:Int)):=fun w' hq=>hE w' hq (2*k) (by omega)
   have hc2:∀w',Below w2.heap.size w2 w'→w'.cell? ⟨w.heap.size,1+(2*k+1),none⟩=some (.int .u8 ((a.b.getD (2*k+1) 0).toNat:Int)):=fun w' hq=>hE w' hq (2*k+1) (by omega)
   have HN:=Lib.hid (show (List.range (k+1)).map (numA a)=(List.range k).map (numA a)++[(a.b.getD (2*k) 0).toNat*256+(a.b.getD (2*k+1) 0).toNat] by rw[List.range_succ,List.map_append];rfl)
   have hlt':(k:Int) < 8:=by omega
   generalize a.b.getD (2*k) 0=x at *
   generalize a.b.getD (2*k+1) 0=y at *
   have hx:=x.toNat_lt
   have hy:=y.toNat_lt
   have hI0:IntKind.i64.wrap (2*(k:Int))=2*(k:Int):=by rw[IntKind.wrap_i64];omega
   have hI1:(0:Int)≤2*(k:Int):=by omega
   have hI2:2*(k:Int) < 16:=by omega
   have hI3:(2*(k:Int)).toNat=2*k:=by omega
   have hJ0:IntKind.i64.wrap (2*(k:Int)+1)=2*(k:Int)+1:=by rw[IntKind.wrap_i64];omega
   have hJ1:(0:Int)≤2*(k:Int)+1:=by omega
   have hJ2:2*(k:Int)+1 < 16:=by omega
   have hJ3:(2*(k:Int)+1).toNat=2*k+1:=by omega
   have hX0:IntKind.i64.wrap (x.toNat:Int)=(x.toNat:Int):=by rw[IntKind.wrap_i64];omega
   have hY0:IntKind.i64.wrap (y.toNat:Int)=(y.toNat:Int):=by rw[IntKind.wrap_i64];omega
   obtain⟨n,hn⟩:∃n,n=x.toNat*256+y.toNat:=⟨_,rfl⟩
   rw[←hn] at HN
   have hX1:IntKind.i64.wrap ((x.toNat:Int)*256)=(x.toNat:Int)*256:=by rw[IntKind.wrap_i64];omega
   have hX2:IntKind.i64.wrap ((x.toNat:Int)*256+(y.toNat:Int))=(n:Int):=by rw[IntKind.wrap_i64];omega
   clear hn hE
   go_wp2_with fail
   refine wp_region_noPanic ?_
   refine wp_region_held_drew (S:=fun w'=>Below w2.heap.size w2 w') (by kernel_rfl) (hbr.drew) (fun hHeld=>?_)
   refine rt 0 45 hHeld ?_
   refine rt 1 46 hHeld ?_
   refine rt 2 47 hHeld ?_
   refine rt 3 48 hHeld ?_
   refine rt 4 49 hHeld ?_
   refine rt 5 50 hHeld ?_
   refine rt 6 51 hHeld ?_
   refine rt 7 52 hHeld ?_
   refine rt 8 53 hHeld ?_
   refine rt 9 54 hHeld ?_
   refine rt 10 55 hHeld ?_
   refine rt 11 56 hHeld ?_
   refine rt 12 57 hHeld ?_
   refine rt 13 58 hHeld ?_
   refine rt 14 59 hHeld ?_
   refine rt 15 60 hHeld ?_
   refine wpAnyH_ready (rs:=[16]) (by kernel_rfl) (by simp) (AllReadyH.cons (o:=_) rfl (fun K hK=>?_) AllReadyH.nil)
   refine b0x (some 61) rfl (by rfl) (.slice (some ⟨wr.heap.size,0,none⟩) 1 1) (.cells (b0i [n]).toArray 3) (by go_simp;try rfl) ?_;intro w4 hw4 hb4;have hq4:=hHeld.trans (hb4.mono hHeld.size);have hsl4:Sl w4 (some ⟨wr.heap.size,0,none⟩) 1 (b0i [n]):=(by rw[hw4];exact⟨Rd.block (Go.heap_alloc_new wr.drew _),Nat.le_refl _,fun h=>by cases h⟩);have hown4:=a0x hown ((Below.refl wr.heap.size wr).drew.trans hb4) (Nat.le_refl _);clear hw4
   refine hK.out _ _ (hq4) (fun hHeld=>?_)
   clear hK K
   try (first | (rw[a0c];dsimp only[List.set]) | rw[a0d])
   refine wpAnyH_ready (rs:=[17]) (by kernel_rfl) (by simp) (AllReadyH.cons (o:=_) rfl (fun K hK=>?_) AllReadyH.nil)
   refine b0v (some 62) rfl (by rfl) (.tmp 45) (.tmp 61) 158 rfl w2.heap.size 3 i0 _ 8 Tryz.underlying158 hi hz0 hz1 hz2 rfl _ k _ rfl hown4 (some ⟨wr.heap.size,0,none⟩) 1 1 (b0i [n]) rfl rfl hsl4 (g0n _) (by unfold maxLen;omega) (by omega) w2 rfl hq4 ?_;intro v5 w5 hown5 hg5 hq5;rw[←d0t,←HN.out] at hown5
   refine hK.out _ _ (hq5) (fun hHeld=>?_)
   clear hK K
   try (first | (rw[a0c];dsimp only[List.set]) | rw[a0d])
   refine rt 18 3 hHeld ?_
   refine wpAnyH_done (by kernel_rfl) ?_ _
   refine NoPanic.normal ?_
   clear hHeld hown hown4 hsl4 hc1 hc2
   go_wp2
   go_roundw
   case rel=>exact⟨k+1,by omega,by go_num,hown5,hq5⟩
   case measure=>simp[intOf];omega
  ·have hk8:(k:Int)=8:=by omega
   rw[hk8]
   obtain rfl:k=8:=by omega
   rw[←m0p] at hown
   have hbw:=hb2.trans (hbr.mono hb2.size)
   obtain⟨A,c,rfl,-,hsl⟩:=Sl.of_own hown
   have hL8:(c0d a).length=8:=by rw[m0p];rfl
   have hL:=Lib.hid (fun n (hn:n∈c0d a)=>show n≤65535 by
    rw[m0p] at hn
    obtain⟨i,_,rfl⟩:=List.mem_map.1 hn
    exact b1u a i)
   obtain⟨l,hl⟩:∃l,l=c0d a:=⟨_,rfl⟩
   rw[←hl] at hsl hL8 hL HT
   have hzr:=Lib.hid (fun p (hp:p≤8) w' (hs:Sl w' A c (b0i l))=>by have:=t0w l p (by omega) (by omega) A c w' hs;rw[hL8] at this;exact this)
   clear hl hown hE hbr hlt hk hk8
   go_wp2
   go_loop [5,65] (fun b i=>∃k:Nat,k≤8∧i=.int .i64 k∧b=.int .i64 (c0V l k:Nat)) (fun _ i=>8 - (intOf i).toNat)
   case atStart=>exact⟨0,by omega,rfl,rfl⟩
   case round =>
    obtain⟨k,hk,rfl,rfl⟩:=hrel
    by_cases hlt:k < 8
    ·have hlt':(k:Int) < 8:=by omega
     have hk1:=hzr.out k (by omega) _ hsl
     have hbk:=l0Q l k
     have hk2:=hzr.out (c0V l k) (by omega) _ hsl
     have HB:=Lib.hid (k0U l k)
     by_cases hg:a0S (l.drop k) > a0S (l.drop (c0V l k))
     ·have HB2:=Lib.hid (HB.out.trans (if_pos hg))
      have hg':((a0S (l.drop (c0V l k)):Nat):Int) < ((a0S (l.drop k):Nat):Int):=by omega
      generalize a0S (l.drop (c0V l k))=z2 at *
      generalize a0S (l.drop k)=z1 at *
      generalize c0V l k=b at *
      have HK1:=Lib.hid hk1
      have HK2:=Lib.hid hk2
      clear HB hk1 hk2 hg
      have tok1:True:=trivial
      go_wp2_with (first
       | (have _t:=tok1;go_at_call 156;refine (HK1.out).mono ?_;rintro e w6 ⟨rfl,rfl⟩;clear tok1)
       | (go_at_call 156;refine (HK2.out).mono ?_;rintro e w6 ⟨rfl,rfl⟩))
      go_round
      case rel=>exact⟨k+1,by omega,by go_num,by rw[HB2.out]⟩
      case measure=>simp[intOf];omega
     ·have HB2:=Lib.hid (HB.out.trans (if_neg hg))
      have hg':((a0S (l.drop k):Nat):Int)≤((a0S (l.drop (c0V l k)):Nat):Int):=by omega
      generalize a0S (l.drop (c0V l k))=z2 at *
      generalize a0S (l.drop k)=z1 at *
      generalize c0V l k=b at *
      have HK1:=Lib.hid hk1
      have HK2:=Lib.hid hk2
      clear HB hk1 hk2 hg
      have tok1:True:=trivial
      go_wp2_with (first
       | (have _t:=tok1;go_at_call 156;refine (HK1.out).mono ?_;rintro e w6 ⟨rfl,rfl⟩;clear tok1)
       | (go_at_call 156;refine (HK2.out).mono ?_;rintro e w6 ⟨rfl,rfl⟩))
      go_round
      case rel=>exact⟨k+1,by omega,by go_num,by rw[HB2.out]⟩
      case measure=>simp[intOf];omega
    ·obtain rfl:k=8:=by omega
     have hbk:=l0Q l 8
     have hzb:=o0V (l.drop (c0V l 8))
     rw[List.length_drop,hL8] at hzb
     have hk2:=Lib.hid (hzr.out (c0V l 8) hbk _ hsl)
     have hjw:=Lib.hid (fun w' (hb:Below wr.heap.size wr w')=>by have:=h0n l hL.out (by omega) A c w' (hsl.later (Nat.le_refl _) hb);rw[hL8] at this;exact this)
     have hT2:=Lib.hid (show a0U a=if a0S (l.drop (c0V l 8)) < 2 then b0H l else b0H (l.take (c0V l 8))++[58,58]++b0H (l.drop (c0V l 8+a0S (l.drop (c0V l 8)))) by
      have hbe:d0A l=c0V l 8:=by show c0V l l.length=_;rw[hL8]
      rw[HT.out]
      show (if a0S (l.drop (d0A l)) < 2 then b0H l else b0H (l.take (d0A l))++58 :: 58 :: b0H (l.drop (d0A l+a0S (l.drop (d0A l)))))=_
      rw[hbe]
      simp)
     by_cases hz:a0S (l.drop (c0V l 8)) < 2
     ·have HT3:=Lib.hid (hT2.out.trans (if_pos hz))
      have hz':((a0S (l.drop (c0V l 8)):Nat):Int) < 2:=by omega
      generalize a0S (l.drop (c0V l 8))=n at *
      generalize c0V l 8=b at *
      clear hz hT2 hlt HT
      go_wp2_with (first
       | (go_at_call 156;refine (hk2.out).mono ?_;rintro e w6 ⟨rfl,rfl⟩)
       | (go_at_call 157;refine (hjw.out _ (Below.refl _ _)).mono ?_;rintro e w7 ⟨rfl,hb7⟩))
      go_ret
      exact⟨by rw[HT3.out];rfl,hbw.trans (hb7.mono hbw.size)⟩
     ·have HT3:=Lib.hid (hT2.out.trans (if_neg hz))
      have hz':(2:Int)≤((a0S (l.drop (c0V l 8)):Nat):Int):=by omega
      generalize a0S (l.drop (c0V l 8))=n at *
      generalize c0V l 8=b at *
      clear hz hT2 hlt HT
      obtain⟨m,hm⟩:∃m,m=b+n:=⟨_,rfl⟩
      rw[←hm] at HT3
      have hw9:IntKind.i64.wrap ((b:Int)+(n:Int))=(m:Int):=by rw[IntKind.wrap_i64];omega
      obtain⟨⟨A1,c1,hr1,hs1⟩,-⟩:=q0F A c l _ hsl b (by omega)
      obtain⟨-,⟨A2,c2,hr2,hs2⟩⟩:=q0F A c l _ hsl m (by omega)
      rw[hL8] at hr1 hr2
      have hj1:=Lib.hid (fun w' (hb:Below wr.heap.size wr w')=>by have:=h0n (l.take b) (fun q hq=>hL.out q (List.mem_of_mem_take hq)) (by rw[List.length_take];omega) A1 c1 w' (hs1.later (Nat.le_refl _) hb);rw[List.length_take,hL8,Nat.min_eq_left (by omega)] at this;exact this)
      have hj2:=Lib.hid (fun w' (hb:Below wr.heap.size wr w')=>by have:=h0n (l.drop m) (fun q hq=>hL.out q (List.mem_of_mem_drop hq)) (by rw[List.length_drop];omega) A2 c2 w' (hs2.later (Nat.le_refl _) hb);rw[List.length_drop,hL8] at this;exact this)
      have hlj1:=j0Q (l.take b) (fun q hq=>hL.out q (List.mem_of_mem_take hq))
      have hlj2:=j0Q (l.drop m) (fun q hq=>hL.out q (List.mem_of_mem_drop hq))
      rw[List.length_take,hL8] at hlj1
      rw[List.length_drop,hL8] at hlj2
      generalize b0H (l.take b)=J1 at *
      generalize b0H (l.drop m)=J2 at *
      have hs1:(bstr J1).size=J1.length:=a0f _
      have hs2:(bstr J2).size=J2.length:=a0f _
      go_wp2_with (go_at_call 156;refine (hk2.out).mono ?_;rintro e w6 ⟨rfl,rfl⟩)
      clear hsl hL hzr hk2 hjw hm
      refine wp_region_noPanic ?_
      refine wp_region_held_drew (S:=fun w'=>Below wr.heap.size wr w') (by kernel_rfl) ((Below.refl _ _).drew) (fun hHeld=>?_)
      have hB:=hHeld
      refine rt 0 84 hHeld ?_
      refine rt 1 85 hHeld ?_
      refine rt 2 86 hHeld ?_
      refine rt 5 89 hHeld ?_
      refine rt 6 90 hHeld ?_
      refine rt 7 91 hHeld ?_
      refine rt 8 92 hHeld ?_
      refine rt 9 93 hHeld ?_
      refine wpAnyH_ready (rs:=[3]) (by kernel_rfl) (by simp) (AllReadyH.cons (o:=_) rfl (fun K hK=>?_) AllReadyH.nil)
      go_simp
      refine (hj1.out _ hB).mono ?_;rintro e wwr3 ⟨rfl,hqwr3⟩
      try go_wp2_with fail
      refine hK.out _ _ (hHeld.trans (hqwr3.mono hHeld.size)) (fun hHeld'=>?_)
      clear hK K
      try (first | (rw[a0c];dsimp only[List.set]) | rw[a0d])
      have hB:=a0a hB hqwr3
      have hB3:Below wwr3.heap.size wwr3 wwr3:=Below.refl _ _
      refine a0j (S':=fun w'=>Below wwr3.heap.size wwr3 w') (fun _ h=>(hHeld.trans (hqwr3.mono hHeld.size)).trans (h.mono (hHeld.trans (hqwr3.mono hHeld.size)).size)) _ _ _ _ ?_
      clear hHeld
      have hHeld:Below wwr3.heap.size wwr3 wwr3:=Below.refl _ _
      refine rt 4 88 hHeld ?_ (hy:=by intro w hS;go_simp;rw[if_neg (by (try simp only[ByteArray.size_append,hs1,hs2]);(try simp only[show ByteArray.size { data:=#[58,58] }=2 from rfl]);omega)])
      refine wpAnyH_ready (rs:=[10]) (by kernel_rfl) (by simp) (AllReadyH.cons (o:=_) rfl (fun K hK=>?_) AllReadyH.nil)
      go_simp
      refine (hj2.out _ hB).mono ?_;rintro e wwr10 ⟨rfl,hqwr10⟩
      try go_wp2_with fail
      refine hK.out _ _ (hHeld.trans (hqwr10.mono hHeld.size)) (fun hHeld'=>?_)
      clear hK K
      try (first | (rw[a0c];dsimp only[List.set]) | rw[a0d])
      have hB:=a0a hB hqwr10
      have hB3:=a0a hB3 hqwr10
      have hB10:Below wwr10.heap.size wwr10 wwr10:=Below.refl _ _
      refine a0j (S':=fun w'=>Below wwr10.heap.size wwr10 w') (fun _ h=>(hHeld.trans (hqwr10.mono hHeld.size)).trans (h.mono (hHeld.trans (hqwr10.mono hHeld.size)).size)) _ _ _ _ ?_
      clear hHeld
      have hHeld:Below wwr10.heap.size wwr10 wwr10:=Below.refl _ _
      refine rt 11 95 hHeld ?_ (hy:=by intro w hS;go_simp;rw[if_neg (by (try simp only[ByteArray.size_append,hs1,hs2]);(try simp only[show ByteArray.size { data:=#[58,58] }=2 from rfl]);omega)])
      refine rt 12 2 hHeld ?_
      refine wpAnyH_done (by kernel_rfl) ?_ _
      refine NoPanic.normal ?_
      have hBe:=hbw.trans (hB.mono hbw.size)
      clear hHeld
      go_wp2
      go_ret
      exact⟨by rw[HT3.out];simp only[←a0r];rfl,hBe⟩
theorem i0p (a:Adr) (h:a.Ok) (w:World) :
  Calls Tryz.prog 112 #[.agg (adrV a).toArray] w fun e w'=>e=.returned (.string (bstr (a0U a)))∧Below w.heap.size w w':=by
 cases h6:a.v6 with
 | true=>exact w0P a h h6 w
 | false =>
  cases hc:b0b a with
  | true=>exact t0u a h hc h6 w
  | false=>exact w0O a h hc w
def digI (b:Nat) (c:UInt8):Int:=(List.range b).foldl (fun d j=>if hexD j=c then (j:Int) else d) (-1)
theorem g0l (b:Nat) (c:UInt8):digI (b+1) c=if hexD b=c then (b:Int) else digI b c:=by
 unfold digI
 rw[List.range_succ,List.foldl_append];rfl
theorem l0W (b:Nat) (c:UInt8):-1≤digI b c∧digI b c < b:=by
 induction b with
 | zero=>exact⟨by show (-1:Int)≤-1;omega,by show (-1:Int) < _;omega⟩
 | succ b ih=>rw[g0l];split<;>omega
theorem q0G (b:Nat) (c:UInt8) (h:0≤digI b c):hexD (digI b c).toNat=c:=by
 induction b with
 | zero=>exact absurd h (by show ¬(0:Int)≤-1;omega)
 | succ b ih =>
  rw[g0l] at h ⊢
  split
  ·rename_i e;simpa using e
  ·rename_i e;rw[if_neg e] at h;exact ih h
def b0U (b:Nat):Nat→List UInt8→Option Nat
 | n,[]=>some n
 | n,c :: s=>if digI b c < 0 then none else b0U b (n*b+(digI b c).toNat) s
def optI:Option Nat→Int
 | none=>-1
 | some n=>n
def a0M (b most:Nat) (s:List UInt8):Option Nat :=
 if s.length=0∨most < s.length then none
 else match b0U b 0 s with
  | none=>none
  | some n=>if numL b n=s then some n else none
theorem g0F (b n k:Nat) (s:List UInt8) (h:k < s.length):b0U b n (s.drop k)=if digI b (s.getD k 0) < 0 then none else b0U b (n*b+(digI b (s.getD k 0)).toNat) (s.drop (k+1)):=by
 rw[List.drop_eq_getElem_cons h,b0U,List.getD_eq_getElem?_getD,List.getElem?_eq_getElem h];rfl
theorem y0z:∀i j:Nat,i < 16→j < 16→hexD i=hexD j→i=j:=by
 have h:∀i j:Fin 16,hexD i.1=hexD j.1→i=j:=by decide
 intro i j hi hj he
 exact congrArg Fin.val (h ⟨i,hi⟩ ⟨j,hj⟩ he)
theorem n0J:∀i:Nat,i < 16→hexD i≠46∧hexD i≠58:=by
 have h:∀i:Fin 16,hexD i.1≠46∧hexD i.1≠58:=by decide
 intro i hi
 exact h ⟨i,hi⟩
theorem u0K (b d:Nat) (hb:b≤16) (hd:d < b):digI b (hexD d)=d:=by
 induction b with
 | zero=>omega
 | succ b ih =>
  rw[g0l]
  by_cases h:d=b
  ·rw[if_pos (by rw[h]),h]
  ·rw[if_neg (fun e=>h (y0z d b (by omega) (by omega) e.symm)),ih (by omega) (by omega)]
theorem n0v (b:Nat) (s t:List UInt8):∀n,b0U b n (s++t)=(b0U b n s).bind fun m=>b0U b m t:=by
 induction s with
 | nil=>intro n;rfl
 | cons c s ih =>
  intro n
  rw[List.cons_append,b0U,b0U]
  split
  ·rfl
  ·exact ih _
theorem n0w (b n d:Nat) (hb:b≤16) (hd:d < b):b0U b n [hexD d]=some (n*b+d):=by
 rw[b0U,u0K b d hb hd,if_neg (by omega)];rfl
theorem f0v (b:Nat) (h2:2≤b) (hb:b≤16) (n:Nat):b0U b 0 (numL b n)=some n:=by
 induction n using Nat.strongRecOn with
 | _ n ih =>
  by_cases h:n < b
  ·rw[a0O b n h,n0w b 0 n hb h];simp
  ·rw[b0k b n h2 (by omega),n0v,ih (n/b) (Nat.div_lt_self (by omega) (by omega))]
   show b0U b (n/b) [hexD (n%b)]=_
   rw[n0w b _ _ hb (Nat.mod_lt _ (by omega)),Nat.mul_comm,Nat.div_add_mod]
theorem c0H (b most:Nat) (h2:2≤b) (hb:b≤16) (p:List UInt8) (n:Nat):a0M b most p=some n↔numL b n=p∧p.length≤most:=by
 unfold a0M
 constructor
 ·intro h
  by_cases hbad:p.length=0∨most < p.length
  ·rw[if_pos hbad] at h;cases h
  ·rw[if_neg hbad] at h
   cases hf:b0U b 0 p with
   | none=>rw[hf] at h;cases h
   | some m =>
    rw[hf] at h
    by_cases he:numL b m=p
    ·simp only[if_pos he] at h
     cases h
     exact⟨he,by omega⟩
    ·simp only[if_neg he] at h;cases h
 ·rintro ⟨rfl,hl⟩
  have hp:=y0W b n
  rw[if_neg (by omega),f0v b h2 hb]
  simp
theorem h0G (b n:Nat) (h2:2≤b) (hb:b≤16):∀c∈numL b n,c≠46∧c≠58:=by
 induction n using Nat.strongRecOn with
 | _ n ih =>
  by_cases h:n < b
  ·rw[a0O b n h]
   intro c hc
   rw[List.mem_singleton.1 hc]
   exact n0J n (by omega)
  ·rw[b0k b n h2 (by omega)]
   intro c hc
   rcases List.mem_append.1 hc with h1 | h1
   ·exact ih (n/b) (Nat.div_lt_self (by omega) (by omega)) c h1
   ·rw[List.mem_singleton.1 h1]
    exact n0J _ (Nat.lt_of_lt_of_le (Nat.mod_lt _ (by omega)) hb)
theorem j0d (b m n:Nat) (h2:2≤b) (hb:b≤16) (h:numL b m=numL b n):m=n:=by
 have h1:=f0v b h2 hb m
 rw[h,f0v b h2 hb n] at h1
 exact (Option.some.inj h1).symm
set_option maxHeartbeats 2000000 in
theorem o0D (s:List UInt8) (most:Nat) (hm:most≤4) (w:World) :
  Calls Tryz.prog 153 #[.string (bstr s),.int .i64 10,.int .i64 most] w fun e w'=>e=.returned (.int .i64 (optI (a0M 10 most s)))∧Below w.heap.size w w':=by
 have hz:=a0f s
 by_cases hbad:s.length=0∨most < s.length
 ·have HV:=Lib.hid (show a0M 10 most s=none by unfold a0M;rw[if_pos hbad])
  by_cases h0:s.length=0
  ·have h0':((s.length:Nat):Int)=0:=by omega
   go_enter Tryz.func153,Tryz.ntmps153
   go_wp2
   go_ret
   exact⟨by rw[HV.out];rfl,Below.refl _ _⟩
  ·have h1':0 < s.length:=by omega
   have h2':(most:Int) < (s.length:Int):=by omega
   clear hbad
   go_enter Tryz.func153,Tryz.ntmps153
   go_wp2
   go_ret
   exact⟨by rw[HV.out];rfl,Below.refl _ _⟩
 ·have HV:=Lib.hid (show a0M 10 most s=(match b0U 10 0 s with | none=>none | some n=>if numL 10 n=s then some n else none) by unfold a0M;rw[if_neg hbad]<;>rfl)
  have h0:0 < s.length:=by omega
  have h1:s.length≤most:=by omega
  have h1':(s.length:Int)≤(most:Int):=by omega
  have h0':(((s.length:Nat):Int)==0)=false:=by rw[beq_eq_false_iff_ne];omega
  clear hbad
  go_enter Tryz.func153,Tryz.ntmps153
  go_wp2
  go_loopw [7,8] (fun n i wr=>∃k m:Nat,k≤s.length∧i=.int .i64 k∧n=.int .i64 m∧m < 10^k∧b0U 10 m (s.drop k)=b0U 10 0 s∧Below w.heap.size w wr) (fun _ i _=>s.length - (intOf i).toNat)
  case atStart=>exact⟨0,0,by omega,rfl,rfl,by decide,rfl,Below.refl _ _⟩
  case round =>
   obtain⟨k,m,hk,rfl,rfl,hmk,hf,hbr⟩:=hrel
   by_cases hlt:k < s.length
   ·have hlt':(k:Int) < (s.length:Int):=by omega
    have hix:=a0Q s k hlt
    have HF:=Lib.hid hf
    have HG:=Lib.hid (g0F 10 m k s hlt)
    have hP:10^k≤10^4:=Nat.pow_le_pow_right (by omega) (by omega)
    have HP:=Lib.hid (show 10^(k+1)=10^k*10 from Nat.pow_succ ..)
    have hbd:=l0W 10 (s.getD k 0)
    generalize s.getD k 0=c at *
    clear hf
    obtain⟨wo,rfl⟩:∃wo:World,wo=wr:=⟨_,rfl⟩
    go_wp2
    go_loopw [9,10] (fun d j wr=>∃q:Nat,q≤10∧j=.int .i64 q∧d=.int .i64 (digI q c)∧Below w.heap.size w wr) (fun _ j _=>10 - (intOf j).toNat)
    case atStart=>exact⟨0,by omega,rfl,rfl,hbr⟩
    case round =>
     clear hbr
     obtain⟨q,hq,rfl,rfl,hbq⟩:=hrel
     by_cases hql:q < 10
     ·have hql':(q:Int) < 10:=by omega
      have hd:=g0D q (by omega)
      have HD:=Lib.hid (g0l q c)
      by_cases he:hexD q=c
      ·have HD2:=Lib.hid (HD.out.trans (if_pos he))
       rw[he] at hd
       clear he HD
       go_wp2
       refine wp_region_noPanic ?_
       refine wp_region_held_drew (S:=fun w'=>Below w.heap.size w w') (by kernel_rfl) (hbq.drew) (fun hHeld=>?_)
       refine rt 0 31 hHeld ?_
       refine rt 1 32 hHeld ?_
       refine rt 2 33 hHeld ?_
       refine rt 3 34 hHeld ?_
       refine rt 4 35 hHeld ?_
       refine rt 5 36 hHeld ?_
       refine wpAnyH_done (by kernel_rfl) ?_ _
       refine NoPanic.normal ?_
       go_wp2
       go_roundw
       case rel=>exact⟨q+1,by omega,by go_num,by rw[HD2.out],hbq.drew⟩
       case measure=>simp[intOf];omega
      ·have HD2:=Lib.hid (HD.out.trans (if_neg he))
       have hb:(((hexD q).toNat:Int)==(c.toNat:Int))=false:=by
        rw[beq_eq_false_iff_ne]
        intro h
        exact he (UInt8.toNat_inj.1 (by omega))
       generalize hexD q=x at *
       clear he HD
       go_wp2
       refine wp_region_noPanic ?_
       refine wp_region_held_drew (S:=fun w'=>Below w.heap.size w w') (by kernel_rfl) (hbq.drew) (fun hHeld=>?_)
       refine rt 0 31 hHeld ?_
       refine rt 1 32 hHeld ?_
       refine rt 2 33 hHeld ?_
       refine rt 3 34 hHeld ?_
       refine rt 4 35 hHeld ?_
       refine rt 5 36 hHeld ?_
       refine wpAnyH_done (by kernel_rfl) ?_ _
       refine NoPanic.normal ?_
       go_wp2
       go_roundw
       case rel=>exact⟨q+1,by omega,by go_num,by rw[HD2.out],hbq.drew⟩
       case measure=>simp[intOf];omega
     ·obtain rfl:q=10:=by omega
      by_cases hneg:digI 10 c < 0
      ·have HV2:=Lib.hid (show a0M 10 most s=none by rw[HV.out,←HF.out,HG.out,if_pos hneg])
       clear HV HF HG
       go_wp2
       go_ret
       exact⟨by rw[HV2.out];rfl,hbq⟩
      ·have HG2:=Lib.hid (HF.out.symm.trans (HG.out.trans (if_neg hneg)))
       have hn0:0≤digI 10 c:=by omega
       have hdc:((digI 10 c).toNat:Int)=digI 10 c:=by omega
       generalize digI 10 c=d at *
       have hw1:IntKind.i64.wrap ((m:Int)*10)=(m:Int)*10:=by rw[IntKind.wrap_i64];omega
       have hw2:IntKind.i64.wrap ((m:Int)*10+d)=((m*10+d.toNat:Nat):Int):=by rw[IntKind.wrap_i64];omega
       have hm2:m*10+d.toNat < 10^(k+1):=by rw[HP.out];omega
       generalize m*10+d.toNat=m2 at *
       clear HF HG hneg hdc
       go_wp2
       go_roundw
       case rel=>exact⟨k+1,m2,by omega,by go_num,rfl,hm2,HG2.out.symm,hbq⟩
       case measure=>simp[intOf];omega
   ·obtain rfl:k=s.length:=by omega
    have HV2:=Lib.hid (show a0M 10 most s=if numL 10 m=s then some m else none by
     rw[HV.out,←hf,List.drop_length];rfl)
    have hmm:m < 10^4:=Nat.lt_of_lt_of_le hmk (Nat.pow_le_pow_right (by omega) (by omega))
    have hn:=Lib.hid (fun w'=>f0D m m w' (Nat.le_refl _) (by omega))
    clear HV hf
    by_cases he:numL 10 m=s
    ·have HV3:=Lib.hid (HV2.out.trans (if_pos he))
     rw[he] at hn
     clear HV2 he
     go_wp2_with (go_at_call 155;refine (hn.out _).mono ?_;rintro e w1 ⟨rfl,hb1⟩)
     go_ret
     exact⟨by rw[HV3.out];rfl,hbr.trans (hb1.mono hbr.size)⟩
    ·have HV3:=Lib.hid (HV2.out.trans (if_neg he))
     have hne:((bstr (numL 10 m)).toList==(bstr s).toList)=false:=by rw[b0S];exact decide_eq_false he
     generalize numL 10 m=X at *
     clear HV2 he
     go_wp2_with (go_at_call 155;refine (hn.out _).mono ?_;rintro e w1 ⟨rfl,hb1⟩)
     go_ret
     exact⟨by rw[HV3.out];rfl,hbr.trans (hb1.mono hbr.size)⟩
set_option maxHeartbeats 2000000 in
theorem o0F (s:List UInt8) (most:Nat) (hm:most≤4) (w:World) :
  Calls Tryz.prog 153 #[.string (bstr s),.int .i64 16,.int .i64 most] w fun e w'=>e=.returned (.int .i64 (optI (a0M 16 most s)))∧Below w.heap.size w w':=by
 have hz:=a0f s
 by_cases hbad:s.length=0∨most < s.length
 ·have HV:=Lib.hid (show a0M 16 most s=none by unfold a0M;rw[if_pos hbad])
  by_cases h0:s.length=0
  ·have h0':((s.length:Nat):Int)=0:=by omega
   go_enter Tryz.func153,Tryz.ntmps153
   go_wp2
   go_ret
   exact⟨by rw[HV.out];rfl,Below.refl _ _⟩
  ·have h1':0 < s.length:=by omega
   have h2':(most:Int) < (s.length:Int):=by omega
   clear hbad
   go_enter Tryz.func153,Tryz.ntmps153
   go_wp2
   go_ret
   exact⟨by rw[HV.out];rfl,Below.refl _ _⟩
 ·have HV:=Lib.hid (show a0M 16 most s=(match b0U 16 0 s with | none=>none | some n=>if numL 16 n=s then some n else none) by unfold a0M;rw[if_neg hbad]<;>rfl)
  have h0:0 < s.length:=by omega
  have h1:s.length≤most:=by omega
  have h1':(s.length:Int)≤(most:Int):=by omega
  have h0':(((s.length:Nat):Int)==0)=false:=by rw[beq_eq_false_iff_ne];omega
  clear hbad
  go_enter Tryz.func153,Tryz.ntmps153
  go_wp2
  go_loopw [7,8] (fun n i wr=>∃k m:Nat,k≤s.length∧i=.int .i64 k∧n=.int .i64 m∧m < 16^k∧b0U 16 m (s.drop k)=b0U 16 0 s∧Below w.heap.size w wr) (fun _ i _=>s.length - (intOf i).toNat)
  case atStart=>exact⟨0,0,by omega,rfl,rfl,by decide,rfl,Below.refl _ _⟩
  case round =>
   obtain⟨k,m,hk,rfl,rfl,hmk,hf,hbr⟩:=hrel
   by_cases hlt:k < s.length
   ·have hlt':(k:Int) < (s.length:Int):=by omega
    have hix:=a0Q s k hlt
    have HF:=Lib.hid hf
    have HG:=Lib.hid (g0F 16 m k s hlt)
    have hP:16^k≤16^4:=Nat.pow_le_pow_right (by omega) (by omega)
    have HP:=Lib.hid (show 16^(k+1)=16^k*16 from Nat.pow_succ ..)
    have hbd:=l0W 16 (s.getD k 0)
    generalize s.getD k 0=c at *
    clear hf
    obtain⟨wo,rfl⟩:∃wo:World,wo=wr:=⟨_,rfl⟩
    go_wp2
    go_loopw [9,10] (fun d j wr=>∃q:Nat,q≤16∧j=.int .i64 q∧d=.int .i64 (digI q c)∧Below w.heap.size w wr) (fun _ j _=>16 - (intOf j).toNat)
    case atStart=>exact⟨0,by omega,rfl,rfl,hbr⟩
    case round =>
     clear hbr
     obtain⟨q,hq,rfl,rfl,hbq⟩:=hrel
     by_cases hql:q < 16
     ·have hql':(q:Int) < 16:=by omega
      have hd:=g0D q (by omega)
      have HD:=Lib.hid (g0l q c)
      by_cases he:hexD q=c
      ·have HD2:=Lib.hid (HD.out.trans (if_pos he))
       rw[he] at hd
       clear he HD
       go_wp2
       refine wp_region_noPanic ?_
       refine wp_region_held_drew (S:=fun w'=>Below w.heap.size w w') (by kernel_rfl) (hbq.drew) (fun hHeld=>?_)
       refine rt 0 31 hHeld ?_
       refine rt 1 32 hHeld ?_
       refine rt 2 33 hHeld ?_
       refine rt 3 34 hHeld ?_
       refine rt 4 35 hHeld ?_
       refine rt 5 36 hHeld ?_
       refine wpAnyH_done (by kernel_rfl) ?_ _
       refine NoPanic.normal ?_
       go_wp2
       go_roundw
       case rel=>exact⟨q+1,by omega,by go_num,by rw[HD2.out],hbq.drew⟩
       case measure=>simp[intOf];omega
      ·have HD2:=Lib.hid (HD.out.trans (if_neg he))
       have hb:(((hexD q).toNat:Int)==(c.toNat:Int))=false:=by
        rw[beq_eq_false_iff_ne]
        intro h
        exact he (UInt8.toNat_inj.1 (by omega))
       generalize hexD q=x at *
       clear he HD
       go_wp2
       refine wp_region_noPanic ?_
       refine wp_region_held_drew (S:=fun w'=>Below w.heap.size w w') (by kernel_rfl) (hbq.drew) (fun hHeld=>?_)
       refine rt 0 31 hHeld ?_
       refine rt 1 32 hHeld ?_
       refine rt 2 33 hHeld ?_
       refine rt 3 34 hHeld ?_
       refine rt 4 35 hHeld ?_
       refine rt 5 36 hHeld ?_
       refine wpAnyH_done (by kernel_rfl) ?_ _
       refine NoPanic.normal ?_
       go_wp2
       go_roundw
       case rel=>exact⟨q+1,by omega,by go_num,by rw[HD2.out],hbq.drew⟩
       case measure=>simp[intOf];omega
     ·obtain rfl:q=16:=by omega
      by_cases hneg:digI 16 c < 0
      ·have HV2:=Lib.hid (show a0M 16 most s=none by rw[HV.out,←HF.out,HG.out,if_pos hneg])
       clear HV HF HG
       go_wp2
       go_ret
       exact⟨by rw[HV2.out];rfl,hbq⟩
      ·have HG2:=Lib.hid (HF.out.symm.trans (HG.out.trans (if_neg hneg)))
       have hn0:0≤digI 16 c:=by omega
       have hdc:((digI 16 c).toNat:Int)=digI 16 c:=by omega
       generalize digI 16 c=d at *
       have hw1:IntKind.i64.wrap ((m:Int)*16)=(m:Int)*16:=by rw[IntKind.wrap_i64];omega
       have hw2:IntKind.i64.wrap ((m:Int)*16+d)=((m*16+d.toNat:Nat):Int):=by rw[IntKind.wrap_i64];omega
       have hm2:m*16+d.toNat < 16^(k+1):=by rw[HP.out];omega
       generalize m*16+d.toNat=m2 at *
       clear HF HG hneg hdc
       go_wp2
       go_roundw
       case rel=>exact⟨k+1,m2,by omega,by go_num,rfl,hm2,HG2.out.symm,hbq⟩
       case measure=>simp[intOf];omega
   ·obtain rfl:k=s.length:=by omega
    have HV2:=Lib.hid (show a0M 16 most s=if numL 16 m=s then some m else none by
     rw[HV.out,←hf,List.drop_length];rfl)
    have hmm:m < 16^4:=Nat.lt_of_lt_of_le hmk (Nat.pow_le_pow_right (by omega) (by omega))
    have hn:=Lib.hid (fun w'=>l0A m m w' (Nat.le_refl _) (by omega))
    clear HV hf
    by_cases he:numL 16 m=s
    ·have HV3:=Lib.hid (HV2.out.trans (if_pos he))
     rw[he] at hn
     clear HV2 he
     go_wp2_with (go_at_call 155;refine (hn.out _).mono ?_;rintro e w1 ⟨rfl,hb1⟩)
     go_ret
     exact⟨by rw[HV3.out];rfl,hbr.trans (hb1.mono hbr.size)⟩
    ·have HV3:=Lib.hid (HV2.out.trans (if_neg he))
     have hne:((bstr (numL 16 m)).toList==(bstr s).toList)=false:=by rw[b0S];exact decide_eq_false he
     generalize numL 16 m=X at *
     clear HV2 he
     go_wp2_with (go_at_call 155;refine (hn.out _).mono ?_;rintro e w1 ⟨rfl,hb1⟩)
     go_ret
     exact⟨by rw[HV3.out];rfl,hbr.trans (hb1.mono hbr.size)⟩
def a0h (x:UInt8):List UInt8→List (List UInt8)
 | []=>[[]]
 | c :: s=>if c=x then [] :: a0h x s else match a0h x s with
  | []=>[[c]]
  | p :: ps=>(c :: p) :: ps
theorem f0b (x:UInt8) (s:List UInt8):a0h x s≠[]:=by
 cases s with
 | nil=>simp[a0h]
 | cons c s =>
  rw[a0h]
  split
  ·simp
  ·split<;>simp
theorem d0U (x:UInt8) (p t:List UInt8) (h:∀c∈p,c≠x):a0h x (p++x :: t)=p :: a0h x t:=by
 induction p with
 | nil=>simp[a0h]
 | cons c p ih =>
  rw[List.cons_append,a0h,if_neg (h c (List.mem_cons_self ..)),ih (fun q hq=>h q (List.mem_cons_of_mem _ hq))]
theorem c0S (x:UInt8) (p:List UInt8) (h:∀c∈p,c≠x):a0h x p=[p]:=by
 induction p with
 | nil=>rfl
 | cons c p ih=>rw[a0h,if_neg (h c (List.mem_cons_self ..)),ih (fun q hq=>h q (List.mem_cons_of_mem _ hq))]
theorem a0y (l:List UInt8) (i j:Nat):(bstr l).extract i j=bstr ((l.drop i).take (j - i)):=ByteArray.extract_mk l i j
theorem i0c (s:List UInt8) (f i:Nat) (hf:f≤i) (hi:i < s.length):s.drop f=(s.drop f).take (i - f)++s.getD i 0 :: s.drop (i+1):=by
 have e:s.drop f=(s.drop f).take (i - f)++(s.drop f).drop (i - f):=(List.take_append_drop ..).symm
 rw[List.drop_drop,show f+(i - f)=i by omega,List.drop_eq_getElem_cons hi] at e
 rw[List.getD_eq_getElem?_getD,List.getElem?_eq_getElem hi]
 exact e
theorem i0r (s:List UInt8) (f i:Nat) (hf:f≤i) (hi:i < s.length):(s.drop f).take (i+1 - f)=(s.drop f).take (i - f)++[s.getD i 0]:=by
 rw[show i+1 - f=(i - f)+1 by omega,List.take_add_one,List.getElem?_drop,show f+(i - f)=i by omega,List.getD_eq_getElem?_getD,List.getElem?_eq_getElem hi];rfl
theorem c0T (x:UInt8) (s:List UInt8):(a0h x s).length≤s.length+1:=by
 induction s with
 | nil=>exact Nat.le_refl _
 | cons c s ih =>
  rw[a0h]
  split
  ·simp;exact ih
  ·split
   ·simp
   ·rename_i h;rw[h] at ih;simp at ih ⊢;omega
def b0c (x:UInt8):List (List UInt8)→List UInt8
 | []=>[]
 | [p]=>p
 | p :: q :: ps=>p++x :: b0c x (q :: ps)
theorem b0q (x:UInt8) (p:List UInt8) (ps:List (List UInt8)) (h:ps≠[]):b0c x (p :: ps)=p++x :: b0c x ps:=by
 cases ps with
 | nil=>exact absurd rfl h
 | cons q ps=>rfl
theorem h0p (x:UInt8) (ps:List (List UInt8)) (h:ps≠[]) (hx:∀p∈ps,∀c∈p,c≠x):a0h x (b0c x ps)=ps:=by
 induction ps with
 | nil=>exact absurd rfl h
 | cons p ps ih =>
  by_cases he:ps=[]
  ·subst he
   exact c0S x p (hx p (List.mem_cons_self ..))
  ·rw[b0q x p ps he,d0U x p _ (hx p (List.mem_cons_self ..)),ih he (fun q hq=>hx q (List.mem_cons_of_mem _ hq))]
theorem c0t (x:UInt8) (s:List UInt8):b0c x (a0h x s)=s:=by
 induction s with
 | nil=>rfl
 | cons c s ih =>
  rw[a0h]
  split
  ·rename_i h
   rw[b0q x [] _ (f0b x s),ih,h];rfl
  ·cases hsp:a0h x s with
   | nil=>exact absurd hsp (f0b x s)
   | cons p ps =>
    rw[hsp] at ih
    show b0c x ((c :: p) :: ps)=_
    by_cases he:ps=[]
    ·subst he
     show c :: p=_
     rw[show p=s from ih]
    ·rw[b0q x _ ps he]
     rw[b0q x _ ps he] at ih
     rw[List.cons_append,ih]
theorem j0b (x:UInt8) (ps:List (List UInt8)) (c:UInt8) (h:c∈b0c x ps):c=x∨∃p∈ps,c∈p:=by
 induction ps with
 | nil=>cases h
 | cons p ps ih =>
  by_cases he:ps=[]
  ·subst he
   exact .inr ⟨p,List.mem_cons_self ..,h⟩
  ·rw[b0q x p ps he] at h
   rcases List.mem_append.1 h with h | h
   ·exact .inr ⟨p,List.mem_cons_self ..,h⟩
   ·rcases List.mem_cons.1 h with h | h
    ·exact .inl h
    ·rcases ih h with h | ⟨q,hq,hc⟩
     ·exact .inl h
     ·exact .inr ⟨q,List.mem_cons_of_mem _ hq,hc⟩
theorem d0w (x:UInt8) (s:List UInt8):∀p∈a0h x s,p.length≤s.length:=by
 induction s with
 | nil=>intro p hp;rw[a0h] at hp;rw[List.mem_singleton.1 hp];exact Nat.le_refl _
 | cons c s ih =>
  intro p hp
  rw[a0h] at hp
  split at hp
  ·rcases List.mem_cons.1 hp with rfl | hp
   ·simp
   ·have:=ih p hp;rw[List.length_cons];omega
  ·split at hp
   ·rw[List.mem_singleton.1 hp];simp
   ·rename_i q qs hq
    rcases List.mem_cons.1 hp with rfl | hp
    ·have:=ih q (by rw[hq];exact List.mem_cons_self ..);rw[List.length_cons,List.length_cons];omega
    ·have:=ih p (by rw[hq];exact List.mem_cons_of_mem _ hp);rw[List.length_cons];omega
theorem k0B (x c:UInt8) (s:List UInt8):a0h x (c :: s)=if c=x then [] :: a0h x s else match a0h x s with
  | []=>[[c]]
  | p :: ps=>(c :: p) :: ps:=rfl
theorem t0D (x:UInt8) (s t:List UInt8):a0h x (s++x :: t)=a0h x s++a0h x t:=by
 have h1:=c0t x s
 induction s with
 | nil=>exact d0U x [] t (fun c hc=>by cases hc)
 | cons c s ih =>
  rw[List.cons_append,k0B,k0B x c s,ih (c0t x s)]
  by_cases hc:c=x
  ·rw[if_pos hc,if_pos hc];rfl
  ·rw[if_neg hc,if_neg hc]
   cases hs:a0h x s with
   | nil=>exact absurd hs (f0b x s)
   | cons p ps=>rfl
theorem v0l (x:UInt8) (a b:List (List UInt8)) (ha:a≠[]) (hb:b≠[]):b0c x (a++b)=b0c x a++x :: b0c x b:=by
 induction a with
 | nil=>exact absurd rfl ha
 | cons p ps ih =>
  by_cases hp:ps=[]
  ·subst hp
   rw[List.cons_append,List.nil_append,b0q x p b hb];rfl
  ·rw[List.cons_append,b0q x p _ (by simp[hp]),ih hp,b0q x p ps hp,List.append_assoc];rfl
end Go.Proofs.YtimdhdimhboboaaGreatDoor
