/- Texts of this claim, one behind the other. -/
import Derived.Test.YthiebbhooigogaaGEj
import Derived.Test.YthiebbhooigogaaGEl
import Derived.Lib.AppendZeros
/- LAYER 11, BundleTells: what the walks share. -/
namespace Go.Proofs.Ythiebbhooigogaa
open Go Go.RowKit

theorem small_of {b : Bun} (h : largeB b = false) : capT b.root ≤ 10000 ∧ b.dis.length ≤ 40 ∧ ∀ d ∈ b.dis, capT d ≤ 10000 := by
  unfold largeB at h
  rw [Bool.or_eq_false_iff, Bool.or_eq_false_iff] at h
  obtain ⟨⟨h1, h2⟩, h3⟩ := h
  refine ⟨by have := of_decide_eq_false h1; omega, by have := of_decide_eq_false h2; omega, fun d hd => ?_⟩
  have h4 := List.any_eq_false.1 h3 d hd
  simp only [decide_eq_true_eq] at h4
  omega
theorem cavs_cap (t : Tok) (h : capT t ≤ 10000) : t.cavs.length ≤ 1000000 := by
  have h1 := capT_len t.cavs
  unfold capT at h
  omega
theorem small_len {b : Bun} (hb : b.Ok) (h : capT b.root ≤ 10000 ∧ b.dis.length ≤ 40 ∧ ∀ d ∈ b.dis, capT d ≤ 10000) : (∀ e ∈ b.root :: b.dis, e.cavs.length ≤ 1000000) ∧ b.dis.length ≤ 1000000 ∧ (checkB b = true → (bytesB b).length ≤ 1000000) := by
  refine ⟨fun e he => ?_, by omega, fun hc => bytesB_small hb hc h.1 h.2.2⟩
  rcases List.mem_cons.1 he with rfl | he
  · exact cavs_cap _ h.1
  · exact cavs_cap _ (h.2.2 e he)
theorem bunD_fit (l : List UInt8) (h : l.length ≤ 1000000) : (bunD l).Fit := by
  unfold bunD
  split
  · exact zeroB_fit
  · cases hq : decB l with
    | none => exact zeroB_fit
    | some b =>
      rw [decB_okL] at hq
      split at hq
      · injection hq with hq
        rw [← hq]; exact bunL_fit l h
      · cases hq
end Go.Proofs.Ythiebbhooigogaa

/- LAYER 11, BundleLong: its bundle: lists alone. -/
namespace Go.Proofs.Ythiebbhooigogaa
open Go Go.RowKit

def cavK (k : Nat) : Cav := ⟨true, [], 0, List.replicate k 0, List.replicate k 0⟩
def tokL (k : Nat) : Tok := ⟨0, [], [cavK k, cavK k], false, List.replicate 32 0⟩
def bunN (n k : Nat) : Bun := ⟨tokL k, List.replicate n (tokL k)⟩
theorem tokL_ok (k : Nat) : (tokL k).Ok := by
  refine ⟨by show 0 < 18446744073709551616; decide, fun c hc => ?_, by show (List.replicate 32 (0 : UInt8)).length = 32; rw [List.length_replicate]⟩
  have hc' : c ∈ [cavK k, cavK k] := hc
  simp only [List.mem_cons, List.not_mem_nil, or_false, or_self] at hc'
  subst hc'
  show 0 < 18446744073709551616; decide
theorem canC_cavK {k : Nat} (hk : k ≤ 1024) : canC (cavK k) = true := by
  unfold canC cavK
  rw [if_pos rfl, List.length_replicate, decide_eq_true hk]; rfl
theorem checkT_tokL {k : Nat} (hk : k ≤ 1024) : checkT (tokL k) = true := by
  have h := canC_cavK hk
  unfold checkT tokL
  dsimp only
  rw [List.all_cons, List.all_cons, h]; rfl
theorem capT_tokL {k : Nat} (hk : k ≤ 1024) : capT (tokL k) ≤ 10000 := by
  have h : capC (cavK k) = k + k + 1 := by
    unfold capC cavK
    dsimp only
    rw [List.length_replicate, List.length_nil]; omega
  have e : capT (tokL k) = 0 + (capC (cavK k) + (capC (cavK k) + 0)) := rfl
  rw [e, h]; omega
theorem fit_tokL {k : Nat} (hk : k ≤ 1024) : (tokL k).Fit := by
  refine ⟨by show 0 ≤ _; omega, by show 2 ≤ _; omega, fun c hc => ?_⟩
  have hc' : c ∈ [cavK k, cavK k] := hc
  simp only [List.mem_cons, List.not_mem_nil, or_false, or_self] at hc'
  subst hc'
  have : (List.replicate k (0 : UInt8)).length = k := List.length_replicate
  refine ⟨?_, ?_, ?_⟩
  · show 0 ≤ _; omega
  · show (List.replicate k (0 : UInt8)).length ≤ _; omega
  · show (List.replicate k (0 : UInt8)).length ≤ _; omega
theorem mem_bunN {n k : Nat} {d : Tok} (h : d ∈ (bunN n k).dis) : d = tokL k := (List.mem_replicate.1 h).2
theorem bunN_ok (n k : Nat) : (bunN n k).Ok := ⟨tokL_ok k, fun d hd => by rw [mem_bunN hd]; exact tokL_ok k⟩
theorem bunN_fit {n k : Nat} (hk : k ≤ 1024) (hn : n ≤ 1000000) : (bunN n k).Fit := ⟨fit_tokL hk, fun d hd => by rw [mem_bunN hd]; exact fit_tokL hk, by show (List.replicate n (tokL k)).length ≤ _; rw [List.length_replicate]; omega⟩
theorem bunN_check {n k : Nat} (hk : k ≤ 1024) : checkB (bunN n k) = decide (n ≤ 16) := by
  have h1 : fitD (tokL k) = true := by unfold fitD; rw [checkT_tokL hk]; rfl
  have h2 : (List.replicate n (tokL k)).all fitD = true := List.all_eq_true.2 (fun d hd => by rw [(List.mem_replicate.1 hd).2]; exact h1)
  unfold checkB bunN
  dsimp only
  rw [checkT_tokL hk, h2, List.length_replicate, Bool.and_true]
  show (true && true && decide (n ≤ 16)) = _
  rw [Bool.true_and, Bool.true_and]
theorem bunN_len {n k : Nat} (hk : k ≤ 1024) : checkB (bunN n k) = true → (bytesB (bunN n k)).length ≤ 1000000 :=
  fun hc => bytesB_small (bunN_ok n k) hc (capT_tokL hk) (fun d hd => by rw [mem_bunN hd]; exact capT_tokL hk)
theorem bunN_err {n k : Nat} (hk : k ≤ 1024) : decide (n ≤ 16) = (errB (bunN n k) != 1) := by
  have h := bunN_check (n := n) hk
  unfold errB
  by_cases hn : n ≤ 16
  · rw [h, decide_eq_true hn, if_pos rfl]
    split <;> rfl
  · rw [h, decide_eq_false hn]; rfl
end Go.Proofs.Ythiebbhooigogaa

/- LAYER 11: Encode's contracts once more, the bytes the call's own; 'append' of zeros. -/
namespace Go.Proofs.Ythiebbhooigogaa
open Go Go.RowKit

set_option maxRecDepth 20000 in
set_option maxHeartbeats 2000000 in
theorem benc_own (t : Tok) (ds : List Dis) (ht : t.Ok) (hok : ∀ d ∈ toks ds, d.Ok) (A : Option Addr) (c : Nat) (B : Option Addr) (d : Nat) (w : World) (hs : Sl w A (c * 5) (t.cavs.flatMap cavV)) (hp : Bs w B d ds) (hf : t.Fit) (hfit : ∀ d ∈ toks ds, d.Fit) (hm : checkB (bunOf t ds) = true → (bytesB (bunOf t ds)).length ≤ 1000000) :
    Calls Try.prog 8 #[.agg (bunV t A c B ds.length d).toArray] w fun e w' => ∃ B d, e = .returned (.tuple #[.slice B (encB (bunOf t ds)).length d, .int .i64 (errB (bunOf t ds))]) ∧ w'.ownsRow w.heap.size 5 1 (.slice B (encB (bunOf t ds)).length d) (encB (bunOf t ds)).length (byts (encB (bunOf t ds))) ∧ Below w.heap.size w w' := by
  obtain ⟨i0, hi, hz0, hz1, hz2⟩ := info_ff
  have hb1 : Below w.heap.size w (w.alloc (.cells (bunV t A c B ds.length d).toArray 30)) := (Below.refl _ _).alloc (Nat.le_refl _) _
  have hr : Row (w.alloc (.cells (bunV t A c B ds.length d).toArray 30)) w.heap.size 30 (bunV t A c B ds.length d) := Row.new w 30 _
  have hlt := hr.lt
  have hT := fun w' (h : Below _ _ w') => row_bun_tok (hr.later h hlt)
  have hD := fun w' (h : Below _ _ w') => row_bun_dis ht (hr.later h hlt)
  have hBd := fun w' (h : Below _ _ w') => row_bun_bound (hr.later h hlt)
  have hlB := length_bunV ht A c B ds.length d
  have hlen : (toks ds).length = ds.length := toks_len ds
  obtain ⟨V, hV⟩ : ∃ V, V = bunV t A c B ds.length d := ⟨_, rfl⟩
  obtain ⟨VT, hVT⟩ : ∃ V, V = tokV t A c := ⟨_, rfl⟩
  have hlT : VT.length = 36 := by rw [hVT]; exact length_tokV ht A c
  have hzT := Lib.hid (show (Try.prog.info? 27).map (·.size) = some VT.length by rw [size_tok, hlT])
  have hck := Lib.hid (fun w' h1 h2 => bcheck_any t ds ht hok A c B d w' h1 h2 hf hfit)
  rw [← hV] at hck
  have hla := Lib.hid (show ∀ w', Sl w' A (c * 5) (t.cavs.flatMap cavV) → Calls Try.prog 19 #[.int .u8 16, .agg VT.toArray] w' fun e w'' => e = .returned (.agg #[.int .u8 16, .string (bstr (encT t))]) ∧ Below w'.heap.size w' w'' by rw [hVT]; exact fun w' h => plaid_any 16 t ht hf A c w' h)
  obtain ⟨X, hX⟩ : ∃ X, X = encB (bunOf t ds) := ⟨_, rfl⟩
  obtain ⟨e0, he0⟩ : ∃ e, e = errB (bunOf t ds) := ⟨_, rfl⟩
  rw [← hX, ← he0]
  rw [← hVT] at hT
  rw [← hV] at hb1 hr hlt hT hD hBd hlB ⊢
  clear hV hVT hlT
  have hzB := Lib.hid (show (Try.prog.info? 30).map (·.size) = some V.toArray.size by rw [size_bun, List.size_toArray, hlB])
  have hR := Lib.hid (show (w.alloc (.cells V.toArray 30)).heap[w.heap.size]? = some (.cells V.toArray 30 (0, 0)) from hr)
  have hs1 := hs.later (Nat.le_refl _) hb1
  have hT1 := hT _ (Below.refl _ _)
  have hd1 := hD _ (Below.refl _ _)
  have hbd1 := hBd _ (Below.refl _ _)
  have hp1 := hp.later (Nat.le_refl _) hb1
  clear hs hr hlt hBd hlB hbd1 hT1 hd1
  cases hc : checkB (bunOf t ds) with
  | false =>
    have HX := Lib.hid (show X = [] by rw [hX]; unfold encB; rw [hc]; rfl)
    have HE := Lib.hid (show e0 = 1 by rw [he0]; unfold errB; rw [hc]; rfl)
    rw [show chkB (bunOf t ds) = 1 by unfold chkB; rw [hc]; rfl] at hck
    clear hX he0 hc hm hla hT hD hp
    go_enter Try.func8, Try.ntmps8
    go_wp2_with (first
      | (with_reducible refine wpList_load_row rfl 30 (.tmp 1) rfl w.heap.size rfl 30 V.toArray (0, 0) _ hR.out Try.underlying30 rfl hzB.out ?_)
      | (go_at_call 12; refine (hck.out _ hs1 hp1).mono ?_; rintro e w6 ⟨rfl, hb6⟩; have hbw6 := hb1.trans (hb6.mono hb1.size)))
    go_ret2
    exact ⟨none, 0, by rw [HX.out, HE.out]; rfl, by rw [HX.out]; exact World.ownsRow_nil _ _ _ _, hbw6⟩
  | true =>
    rw [show chkB (bunOf t ds) = 0 from if_pos hc] at hck
    have hm1 := hm hc
    have hpt := checkB_parts hc
    rw [show encT t = bytesT t from if_pos hpt.1] at hla
    have hcl : ds.length ≤ 16 := by have := hpt.2.2.1; show ds.length ≤ 16; rw [← hlen]; exact this
    have hpd := hpt.2.2.2
    have hjoin := Lib.hid (show ∀ A6 c6 n w1, Sl w1 A6 (c6 * 2) ((bunF (bunOf t ds)).flatMap fdV) → n = (bunF (bunOf t ds)).length → Calls Try.prog 20 #[.slice A6 n c6] w1 (GaveBytes (bytesB (bunOf t ds)) w1) from fun A6 c6 n w1 h hn => fjoin_any A6 n c6 (bunF (bunOf t ds)) w1 h hn hm1)
    have HB := Lib.hid (show bunF (bunOf t ds) = (16, bytesT t) :: (toks ds).map disF from rfl)
    rw [HB.out] at hjoin
    obtain ⟨E, hE⟩ : ∃ E, E = bytesT t := ⟨_, rfl⟩
    rw [← hE] at hla hjoin
    have hfl : ([(16, E)] : List Fd).flatMap fdV = [Value.int .u8 16, .string (bstr E)] := rfl
    have HF0 := Lib.hid hfl
    obtain ⟨F0, hF0⟩ : ∃ F0 : Fd, F0 = (16, E) := ⟨_, rfl⟩
    rw [← hF0] at hjoin HF0
    have HX := Lib.hid (show X = if (bytesB (bunOf t ds)).length ≤ 65536 then bytesB (bunOf t ds) else [] by rw [hX]; unfold encB; rw [hc]; simp)
    have HE := Lib.hid (show e0 = if 65536 < (bytesB (bunOf t ds)).length then 3 else 0 by rw [he0]; unfold errB; rw [hc]; rfl)
    obtain ⟨J, hJ⟩ : ∃ J, J = bytesB (bunOf t ds) := ⟨_, rfl⟩
    rw [← hJ] at hjoin hm1 HX HE
    clear hX he0 hc hm hE hfl hF0 HB hpt hJ
    go_enter Try.func8, Try.ntmps8
    go_wp2_with (first
      | (with_reducible refine wpList_load_row rfl 30 (.tmp 1) rfl w.heap.size rfl 30 V.toArray (0, 0) _ hR.out Try.underlying30 rfl hzB.out ?_)
      | (go_at_call 12; refine (hck.out _ hs1 hp1).mono ?_; rintro e w6 ⟨rfl, hb6⟩; have hbw6 := hb1.trans (hb6.mono hb1.size); have hs6 := hs1.later (Nat.le_refl _) hb6; have hp6 := hp1.later (Nat.le_refl _) hb6; have hT6 := hT _ hb6; have hb6' := hb6; clear hb6)
      | (with_reducible refine wpList_load_mid rfl 27 (.tmp 14) rfl w.heap.size 0 rfl VT _ hT6 Try.underlying27 rfl hzT.out ?_)
      | (go_at_call 19; refine (hla.out _ hs6).mono ?_; rintro e w7 ⟨rfl, hb7⟩; have hbw7 := hbw6.trans (hb7.mono hbw6.size); have hd7 : (w7.alloc (.cells #[Value.int .u8 16, .string (bstr E)] 55)).cell? ⟨w.heap.size, 36, none⟩ = some (.slice B ds.length d) := hD _ (hb6'.trans ((hb7.alloc hb7.size _).mono hb6'.size)); have hown7 := fd_lit w7 w.heap.size 16 55 E hbw7.size; have hbw8 := hbw7.alloc hbw7.size (.cells #[Value.int .u8 16, .string (bstr E)] 55); clear hb7))
    clear hs1 hD hT hla hck hT6 hs6 hp6 hb6' hd7 hbw7 hbw6 hzT hzB hR hp1
    go_loopw [5, 21] (fun v i wr => ∃ k : Nat, k ≤ ds.length ∧ i = .int .i64 k ∧ wr.ownsRow w.heap.size 55 2 v (k + 1) ((F0 :: ((toks ds).take k).map disF).flatMap fdV) ∧ Below w.heap.size w wr) (fun _ i _ => ds.length - (intOf i).toNat)
    case atStart =>
      refine ⟨0, by omega, rfl, ?_, hbw8⟩
      show World.ownsRow _ _ _ _ _ 1 (([F0] : List Fd).flatMap fdV)
      rw [HF0.out]; exact hown7
    case round =>
      clear hown7 hbw8 hb1
      obtain ⟨k, hk, rfl, hown, hb⟩ := hrel
      by_cases hlt : k < ds.length
      · obtain ⟨dd, hdd⟩ : ∃ dd, ds[k]? = some dd := ⟨_, List.getElem?_eq_getElem hlt⟩
        obtain ⟨b, o, rfl⟩ := hp.nonil hok hlt
        have hix := index_tok (some ⟨b, o, none⟩) b o ds.length d k rfl hlt
        have hme : dd.1 ∈ toks ds := List.mem_of_getElem? (toks_get hdd)
        have hbd := Lib.hid (show ∀ w', Sl w' dd.2.1 (dd.2.2 * 5) (dd.1.cavs.flatMap cavV) → Calls Try.prog 19 #[.int .u8 17, .agg (tokV dd.1 dd.2.1 dd.2.2).toArray] w' fun e w'' => e = .returned (.agg #[.int .u8 17, .string (bstr (bytesT dd.1))]) ∧ Below w'.heap.size w' w'' from fun w' h => by
          have h1 := plaid_any 17 dd.1 (hok _ hme) (hfit _ hme) dd.2.1 dd.2.2 w' h
          rw [show encT dd.1 = bytesT dd.1 from if_pos (hpd _ hme).1] at h1
          exact h1)
        have HD := Lib.hid (show F0 :: ((toks ds).take (k + 1)).map disF = (F0 :: ((toks ds).take k).map disF) ++ [disF dd.1] by rw [dis_take hdd]; rfl)
        generalize F0 :: ((toks ds).take k).map disF = ks at *
        have hfl : ([disF dd.1] : List Fd).flatMap fdV = [Value.int .u8 17, .string (bstr (bytesT dd.1))] := rfl
        obtain ⟨E2, hE2⟩ : ∃ E, E = bytesT dd.1 := ⟨_, rfl⟩
        rw [← hE2] at hbd hfl
        have HFL := Lib.hid hfl
        have n1 : k + 1 + 1 ≤ maxLen := by unfold maxLen; omega
        have n2 : (k + 1 + 1) * 24 ≤ 140737488355328 := by omega
        have hlV := length_disV (hok dd.1 (List.mem_of_getElem? (toks_get hdd)))
        have hrg := (hp.sl.later (Nat.le_refl _) hb).thing (k := 36) (dis_ok hok) k dd hdd
        have hsd := (hp.each dd (List.mem_of_getElem? hdd)).later (Nat.le_refl _) hb
        have hofn : ∀ v ∈ disV dd, v.oneCell' = true := fun v hv => disV_one [dd] v (by simpa using hv)
        obtain ⟨V2, hV2q⟩ : ∃ V, V = disV dd := ⟨_, rfl⟩
        rw [← hV2q] at hlV hrg hofn
        have hzf := Lib.hid (show (Try.prog.info? 27).map (·.size) = some V2.length by rw [size_tok, hlV])
        have hzf2 := Lib.hid (show (Try.prog.info? 27).map (·.size) = some V2.toArray.size by rw [size_tok, List.size_toArray, hlV])
        have hof := Lib.hid (all_one hofn)
        have hV2 := Lib.hid (show (36 : Nat) = V2.toArray.size by rw [List.size_toArray, hlV])
        rw [show tokV dd.1 dd.2.1 dd.2.2 = V2 from hV2q.symm] at hbd
        clear hV2q hdd hlen hp hok hlV hofn hfl hE2 hme hfit hpd
        go_wp2_with (first
          | (with_reducible refine wpList_load_mid rfl 27 (.tmp 23) rfl b (o + k * 36) rfl V2 _ hrg Try.underlying27 rfl hzf.out ?_)
          | (with_reducible refine wpList_store_row rfl 27 (.tmp 7) (.tmp 24) rfl wr.heap.size V2.toArray rfl rfl 27 _ (heap_alloc_new wr _) hzf2.out (Eq.trans (by kernel_rfl) hV2.out) hof.out ?_; refine Hid.out ?_))
        refine Lib.hid ?_
        generalize hw5 : World.setRow _ _ _ = w5
        obtain ⟨r5, hb5⟩ := row_new_set (xs := V2) hw5
        have R5 := Lib.hid (show w5.heap[wr.heap.size]? = some (.cells V2.toArray 27 (0, 0)) from r5)
        have hbw5 := hb.trans (hb5.mono hb.size)
        have hsd5 := hsd.later (Nat.le_refl _) hb5
        have hown5 := ownk_later hown hb5 (Nat.le_refl _)
        clear hw5 hb5 hrg hsd r5 hown
        go_wp2_with (first
          | (with_reducible refine wpList_load_row rfl 27 (.tmp 7) rfl wr.heap.size rfl 27 V2.toArray (0, 0) _ R5.out Try.underlying27 rfl hzf2.out ?_)
          | (go_at_call 19; refine (hbd.out _ hsd5).mono ?_; rintro e w6 ⟨rfl, hb6⟩; have hbw6 := hbw5.trans (hb6.mono hbw5.size); have hs7 := fd_sl w6 17 55 E2; have hown7 := ownk_later hown5 (hb6.alloc hb6.size (.cells #[Value.int .u8 17, .string (bstr E2)] 55)) (Nat.le_refl _); have hbw7 := hbw6.alloc hbw6.size (.cells #[Value.int .u8 17, .string (bstr E2)] 55); clear hb6 hown5)
          | (at_builtin; refine wpList_append_k rfl (.tmp 25) (.tmp 28) 57 rfl w.heap.size 55 i0 _ 2 24 Try.underlying57 hi hz0 hz1 (by omega) hz2 rfl _ (k + 1) (ks.flatMap fdV) rfl hown7 (some ⟨w6.heap.size, 0, none⟩) 1 1 [Value.int .u8 17, .string (bstr E2)] rfl rfl hs7 (fun v hv => fdV_one [(17, E2)] v hv) n1 n2 hbw7.size ?_; intro v8 w8 hown8 hg8; have hb8 := hbw7.grown hg8 hbw7.size (fun k hk => (hown7.lt k hk).1)))
        rw [← HFL.out, ← List.flatMap_append, ← HD.out] at hown8
        go_roundw
        case rel => exact ⟨k + 1, by omega, by go_num, hown8, hb8⟩
        case measure => simp [intOf]; omega
      · obtain rfl : k = ds.length := by omega
        rw [← hlen, List.take_length] at hown
        rw [hlen] at hown
        have hLn := Lib.hid (show ds.length + 1 = (F0 :: (toks ds).map disF).length by rw [List.length_cons, List.length_map, hlen])
        obtain ⟨A6, c6, rfl, _, hsl6⟩ := Sl.of_ownk hown
        clear hlt hk hp hok hlen hown hfit hpd hcl HF0
        generalize ds.length = n at *
        by_cases hl : 65536 < J.length
        · have HX2 := Lib.hid (HX.out.trans (if_neg (by omega)))
          have HE2 := Lib.hid (HE.out.trans (if_pos hl))
          have hl' : (65536 : Int) < (J.length : Int) := by omega
          clear hl
          go_wp2_with (go_at_call 20; refine (hjoin.out A6 c6 _ _ hsl6 hLn.out).mono ?_; rintro e w7 ⟨v7, rfl, hown7, hb7⟩; obtain ⟨A7, c7, rfl, _, hsl7⟩ := Sl.of_own hown7)
          go_ret2
          exact ⟨none, 0, by rw [HX2.out, HE2.out]; rfl, by rw [HX2.out]; exact World.ownsRow_nil _ _ _ _, hb.trans (hb7.mono hb.size)⟩
        · have HX2 := Lib.hid (HX.out.trans (if_pos (by omega)))
          have HE2 := Lib.hid (HE.out.trans (if_neg hl))
          have hl' : (J.length : Int) ≤ 65536 := by omega
          clear hl
          go_wp2_with (go_at_call 20; refine (hjoin.out A6 c6 _ _ hsl6 hLn.out).mono ?_; rintro e w7 ⟨v7, rfl, hown7, hb7⟩; obtain ⟨A7, c7, rfl, _, hsl7⟩ := Sl.of_own hown7)
          go_ret2
          exact ⟨A7, c7, by rw [HX2.out, HE2.out]; rfl, by rw [HX2.out]; exact own_mono hown7 hb.size, hb.trans (hb7.mono hb.size)⟩
set_option maxRecDepth 20000 in
set_option maxHeartbeats 2000000 in
theorem rbenc_own (t : Tok) (ds : List Dis) (ht : t.Ok) (hok : ∀ d ∈ toks ds, d.Ok) (A : Option Addr) (c : Nat) (B : Option Addr) (d : Nat) (w : World) (hs : Sl w A (c * 5) (t.cavs.flatMap cavV)) (hp : Bs w B d ds) (hm : checkB (bunOf t ds) = true → (bytesB (bunOf t ds)).length ≤ 1000000) :
    Calls Try.prog 9 #[.agg (bunV t A c B ds.length d).toArray] w fun e w' => ∃ B d, e = .returned (.tuple #[.slice B (encB (bunOf t ds)).length d, .int .i64 (errB (bunOf t ds))]) ∧ w'.ownsRow w.heap.size 5 1 (.slice B (encB (bunOf t ds)).length d) (encB (bunOf t ds)).length (byts (encB (bunOf t ds))) ∧ Below w.heap.size w w' := by
  have hck := Lib.hid (fun w' h1 h2 => rbcheck_any t ds ht hok A c B d w' h1 h2)
  have hby := Lib.hid (fun (hc : checkB (bunOf t ds) = true) w' h1 h2 => rbbytes_any t ds ht hok A c B d w' h1 h2 (check_bun_len ht hok hc) (hm hc))
  obtain ⟨X, hX⟩ : ∃ X, X = encB (bunOf t ds) := ⟨_, rfl⟩
  obtain ⟨e0, he0⟩ : ∃ e, e = errB (bunOf t ds) := ⟨_, rfl⟩
  rw [← hX, ← he0]
  have hb1 : Below w.heap.size w (w.alloc (.cells (bunV t A c B ds.length d).toArray 30)) := (Below.refl _ _).alloc (Nat.le_refl _) _
  have hr : Row (w.alloc (.cells (bunV t A c B ds.length d).toArray 30)) w.heap.size 30 (bunV t A c B ds.length d) := Row.new w 30 _
  have hlt := hr.lt
  have hlB := length_bunV ht A c B ds.length d
  have hlen : (toks ds).length = ds.length := toks_len ds
  obtain ⟨V, hV⟩ : ∃ V, V = bunV t A c B ds.length d := ⟨_, rfl⟩
  rw [← hV] at hb1 hr hlt hlB hck hby ⊢
  have hzB := Lib.hid (show (Try.prog.info? 30).map (·.size) = some V.toArray.size by rw [size_bun, List.size_toArray, hlB])
  have hR := Lib.hid (show (w.alloc (.cells V.toArray 30)).heap[w.heap.size]? = some (.cells V.toArray 30 (0, 0)) from hr)
  have hs1 := hs.later (Nat.le_refl _) hb1
  have hp1 := hp.later (Nat.le_refl _) hb1
  clear hV hs hp hlB hlen
  cases hc : checkB (bunOf t ds) with
  | false =>
    have HX := Lib.hid (show X = [] by rw [hX]; unfold encB; rw [hc]; rfl)
    have HE := Lib.hid (show e0 = 1 by rw [he0]; unfold errB; rw [hc]; rfl)
    rw [hc] at hck
    clear hby hX he0 hc hm hr
    go_enter Try.func9, Try.ntmps9
    go_wp2_with (first
      | (with_reducible refine wpList_load_row rfl 30 (.tmp 1) rfl w.heap.size rfl 30 V.toArray (0, 0) _ hR.out Try.underlying30 rfl hzB.out ?_)
      | (go_at_call 13; refine (hck.out _ hs1 hp1).mono ?_; rintro e w6 ⟨rfl, hb6⟩; have hbw6 := hb1.trans (hb6.mono hb1.size)))
    go_ret2
    exact ⟨none, 0, by rw [HX.out, HE.out]; rfl, by rw [HX.out]; exact World.ownsRow_nil _ _ _ _, hbw6⟩
  | true =>
    rw [hc] at hck
    have hbyc := Lib.hid (hby.out hc)
    have hm1 := hm hc
    obtain ⟨J, hJ⟩ : ∃ J, J = bytesB (bunOf t ds) := ⟨_, rfl⟩
    rw [← hJ] at hbyc hm1
    by_cases hl : 65536 < J.length
    · have HX := Lib.hid (show X = [] by rw [hX]; unfold encB; rw [if_neg (by rw [← hJ]; omega)])
      have HE := Lib.hid (show e0 = 3 by rw [he0]; unfold errB; rw [hc, ← hJ, if_pos rfl, if_pos hl])
      have hl' : (65536 : Int) < (J.length : Int) := by omega
      clear hby hX he0 hc hm hJ hl
      go_enter Try.func9, Try.ntmps9
      go_wp2_with (first
        | (with_reducible refine wpList_load_row rfl 30 (.tmp 1) rfl w.heap.size rfl 30 V.toArray (0, 0) _ hR.out Try.underlying30 rfl hzB.out ?_)
        | (go_at_call 13; refine (hck.out _ hs1 hp1).mono ?_; rintro e w6 ⟨rfl, hb6⟩; have hbw6 := hb1.trans (hb6.mono hb1.size); have hs6 := hs1.later (Nat.le_refl _) hb6; have hp6 := hp1.later (Nat.le_refl _) hb6; have hR := Lib.hid (show w6.heap[w.heap.size]? = some (.cells V.toArray 30 (0, 0)) from hr.later hb6 hlt); clear hb6)
        | (go_at_call 21; refine (hbyc.out _ hs6 hp6).mono ?_; rintro e w7 ⟨v7, rfl, hown7, hb7⟩; obtain ⟨A7, c7, rfl, _, hsl7⟩ := Sl.of_own hown7; have hbw7 := hbw6.trans (hb7.mono hbw6.size)))
      go_ret2
      exact ⟨none, 0, by rw [HX.out, HE.out]; rfl, by rw [HX.out]; exact World.ownsRow_nil _ _ _ _, hbw7⟩
    · have HX := Lib.hid (show X = J by rw [hX]; unfold encB; rw [if_pos ⟨hc, by rw [← hJ]; omega⟩, hJ])
      have HE := Lib.hid (show e0 = 0 by rw [he0]; unfold errB; rw [hc, ← hJ, if_pos rfl, if_neg hl])
      have hl' : (J.length : Int) ≤ 65536 := by omega
      clear hby hX he0 hc hm hJ hl
      go_enter Try.func9, Try.ntmps9
      go_wp2_with (first
        | (with_reducible refine wpList_load_row rfl 30 (.tmp 1) rfl w.heap.size rfl 30 V.toArray (0, 0) _ hR.out Try.underlying30 rfl hzB.out ?_)
        | (go_at_call 13; refine (hck.out _ hs1 hp1).mono ?_; rintro e w6 ⟨rfl, hb6⟩; have hbw6 := hb1.trans (hb6.mono hb1.size); have hs6 := hs1.later (Nat.le_refl _) hb6; have hp6 := hp1.later (Nat.le_refl _) hb6; have hR := Lib.hid (show w6.heap[w.heap.size]? = some (.cells V.toArray 30 (0, 0)) from hr.later hb6 hlt); clear hb6)
        | (go_at_call 21; refine (hbyc.out _ hs6 hp6).mono ?_; rintro e w7 ⟨v7, rfl, hown7, hb7⟩; obtain ⟨A7, c7, rfl, _, hsl7⟩ := Sl.of_own hown7; have hbw7 := hbw6.trans (hb7.mono hbw6.size)))
      go_ret2
      exact ⟨A7, c7, by rw [HX.out, HE.out]; rfl, by rw [HX.out]; exact own_mono hown7 hbw6.size, hbw7⟩
theorem benc_vo {lo : Nat} {b : Bun} {w : World} {v : Value} (hb : b.Ok) (hf : b.Fit) (hm : checkB b = true → (bytesB b).length ≤ 1000000) (h : BunV lo b w v) : Calls Try.prog 8 #[v] w fun e w' => ∃ B d, e = .returned (.tuple #[.slice B (encB b).length d, .int .i64 (errB b)]) ∧ w'.ownsRow w.heap.size 5 1 (.slice B (encB b).length d) (encB b).length (byts (encB b)) ∧ Below w.heap.size w w' := by
  obtain ⟨A, c, B, d, ds, rfl, hbo, hs, hp⟩ := h.parts
  have hd := bunOf_dis hbo
  have h1 := benc_own b.root ds hb.root (by rw [← hd]; exact hb.dis) A c B d w hs hp hf.root (by rw [← hd]; exact hf.dis) (by rw [← hbo]; exact hm)
  rw [← hbo] at h1; exact h1
theorem rbenc_vo {lo : Nat} {b : Bun} {w : World} {v : Value} (hb : b.Ok) (hm : checkB b = true → (bytesB b).length ≤ 1000000) (h : BunV lo b w v) : Calls Try.prog 9 #[v] w fun e w' => ∃ B d, e = .returned (.tuple #[.slice B (encB b).length d, .int .i64 (errB b)]) ∧ w'.ownsRow w.heap.size 5 1 (.slice B (encB b).length d) (encB b).length (byts (encB b)) ∧ Below w.heap.size w w' := by
  obtain ⟨A, c, B, d, ds, rfl, hbo, hs, hp⟩ := h.parts
  have hd := bunOf_dis hbo
  have h1 := rbenc_own b.root ds hb.root (by rw [← hd]; exact hb.dis) A c B d w hs hp (by rw [← hbo]; exact hm)
  rw [← hbo] at h1; exact h1
theorem sl_own {w : World} {base e n c : Nat} {A : Option Addr} {xs : List Value} (h : w.ownsRow base e 1 (.slice A n c) n xs) : Sl w A c xs := by
  obtain ⟨A', c', hv, _, hs⟩ := Sl.of_own h
  injection hv with e1 e2 e3
  subst e1 e3; exact hs
/-- 'append(x, make([]T, m)...)', x whatever slice of the call's own: what comes of it, and x itself as it was. -/
theorem run_append_zeros_any {P : Program} (w : World) (base : Nat) (t tn ty e : TypeId) (i : TypeInfo) (q k kn : IntKind) (bytes : Nat) (ht : P.underlying t = some (.slice e)) (htn : P.underlying tn = some (.int kn)) (hi : P.info? e = some i) (hz : i.zero = some (.int q 0)) (hsize : i.size = 1) (hby : i.bytes = bytes)
    (A : Option Addr) (n cap m : Nat) (xs : List Value) (hown : w.ownsRow base e 1 (.slice A n cap) n xs) (h0 : 0 < m)
    (h63 : n + m ≤ maxLen) (hbytes : (n + m) * bytes ≤ 140737488355328) (hbase : base ≤ w.heap.size) :
    ∃ v' w', (Builtin.append_ #[t, tn] ty #[.slice A n cap, .int k m]).run P w = .ok v' w' ∧ w'.ownsRow base e 1 v' (n + m) (xs ++ List.replicate m (Value.int q 0)) ∧ Sl w' A cap xs ∧ w.grownBy w' (Value.ownBlock (.slice A n cap)) := by
  have hsl0 := sl_own hown
  have hlx : xs.length = n := by have := hown.1; omega
  rcases hown.2 with ⟨hv, hn⟩ | ⟨g, cap', cur, hv, hbg, hg, hnc, hcm, hcs, htake⟩
  · injection hv with e1 e2 e3
    subst e1 e2 e3
    obtain rfl : xs = [] := List.eq_nil_of_length_eq_zero hlx
    rw [Nat.zero_add] at h63 hbytes ⊢
    have hr := Lib.run_append_nil_zeros (P := P) w t tn ty e i (.int q 0) k kn ht htn hi hz m h0 (by omega) (by unfold maxLen at h63; omega) (by rw [hby]; omega)
    have hge := grownCap_ge w m 0 e
    have hcm : grownCap w m 0 e ≤ maxLen := grownCap_le_maxLen w m 0 e h63
    refine ⟨_, _, hr, ⟨by rw [List.nil_append, List.length_replicate, Nat.mul_one], .inr ⟨w.heap.size, _, _, rfl, hbase, heap_alloc_new w.drew _, hge, hcm, ?_, ?_⟩⟩, ⟨.inl rfl, Nat.le_refl _, fun _ => rfl⟩, ⟨rfl, rfl, rfl, by simp, fun b hb _ => heap_alloc_old w.drew _ hb⟩⟩
    · have hzc : (Value.int q 0).cells.size = 1 := rfl
      simp only [Array.size_append, size_zeroCells, hzc]
      omega
    · rw [zeros_eq, List.nil_append, Array.toList_append, Nat.mul_one]
      show ((List.replicate m (Value.int q 0)) ++ _).take m = _
      exact List.take_left' List.length_replicate
  · injection hv with e1 e2 e3
    subst e1 e3
    rw [Nat.mul_one] at hcs htake
    obtain ⟨v', w', hr, h2, h3⟩ := run_append_own_zeros (P := P) w base t tn ty e i q k kn bytes ht htn hi hz hsize hby g n cap m xs hown h63 hbytes hbase
    refine ⟨v', w', hr, h2, ?_, h3⟩
    have hlt : g < w.heap.size := (Array.getElem?_eq_some_iff.1 hg).1
    refine ⟨.inr ⟨g, 0, rfl, Nat.lt_of_lt_of_le hlt h3.size, fun j hj => ?_⟩, hsl0.room, fun h => by cases h⟩
    have hj' : j < n := by omega
    rw [Nat.zero_add]
    have hcur : w.cell? ⟨g, j, none⟩ = xs[j]? := by
      rw [cell_of_row w g j cur e (0, 0) hg, ← htake, List.getElem?_take, if_pos hj']; simp
    subst hby
    by_cases hroom : n + m ≤ cap
    · have hq := run_append_zeros_room (P := P) w t tn ty e i q k kn ht htn hi hz hsize g n cap m cur hg hroom (by omega) (by unfold maxLen at h63; omega) (by have : m * i.bytes ≤ (n + m) * i.bytes := Nat.mul_le_mul_right _ (Nat.le_add_left m n); omega)
      rw [hr] at hq
      injection hq with _ hw
      rw [hw, cell_setRow_same w g j cur _ e (0, 0) hg, List.getElem?_toArray, List.append_assoc, List.getElem?_append_left (by rw [List.length_take, Array.length_toList]; omega), List.getElem?_take, if_pos hj', ← htake, List.getElem?_take, if_pos hj']
    · have holds : ∀ j u, xs[j]? = some u → w.cell? ((⟨g, 0, none⟩ : Addr).add j) = some u := hown.cells (g := g) rfl
      have hq := run_append_zeros_grow (P := P) w t tn ty e i q k kn ht htn hi hz hsize ⟨g, 0, none⟩ n cap m xs (by rw [hsize]; omega) holds (by omega) (by omega) (by unfold maxLen at h63; omega) (by have : m * i.bytes ≤ (n + m) * i.bytes := Nat.mul_le_mul_right _ (Nat.le_add_left m n); omega) (growslice_fits (by omega) hbytes)
      rw [hr] at hq
      injection hq with _ hw
      rw [hw, World.cell?_alloc_lt _ _ _ (by exact hlt)]
      exact hcur
theorem wpList_append_zeros_any {P : Program} {w : World} {ops : Array Oper} {rest : List Oper} {o : Oper} {a : Act} {Q : Exit → Act → World → Prop} (hgd : o.guard = none) (s x : Operand) (t tn : TypeId)
    (ho : o.op = .call { callee := .builtin .append, args := #[s, x], argTypes := #[t, tn] })
    (base : Nat) (e : TypeId) (i : TypeInfo) (q k kn : IntKind) (bytes : Nat) (ht : P.underlying t = some (.slice e)) (htn : P.underlying tn = some (.int kn)) (hi : P.info? e = some i) (hz : i.zero = some (.int q 0)) (hsize : i.size = 1) (hby : i.bytes = bytes)
    (A : Option Addr) (n cap m : Nat) (M : Int) (xs : List Value) (hs : a.eval s = .slice A n cap) (hx : a.eval x = .int k M) (hM : M = (m : Int)) (hown : w.ownsRow base e 1 (.slice A n cap) n xs) (h0 : 0 < m)
    (h63 : n + m ≤ maxLen) (hbytes : (n + m) * bytes ≤ 140737488355328) (hbase : base ≤ w.heap.size)
    (h : ∀ v' w', w'.ownsRow base e 1 v' (n + m) (xs ++ List.replicate m (Value.int q 0)) → Sl w' A cap xs → w.grownBy w' (Value.ownBlock (.slice A n cap)) → wpList P ops Q rest (a.put o.dst v') w') : wpList P ops Q (o :: rest) a w := by
  subst hM
  refine wpList_plain hgd fun _ hK => ?_
  obtain ⟨v', w', hrun, h2, h3, h4⟩ := run_append_zeros_any (P := P) w base t tn o.type e i q k kn bytes ht htn hi hz hsize hby A n cap m xs hown h0 h63 hbytes hbase
  unfold Oper.wp execOp
  simp only [ho, resolve, invoke, builtin, Sem.run_bind, Sem.run_pure, Result.andThen_ok, List.map_toArray, List.map_cons, List.map_nil, hs, hx, hrun]
  exact hK _ _ (h v' w' h2 h3 h4)
end Go.Proofs.Ythiebbhooigogaa
