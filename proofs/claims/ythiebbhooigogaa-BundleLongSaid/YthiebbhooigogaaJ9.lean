/- LAYER 9: the document's Join. -/
import Derived.Test.YthiebbhooigogaaF9
namespace Go.Proofs.Ythiebbhooigogaa
open Go Go.RowKit

theorem index_fd (A : Option Addr) (b o n c k : Nat) (hA : A = some ⟨b, o, none⟩) (hk : k < n) (w : World) :
    (Instr.indexAt 62 (.slice A n c) (.int .i64 k)).run Try.prog w = .ok (.pointer (some ⟨b, o + k * 2, none⟩)) w := by
  subst hA
  have h : (k : Int) < (n : Int) := by omega
  go_simp
theorem size_fd : (Try.prog.info? 65).map (·.size) = some 2 := by kernel_rfl
set_option maxRecDepth 20000 in
set_option maxHeartbeats 2000000 in
theorem rjoin_any (A : Option Addr) (n c : Nat) (fs : List Fd) (w : World) (hs : Sl w A (c * 2) (fs.flatMap fdV)) (hn : n = fs.length) (hm : (joinL fs).length ≤ 1000000) :
    Calls Try.prog 36 #[.slice A n c] w (GaveBytes (joinL fs) w) := by
  subst hn
  obtain ⟨i0, hi, hz0, hz1, hz2⟩ := info_parts infoByte
  have hln := joinL_len fs
  have hown0 : (w.alloc (.cells #[] 5)).ownsRow w.heap.size 5 1 (.slice (some ⟨w.heap.size, 0, none⟩) 0 0) 0 [] := World.ownsRow_lit w #[] 0 (Nat.le_refl _) (by unfold maxLen; omega) rfl
  have hb0 := (Below.refl w.heap.size w).alloc (Nat.le_refl _) (.cells #[] 5)
  go_enter Try.func36, Try.ntmps36
  go_wp2_with fail
  go_loopw [3, 9] (fun v i wr => ∃ k : Nat, k ≤ fs.length ∧ i = .int .i64 k ∧ wr.ownsRow w.heap.size 5 1 v (joinL (fs.take k)).length (byts (joinL (fs.take k))) ∧ Below w.heap.size w wr) (fun _ i _ => fs.length - (intOf i).toNat)
  case atStart => exact ⟨0, by omega, rfl, hown0, hb0⟩
  case round =>
    clear hown0 hb0
    obtain ⟨k, hk, rfl, hown, hb⟩ := hrel
    by_cases hlt : k < fs.length
    · obtain ⟨f, hf⟩ : ∃ f, fs[k]? = some f := ⟨_, List.getElem?_eq_getElem hlt⟩
      obtain ⟨b, o, rfl, hb0, hr0⟩ := hs.rd.get (i := 0) (by rw [length_fdsV]; omega)
      clear hb0 hr0
      have hix := index_fd (some ⟨b, o, none⟩) b o fs.length c k rfl hlt
      have hrg := (hs.later (Nat.le_refl _) hb).thing (k := 2) (fun _ _ => rfl) k f hf
      have HS := Lib.hid (joinL_succ fs k f hf)
      have hjl : (joinL (fs.take (k + 1))).length ≤ (joinL fs).length := by
        have e : fs = fs.take (k + 1) ++ fs.drop (k + 1) := (List.take_append_drop (k + 1) fs).symm
        conv => rhs; rw [e]
        rw [joinL_append, List.length_append]; omega
      rw [HS.out, List.length_append] at hjl
      have hfl := length_fieldL f
      have hby := Lib.hid (show ∀ w1, Calls Try.prog 54 #[.agg (fdV f).toArray] w1 (GaveBytes (fieldL f) w1) from fun w1 => rfield_any f.1 f.2 (by omega) w1)
      have hzf := Lib.hid (show (Try.prog.info? 65).map (·.size) = some (fdV f).length from size_fd)
      have hzf2 := Lib.hid (show (Try.prog.info? 65).map (·.size) = some (fdV f).toArray.size from size_fd)
      have hof := Lib.hid (show (fdV f).toArray.all (·.oneCell') = true from all_one (fun v hv => fdV_one [f] v (by simpa using hv)))
      obtain ⟨V, hV⟩ : ∃ V, V = fdV f := ⟨_, rfl⟩
      rw [← hV] at hrg hby hzf hzf2 hof
      have hV2 := Lib.hid (show (2 : Nat) = V.toArray.size by rw [hV]; rfl)
      clear hV
      generalize joinL (fs.take k) = F at *
      have n1 : F.length + (fieldL f).length ≤ maxLen := by unfold maxLen; omega
      have n2 : (F.length + (fieldL f).length) * 1 ≤ 140737488355328 := by omega
      generalize fieldL f = G at *
      have HG := Lib.hid (show G.length = (byts G).length from (length_byts G).symm)
      clear hfl hf
      go_wp2_with (first
        | (with_reducible refine wpList_load_mid rfl 65 (.tmp 11) rfl b (o + k * 2) rfl V _ hrg Try.underlying65 rfl hzf.out ?_)
        | (with_reducible refine wpList_store_row rfl 65 (.tmp 5) (.tmp 12) rfl wr.heap.size V.toArray rfl rfl 65 _ (heap_alloc_new wr _) hzf2.out (Eq.trans (by kernel_rfl) hV2.out) hof.out ?_; refine Hid.out ?_))
      refine Lib.hid ?_
      generalize hw5 : World.setRow _ _ _ = w5
      obtain ⟨r5, hb5⟩ := row_new_set (xs := V) hw5
      have R5 := Lib.hid (show w5.heap[wr.heap.size]? = some (.cells V.toArray 65 (0, 0)) from r5)
      have hown5 := own_later hown hb5 (Nat.le_refl _)
      have hbw5 := hb.trans (hb5.mono hb.size)
      clear hw5 r5 hb5 hown
      go_wp2_with (first
        | (with_reducible refine wpList_load_row rfl 65 (.tmp 5) rfl wr.heap.size rfl 65 V.toArray (0, 0) _ R5.out Try.underlying65 rfl hzf2.out ?_)
        | (go_at_call 54; refine (hby.out _).mono ?_; rintro e w6 ⟨v6, rfl, hown6, hb6⟩; obtain ⟨A6, c6, rfl, _, hsl6⟩ := Sl.of_own hown6; have hownF := own_later hown5 hb6 (Nat.le_refl _); have hbw6 := hbw5.trans (hb6.mono hbw5.size); clear hown6 hb6)
        | (at_builtin; refine wpList_append_sl rfl (.tmp 13) (.tmp 15) 31 rfl w.heap.size 5 i0 _ 1 Try.underlying31 hi hz0 hz1 hz2 rfl _ F.length (byts F) rfl hownF A6 G.length c6 (byts G) rfl HG.out hsl6 (byts_one _) n1 n2 hbw6.size ?_; intro v7 w7 hown7 hg7; have hbw7 : Below w.heap.size w w7 := hbw6.grown hg7 hbw6.size (fun k hk => (hownF.lt k hk).1)))
      rw [← byts_append, ← List.length_append, ← HS.out] at hown7
      go_roundw
      case rel => exact ⟨k + 1, by omega, by go_num, hown7, hbw7⟩
      case measure => simp [intOf]; omega
    · obtain rfl : k = fs.length := by omega
      rw [List.take_length] at hown
      clear hlt hk hs
      generalize fs.length = n at *
      go_wp2
      go_ret
      exact ⟨_, rfl, hown, hb⟩
end Go.Proofs.Ythiebbhooigogaa
