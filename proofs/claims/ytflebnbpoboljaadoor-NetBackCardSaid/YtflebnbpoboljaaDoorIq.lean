/- LAYER 12: lists: every address that can be comes back from its text. No Go function is spoken of here. -/
import Derived.Test.YtflebnbpoboljaaDoorIs
namespace Go.Proofs.YtflebnbpoboljaaDoor
set_option maxRecDepth 100000
open Go Go.RowKit

theorem hi_lo (x y : UInt8) : UInt8.ofNat ((x.toNat * 256 + y.toNat) / 256) = x ∧ UInt8.ofNat ((x.toNat * 256 + y.toNat) % 256) = y := by
  have hx := x.toNat_lt
  have hy := y.toNat_lt
  rw [show (x.toNat * 256 + y.toNat) / 256 = x.toNat by omega, show (x.toNat * 256 + y.toNat) % 256 = y.toNat by omega]
  exact ⟨UInt8.ofNat_toNat, UInt8.ofNat_toNat⟩
theorem sixA_nums (a : Adr) (h : a.Ok) (h6 : a.v6 = true) : sixA (numsA a) = a := by
  obtain ⟨v, b⟩ := a
  cases h6
  have h : b.length = 16 := h
  match b, h with
  | [b0, b1, b2, b3, b4, b5, b6, b7, b8, b9, b10, b11, b12, b13, b14, b15], _ =>
    show Adr.mk true [UInt8.ofNat ((b0.toNat * 256 + b1.toNat) / 256), UInt8.ofNat ((b0.toNat * 256 + b1.toNat) % 256), UInt8.ofNat ((b2.toNat * 256 + b3.toNat) / 256), UInt8.ofNat ((b2.toNat * 256 + b3.toNat) % 256), UInt8.ofNat ((b4.toNat * 256 + b5.toNat) / 256), UInt8.ofNat ((b4.toNat * 256 + b5.toNat) % 256), UInt8.ofNat ((b6.toNat * 256 + b7.toNat) / 256), UInt8.ofNat ((b6.toNat * 256 + b7.toNat) % 256), UInt8.ofNat ((b8.toNat * 256 + b9.toNat) / 256), UInt8.ofNat ((b8.toNat * 256 + b9.toNat) % 256), UInt8.ofNat ((b10.toNat * 256 + b11.toNat) / 256), UInt8.ofNat ((b10.toNat * 256 + b11.toNat) % 256), UInt8.ofNat ((b12.toNat * 256 + b13.toNat) / 256), UInt8.ofNat ((b12.toNat * 256 + b13.toNat) % 256), UInt8.ofNat ((b14.toNat * 256 + b15.toNat) / 256), UInt8.ofNat ((b14.toNat * 256 + b15.toNat) % 256)] = _
    simp only [(hi_lo _ _).1, (hi_lo _ _).2]
theorem numsA_len (a : Adr) : (numsA a).length = 8 := by unfold numsA; simp
theorem numsA_le (a : Adr) : ∀ n ∈ numsA a, n ≤ 65535 := by
  intro n hn
  obtain ⟨i, _, rfl⟩ := List.mem_map.1 hn
  have := (a.b.getD (2 * i) 0).toNat_lt
  have := (a.b.getD (2 * i + 1) 0).toNat_lt
  omega
theorem textA_six (l : List Nat) (h : l.length = 8) (hm : ∀ n ∈ l, n ≤ 65535) : textA (sixA l) = textN l := by
  have e : numsA (sixA l) = l := by
    match l, h, hm with
    | [n0, n1, n2, n3, n4, n5, n6, n7], _, hm =>
      have e : ∀ n, n ≤ 65535 → (UInt8.ofNat (n / 256)).toNat * 256 + (UInt8.ofNat (n % 256)).toNat = n := fun n hn => by
        rw [UInt8.toNat_ofNat', UInt8.toNat_ofNat']; omega
      show [(UInt8.ofNat (n0 / 256)).toNat * 256 + (UInt8.ofNat (n0 % 256)).toNat, (UInt8.ofNat (n1 / 256)).toNat * 256 + (UInt8.ofNat (n1 % 256)).toNat, (UInt8.ofNat (n2 / 256)).toNat * 256 + (UInt8.ofNat (n2 % 256)).toNat, (UInt8.ofNat (n3 / 256)).toNat * 256 + (UInt8.ofNat (n3 % 256)).toNat, (UInt8.ofNat (n4 / 256)).toNat * 256 + (UInt8.ofNat (n4 % 256)).toNat, (UInt8.ofNat (n5 / 256)).toNat * 256 + (UInt8.ofNat (n5 % 256)).toNat, (UInt8.ofNat (n6 / 256)).toNat * 256 + (UInt8.ofNat (n6 % 256)).toNat, (UInt8.ofNat (n7 / 256)).toNat * 256 + (UInt8.ofNat (n7 % 256)).toNat] = _
      rw [e n0 (hm n0 (by simp)), e n1 (hm n1 (by simp)), e n2 (hm n2 (by simp)), e n3 (hm n3 (by simp)), e n4 (hm n4 (by simp)), e n5 (hm n5 (by simp)), e n6 (hm n6 (by simp)), e n7 (hm n7 (by simp))]
  unfold textA
  rw [checkA_six, e]; rfl
theorem four_back (a : Adr) (h : a.Ok) (hc : checkA a = true) (h6 : a.v6 = false) : ∃ l : List Nat, l.length = 4 ∧ (∀ n ∈ l, n ≤ 255) ∧ fourA l = a := by
  obtain ⟨v, b⟩ := a
  cases h6
  have h : b.length = 16 := h
  refine ⟨(b.take 4).map UInt8.toNat, by rw [List.length_map, List.length_take, h]; rfl, fun n hn => ?_, ?_⟩
  · obtain ⟨x, _, rfl⟩ := List.mem_map.1 hn
    have := x.toNat_lt
    omega
  · have hz : b.drop 4 = List.replicate 12 0 := by
      rw [List.eq_replicate_iff]
      refine ⟨by rw [List.length_drop, h], fun x hx => ?_⟩
      have h2 : (b.drop 4).all (· == 0) = true := by
        have hc : (false || (b.drop 4).all (· == 0)) = true := hc
        rwa [Bool.false_or] at hc
      simpa using List.all_eq_true.1 h2 x hx
    show Adr.mk false (((b.take 4).map UInt8.toNat).map UInt8.ofNat ++ List.replicate 12 0) = _
    rw [← hz, List.map_map]
    have e : (UInt8.ofNat ∘ UInt8.toNat) = id := by funext x; exact UInt8.ofNat_toNat
    rw [e, List.map_id, List.take_append_drop]
theorem parse6_back (l : List Nat) (h8 : l.length = 8) (hm : ∀ n ∈ l, n ≤ 65535) : parse6 (textN l) = some (sixA l) := by
  have ht := textA_six l h8 hm
  obtain ⟨b, hb⟩ : ∃ b, b = bestL l := ⟨_, rfl⟩
  obtain ⟨n, hn⟩ : ∃ n, n = zerosL (l.drop b) := ⟨_, rfl⟩
  have hT : textN l = if n < 2 then joinN l else joinN (l.take b) ++ 58 :: 58 :: joinN (l.drop (b + n)) := by rw [hn, hb]; rfl
  have hbl : b ≤ 8 := by rw [hb, ← h8]; exact bestK_le l l.length
  have hnl : n ≤ 8 - b := by have := zerosL_le (l.drop b); rw [List.length_drop, h8] at this; omega
  by_cases h2 : n < 2
  · rw [if_pos h2] at hT
    have hf : findC (textN l) = none := by
      rw [hT, joinN_glue]
      have := findC_glue (l.map (numL 16)) [] (pieces_ok l)
      rw [List.append_nil] at this
      rw [this]; rfl
    have hnum : numbersL 16 4 65535 58 (textN l) = some l :=
      (numbersL_iff 16 4 65535 58 (by omega) (by omega) (.inr rfl) _ l).2 ⟨by rw [hT, joinN_glue], fun q hq => ⟨hm q hq, numL16_len q (hm q hq)⟩⟩
    unfold parse6
    simp only [hf, hnum]
    rw [if_pos ⟨h8, ht⟩]
  · rw [if_neg h2] at hT
    have hf : findC (textN l) = some (joinN (l.take b)).length := by
      rw [hT, joinN_glue (l.take b), findC_glue _ _ (pieces_ok _)]
      show (some 0).map _ = _
      simp
    have e1 : (textN l).take (joinN (l.take b)).length = joinN (l.take b) := by rw [hT, List.take_left']; rfl
    have e2 : (textN l).drop ((joinN (l.take b)).length + 2) = joinN (l.drop (b + n)) := by
      rw [hT, ← List.drop_drop, List.drop_left']
      · rfl
      · rfl
    have hmt : ∀ q ∈ l.take b, q ≤ 65535 := fun q hq => hm q (List.mem_of_mem_take hq)
    have hmd : ∀ q ∈ l.drop (b + n), q ≤ 65535 := fun q hq => hm q (List.mem_of_mem_drop hq)
    have n1 : numbersL 16 4 65535 58 (joinN (l.take b)) = some (l.take b) :=
      (numbersL_iff 16 4 65535 58 (by omega) (by omega) (.inr rfl) _ _).2 ⟨joinN_glue _, fun q hq => ⟨hmt q hq, numL16_len q (hmt q hq)⟩⟩
    have n2 : numbersL 16 4 65535 58 (joinN (l.drop (b + n))) = some (l.drop (b + n)) :=
      (numbersL_iff 16 4 65535 58 (by omega) (by omega) (.inr rfl) _ _).2 ⟨joinN_glue _, fun q hq => ⟨hmd q hq, numL16_len q (hmd q hq)⟩⟩
    have hlt : (l.take b).length = b := by rw [List.length_take, h8]; omega
    have hld : (l.drop (b + n)).length = 8 - (b + n) := by rw [List.length_drop, h8]
    have hp : padL (l.take b) (l.drop (b + n)) = l := by
      unfold padL
      rw [hlt, hld, show 8 - (b + (8 - (b + n))) = n by omega]
      have e := zerosL_split (l.drop b)
      rw [← hn, List.drop_drop] at e
      rw [← e, List.take_append_drop]
    unfold parse6
    simp only [hf, e1, e2, n1, n2, hp]
    rw [if_pos ⟨by rw [hlt, hld]; omega, ht⟩]
theorem glue4_has (l : List Nat) (h : l.length = 4) : (46 : UInt8) ∈ glueL 46 (l.map (numL 10)) := by
  match l, h with
  | a :: b :: t, _ =>
    show (46 : UInt8) ∈ numL 10 a ++ 46 :: _
    simp
/-- The text's address: the one whose text it is. -/
theorem parseL_back (a : Adr) (h : a.Ok) (hc : checkA a = true) : parseL (textA a) = some a := by
  cases h6 : a.v6 with
  | false =>
    obtain ⟨l, h4, hm, rfl⟩ := four_back a h hc h6
    have ht := (textA_four l h4 hm).2.2
    have hn : numbersL 10 3 255 46 (textA (fourA l)) = some l :=
      (numbersL_iff 10 3 255 46 (by omega) (by omega) (.inl rfl) _ l).2 ⟨ht, fun q hq => ⟨hm q hq, numL10_len q (hm q hq)⟩⟩
    unfold parseL
    simp only [hn]
    rw [if_pos h4]
  | true =>
    have hs := sixA_nums a h h6
    have h8 := numsA_len a
    have hm := numsA_le a
    have ht : textA a = textN (numsA a) := by rw [← textA_six _ h8 hm, hs]
    have hp := parse6_back (numsA a) h8 hm
    rw [hs] at hp
    rw [ht]
    unfold parseL
    cases hn : numbersL 10 3 255 46 (textN (numsA a)) with
    | none => exact hp
    | some l =>
      simp only []
      by_cases h4 : l.length = 4
      · have := ((numbersL_iff 10 3 255 46 (by omega) (by omega) (.inl rfl) _ l).1 hn).1
        exact absurd (by rw [this]; exact glue4_has l h4) (textN_no46 (numsA a))
      · rw [if_neg h4]; exact hp
theorem parseL_iff (s : List UInt8) (a : Adr) : parseL s = some a ↔ a.Ok ∧ checkA a = true ∧ textA a = s := by
  constructor
  · exact parseL_sound s a
  · rintro ⟨h, hc, rfl⟩
    exact parseL_back a h hc
end Go.Proofs.YtflebnbpoboljaaDoor
