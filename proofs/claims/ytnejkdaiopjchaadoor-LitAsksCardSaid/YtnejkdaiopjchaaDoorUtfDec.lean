/-
  What the language's own range over a text finds at a byte: where a code point begins, that one; a byte that begins none counts by itself.
-/
import Derived.Test.YtnejkdaiopjchaaDoorUtfMath
import Derived.Lib.DecodeN
import Derived.Lib.SpaceUEq
namespace Go.Proofs.YtnejkdaiopjchaaDoor
open Go.PlainAid

theorem get_nat (s : ByteArray) (k : Nat) : (((s.get! k).toNat : Nat) : Int) = bt s k := by
  by_cases h : k < s.size
  · have e : s.get! k = s[k]'h := by simp [ByteArray.get!, getElem!_pos, h]; rfl
    rw [e]
    exact get_bt s k h
  · rw [bt_end s (by omega)]
    have e : s.get! k = 0 := by
      show s.data[k]! = 0
      rw [getElem!_neg _ _ (by exact h)]
      rfl
    rw [e]
    rfl
/-- The bytes behind the first one of what is found there follow on; it ends within the text. -/
theorem dec_conts (s : ByteArray) (k : Nat) : (∀ j, 1 ≤ j → j < (Utf8.decode s k).2 → 128 ≤ bt s (k + j) ∧ k + j < s.size) ∧ (Utf8.decode s k).2 ≤ 4 := by
  rw [Lib.decode_at]
  obtain ⟨h1, h2, h3, h4⟩ := Lib.decodeN_conts (s.size - k) (s.get! k).toNat (s.get! (k + 1)).toNat (s.get! (k + 2)).toNat (s.get! (k + 3)).toNat
  refine ⟨fun j hj1 hj2 => ?_, h4⟩
  have g1 := get_nat s (k + 1)
  have g2 := get_nat s (k + 2)
  have g3 := get_nat s (k + 3)
  obtain rfl | rfl | rfl : j = 1 ∨ j = 2 ∨ j = 3 := by omega
  · have := h1 (by omega); omega
  · have := h2 (by omega); omega
  · have := h3 (by omega); omega
theorem ln_cases {x : Int} (h : ln x ≠ 0) : (x < 128 ∧ ln x = 1) ∨ (192 ≤ x ∧ x < 224 ∧ ln x = 2) ∨ (224 ≤ x ∧ x < 240 ∧ ln x = 3) ∨ (240 ≤ x ∧ x < 248 ∧ ln x = 4) := by
  by_cases h1 : x < 128
  · exact .inl ⟨h1, by unfold ln; rw [if_pos h1]⟩
  by_cases h2 : x < 192
  · exact absurd (by unfold ln; rw [if_neg h1, if_pos h2]) h
  by_cases h3 : x < 224
  · exact .inr (.inl ⟨by omega, h3, by unfold ln; rw [if_neg h1, if_neg h2, if_pos h3]⟩)
  by_cases h4 : x < 240
  · exact .inr (.inr (.inl ⟨by omega, h4, by unfold ln; rw [if_neg h1, if_neg h2, if_neg h3, if_pos h4]⟩))
  by_cases h5 : x < 248
  · exact .inr (.inr (.inr ⟨by omega, h5, by unfold ln; rw [if_neg h1, if_neg h2, if_neg h3, if_neg h4, if_pos h5]⟩))
  · exact absurd (by unfold ln; rw [if_neg h1, if_neg h2, if_neg h3, if_neg h4, if_neg h5]) h
/-- WHERE A CODE POINT BEGINS IT IS FOUND. -/
theorem dec_nc {s : ByteArray} {k : Nat} (h : ¬ nc s k < 0) : ((Utf8.decode s k).1 : Int) = nc s k ∧ (Utf8.decode s k).2 = nl s k := by
  rw [Lib.decode_at]
  have g0 := get_nat s k
  have g1 := get_nat s (k + 1)
  have g2 := get_nat s (k + 2)
  have g3 := get_nat s (k + 3)
  have b0 := bt_nonneg s k
  have b1 := bt_le s k
  obtain ⟨hl0, hin⟩ := nc_in h
  have hnl : nl s k = ln (bt s k) := by unfold nl; rw [if_neg h]
  have hp := nc_pt h
  have hj : nc s k = jv s k (ln (bt s k)) ∧ lstOf (ln (bt s k)) ≤ jv s k (ln (bt s k)) := by
    unfold nc at h ⊢
    rw [if_neg (by omega)] at h ⊢
    split at h
    · omega
    · rename_i hlt
      rw [if_neg hlt]
      split at h
      · rename_i hpt
        rw [if_pos hpt]
        exact ⟨rfl, by omega⟩
      · omega
  obtain ⟨hj1, hj2⟩ := hj
  have hok : okn s k (ln (bt s k) - 1) = true := by
    apply Classical.byContradiction
    intro ho
    have hv : jv s k (ln (bt s k)) = -1 := by unfold jv; rw [if_neg ho]
    omega
  have hv : nc s k = jp s k (hdOf (ln (bt s k))) (ln (bt s k) - 1) := by rw [hj1]; unfold jv; rw [if_pos hok]
  rw [hnl]
  rw [← hj1] at hj2
  have hpt := of_decide_eq_true hp
  clear hp hj1 hnl h
  obtain ⟨x, hx⟩ : ∃ x, x = bt s k := ⟨_, rfl⟩
  rw [← hx] at g0 b0 b1 hl0 hin hj2 hok hv ⊢
  have hjp0 : jp s k 0 0 = x := by simp only [jp, ← hx]; omega
  have hcase := ln_cases hl0
  rcases hcase with ⟨c1, e⟩ | ⟨c0, c1, e⟩ | ⟨c0, c1, e⟩ | ⟨c0, c1, e⟩
  · rw [e] at hv hj2 hin hok ⊢
    simp only [hdOf, Nat.sub_self, hjp0] at hv
    unfold Lib.decodeN
    rw [if_pos (by omega)]
    exact ⟨by simp only; omega, rfl⟩
  · rw [e] at hv hj2 hin hok ⊢
    simp only [Nat.reduceSub, okn, Bool.true_and, Nat.zero_add] at hok
    have k1 := of_decide_eq_true hok
    simp only [Nat.reduceSub, jp, hdOf, Nat.zero_add, ← hx] at hv
    simp only [lstOf] at hj2
    unfold Lib.decodeN
    rw [if_neg (by omega), if_pos (by omega), if_pos (by omega)]
    exact ⟨by simp only; omega, rfl⟩
  · rw [e] at hv hj2 hin hok ⊢
    simp only [Nat.reduceSub, okn, Bool.true_and, Nat.zero_add, Nat.reduceAdd, Bool.and_eq_true] at hok
    have k1 := of_decide_eq_true hok.1
    have k2 := of_decide_eq_true hok.2
    simp only [Nat.reduceSub, jp, hdOf, Nat.zero_add, Nat.reduceAdd, ← hx] at hv
    simp only [lstOf] at hj2
    unfold Lib.decodeN
    rw [if_neg (by omega), if_neg (by omega), if_pos (by omega), if_pos (by omega)]
    exact ⟨by simp only; omega, rfl⟩
  · rw [e] at hv hj2 hin hok ⊢
    simp only [Nat.reduceSub, okn, Bool.true_and, Nat.zero_add, Nat.reduceAdd, Bool.and_eq_true] at hok
    have k1 := of_decide_eq_true hok.1.1
    have k2 := of_decide_eq_true hok.1.2
    have k3 := of_decide_eq_true hok.2
    simp only [Nat.reduceSub, jp, hdOf, Nat.zero_add, Nat.reduceAdd, ← hx] at hv
    simp only [lstOf] at hj2
    unfold Lib.decodeN
    rw [if_neg (by omega), if_neg (by omega), if_neg (by omega), if_pos (by omega), if_pos (by omega)]
    exact ⟨by simp only; omega, rfl⟩
end Go.Proofs.YtnejkdaiopjchaaDoor
