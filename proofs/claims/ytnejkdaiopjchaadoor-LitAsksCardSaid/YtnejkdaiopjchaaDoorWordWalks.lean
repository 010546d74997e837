/-
  The contracts of package word: Reserved, Begins, Inner, Plain.
-/
import Derived.Test.YtnejkdaiopjchaaDoorProg
import Derived.Test.YtnejkdaiopjchaaDoorWordMath
import Derived.WalkKit
import Derived.WalkSpells
import Derived.WalkLawsBesides
import Derived.Deep.QuietTactic
import Derived.BigQuiet
import Derived.Lib.Hide
namespace Go.Proofs.YtnejkdaiopjchaaDoor
open Go.RowKit Go.PlainAid

theorem begins_any (c : Int) (w : World) : Calls Tryd.prog 52 #[.int .u8 c] w fun e w' => e = .returned (.int .i64 (beg c)) ∧ w = w' := by
  by_cases h1 : 97 ≤ c
  · by_cases h2 : c ≤ 122
    · have e : beg c = 1 := by unfold beg; rw [if_pos ⟨h1, h2⟩]
      rw [e]
      go_enter Tryd.func52, Tryd.ntmps52
      go_wp2
      go_ret
      exact ⟨rfl, rfl⟩
    · have e : beg c = 0 := by unfold beg; rw [if_neg (by omega), if_neg (by omega), if_neg (by omega)]
      rw [e]
      have g2 : decide (c ≤ 122) = false := by simp; omega
      have g3 : 65 ≤ c := by omega
      have g4 : decide (c ≤ 90) = false := by simp; omega
      have g5 : (c == 95) = false := beq_false_of_ne (by omega)
      have g6 : 48 ≤ c := by omega
      have g7 : decide (c ≤ 57) = false := by simp; omega
      go_enter Tryd.func52, Tryd.ntmps52
      go_wp2
      go_ret
      exact ⟨rfl, rfl⟩
  have g1 : decide (97 ≤ c) = false := by simp; omega
  by_cases h3 : 65 ≤ c
  · by_cases h4 : c ≤ 90
    · have e : beg c = 2 := by unfold beg; rw [if_neg (by omega), if_pos (by omega)]
      rw [e]
      go_enter Tryd.func52, Tryd.ntmps52
      go_wp2
      go_ret
      exact ⟨rfl, rfl⟩
    · have g4 : decide (c ≤ 90) = false := by simp; omega
      by_cases h5 : c = 95
      · have e : beg c = 2 := by unfold beg; rw [if_neg (by omega), if_pos (by omega)]
        rw [e]
        have g5 : (c == 95) = true := by rw [h5]; rfl
        clear h5
        go_enter Tryd.func52, Tryd.ntmps52
        go_wp2
        go_ret
        exact ⟨rfl, rfl⟩
      · have e : beg c = 0 := by unfold beg; rw [if_neg (by omega), if_neg (by omega), if_neg (by omega)]
        rw [e]
        have g5 : (c == 95) = false := beq_false_of_ne h5
        have g6 : 48 ≤ c := by omega
        have g7 : decide (c ≤ 57) = false := by simp; omega
        go_enter Tryd.func52, Tryd.ntmps52
        go_wp2
        go_ret
        exact ⟨rfl, rfl⟩
  have g3 : decide (65 ≤ c) = false := by simp; omega
  have g5 : (c == 95) = false := beq_false_of_ne (by omega)
  by_cases h6 : 48 ≤ c
  · by_cases h7 : c ≤ 57
    · have e : beg c = 3 := by unfold beg; rw [if_neg (by omega), if_neg (by omega), if_pos (by omega)]
      rw [e]
      go_enter Tryd.func52, Tryd.ntmps52
      go_wp2
      go_ret
      exact ⟨rfl, rfl⟩
    · have e : beg c = 0 := by unfold beg; rw [if_neg (by omega), if_neg (by omega), if_neg (by omega)]
      rw [e]
      have g7 : decide (c ≤ 57) = false := by simp; omega
      go_enter Tryd.func52, Tryd.ntmps52
      go_wp2
      go_ret
      exact ⟨rfl, rfl⟩
  · have e : beg c = 0 := by unfold beg; rw [if_neg (by omega), if_neg (by omega), if_neg (by omega)]
    rw [e]
    have g6 : decide (48 ≤ c) = false := by simp; omega
    go_enter Tryd.func52, Tryd.ntmps52
    go_wp2
    go_ret
    exact ⟨rfl, rfl⟩
theorem empty_of {s : ByteArray} (h : s.size = 0) : s = ⟨#[]⟩ := by
  cases s with | mk d => cases d with | mk l => cases l with
    | nil => rfl
    | cons x l => simp [ByteArray.size] at h
theorem ne_empty {s : ByteArray} (h : s.size ≠ 0) : (s.toList == []) = false := by
  rw [ByteArray.toList_eq]
  cases s with | mk d => cases d with | mk l => cases l with
    | nil => exact absurd rfl h
    | cons x l => rfl
end Go.Proofs.YtnejkdaiopjchaaDoor
