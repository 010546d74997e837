/-
  The contracts of package word: Reserved, Begins, Inner, Plain.
-/
import Derived.Test.YtajjhhodpohfpaaDoorProg
import Derived.Test.YtajjhhodpohfpaaDoorMath
import Derived.WalkKit
import Derived.WalkSpells
import Derived.WalkLawsBesides
import Derived.Deep.QuietTactic
import Derived.BigQuiet
import Derived.Lib.Hide
namespace Go.Proofs.YtajjhhodpohfpaaDoor
open Go.RowKit Go.PlainAid

theorem begins_any (c : Int) (w : World) : Calls Tryd.prog 39 #[.int .u8 c] w fun e w' => e = .returned (.int .i64 (beg c)) ∧ w = w' := by
  by_cases h1 : 97 ≤ c
  · by_cases h2 : c ≤ 122
    · have e : beg c = 1 := by unfold beg; rw [if_pos ⟨h1, h2⟩]
      rw [e]
      go_enter Tryd.func39, Tryd.ntmps39
      go_wp2
      go_ret
      exact ⟨rfl, rfl⟩
    · have e : beg c = 0 := by unfold beg; rw [if_neg (by omega), if_neg (by omega), if_neg (by omega)]
      rw [e]
      have g2 : decide (c ≤ 122) = false := by simp; omega
      have g3 : 65 ≤ c := by omega
      have g4 : decide (c ≤ 90) = false := by simp; omega
      have g5 : (c == 95) = false := beq_false_of_ne (by omega)
      have g6 : 48 ≤ c := by omega
      have g7 : decide (c ≤ 57) = false := by simp; omega
      go_enter Tryd.func39, Tryd.ntmps39
      go_wp2
      go_ret
      exact ⟨rfl, rfl⟩
  have g1 : decide (97 ≤ c) = false := by simp; omega
  by_cases h3 : 65 ≤ c
  · by_cases h4 : c ≤ 90
    · have e : beg c = 2 := by unfold beg; rw [if_neg (by omega), if_pos (by omega)]
      rw [e]
      go_enter Tryd.func39, Tryd.ntmps39
      go_wp2
      go_ret
      exact ⟨rfl, rfl⟩
    · have g4 : decide (c ≤ 90) = false := by simp; omega
      by_cases h5 : c = 95
      · have e : beg c = 2 := by unfold beg; rw [if_neg (by omega), if_pos (by omega)]
        rw [e]
        have g5 : (c == 95) = true := by rw [h5]; rfl
        clear h5
        go_enter Tryd.func39, Tryd.ntmps39
        go_wp2
        go_ret
        exact ⟨rfl, rfl⟩
      · have e : beg c = 0 := by unfold beg; rw [if_neg (by omega), if_neg (by omega), if_neg (by omega)]
        rw [e]
        have g5 : (c == 95) = false := beq_false_of_ne h5
        have g6 : 48 ≤ c := by omega
        have g7 : decide (c ≤ 57) = false := by simp; omega
        go_enter Tryd.func39, Tryd.ntmps39
        go_wp2
        go_ret
        exact ⟨rfl, rfl⟩
  have g3 : decide (65 ≤ c) = false := by simp; omega
  have g5 : (c == 95) = false := beq_false_of_ne (by omega)
  by_cases h6 : 48 ≤ c
  · by_cases h7 : c ≤ 57
    · have e : beg c = 3 := by unfold beg; rw [if_neg (by omega), if_neg (by omega), if_pos (by omega)]
      rw [e]
      go_enter Tryd.func39, Tryd.ntmps39
      go_wp2
      go_ret
      exact ⟨rfl, rfl⟩
    · have e : beg c = 0 := by unfold beg; rw [if_neg (by omega), if_neg (by omega), if_neg (by omega)]
      rw [e]
      have g7 : decide (c ≤ 57) = false := by simp; omega
      go_enter Tryd.func39, Tryd.ntmps39
      go_wp2
      go_ret
      exact ⟨rfl, rfl⟩
  · have e : beg c = 0 := by unfold beg; rw [if_neg (by omega), if_neg (by omega), if_neg (by omega)]
    rw [e]
    have g6 : decide (48 ≤ c) = false := by simp; omega
    go_enter Tryd.func39, Tryd.ntmps39
    go_wp2
    go_ret
    exact ⟨rfl, rfl⟩
theorem inner_any (c : Int) (w : World) : Calls Tryd.prog 76 #[.int .u8 c] w fun e w' => e = .returned (.bool (inn c)) ∧ w = w' := by
  have H := Lib.hid (fun W => begins_any c W)
  unfold inn
  obtain ⟨b, hb⟩ : ∃ b, b = beg c := ⟨_, rfl⟩
  rw [← hb] at H ⊢
  clear hb
  go_enter Tryd.func76, Tryd.ntmps76
  go_wp2_with fail
  refine (H.out _).mono ?_
  rintro e w' ⟨rfl, rfl⟩
  by_cases h : b = 0
  · subst h
    go_wp2
    go_ret
    exact ⟨rfl, rfl⟩
  · have g : (b != 0) = true := by simpa using h
    go_wp2
    go_ret
    exact ⟨by rw [g]; rfl, rfl⟩
set_option maxRecDepth 100000 in
set_option maxHeartbeats 4000000 in
theorem reserved_any (s : ByteArray) (w : World) : Calls Tryd.prog 59 #[.string s] w fun e w' => e = .returned (.bool (rs s)) ∧ w = w' := by
  obtain ⟨b, hb⟩ : ∃ b, b = rs s := ⟨_, rfl⟩
  rw [← hb]
  have HB : Hid (b = ws.any fun l => s.toList == l) := by rw [hb, ByteArray.toList_eq]; rfl
  clear hb
  go_enter Tryd.func59, Tryd.ntmps59
  go_wp2
  all_goals first
    | (exfalso; simp_all; done)
    | (go_ret; refine ⟨?_, rfl⟩; rw [HB.out]; simp [ws, *]; done)
theorem empty_of {s : ByteArray} (h : s.size = 0) : s = ⟨#[]⟩ := by
  cases s with | mk d => cases d with | mk l => cases l with
    | nil => rfl
    | cons x l => simp [ByteArray.size] at h
theorem ne_empty {s : ByteArray} (h : s.size ≠ 0) : (s.toList == []) = false := by
  rw [ByteArray.toList_eq]
  cases s with | mk d => cases d with | mk l => cases l with
    | nil => exact absurd rfl h
    | cons x l => rfl
end Go.Proofs.YtajjhhodpohfpaaDoor
