/-
  The contracts of package word: Reserved, Begins, Inner, Plain.
-/
import Derived.Test.YtjlimnmcaganfaaProg
import Derived.Test.YtjlimnmcaganfaaWordMath
import Derived.WalkKit
import Derived.WalkSpells
import Derived.WalkLawsBesides
import Derived.Deep.QuietTactic
import Derived.BigQuiet
import Derived.Lib.Hide
namespace Go.Proofs.Ytjlimnmcaganfaa
open Go.RowKit Go.PlainAid

theorem begins_any (c : Int) (w : World) : Calls Try.prog 14 #[.int .u8 c] w fun e w' => e = .returned (.int .i64 (beg c)) ∧ w = w' := by
  by_cases h1 : 97 ≤ c
  · by_cases h2 : c ≤ 122
    · have e : beg c = 1 := by unfold beg; rw [if_pos ⟨h1, h2⟩]
      rw [e]
      go_enter Try.func14, Try.ntmps14
      go_wp2
      go_ret
      exact ⟨rfl, rfl⟩
    · have e : beg c = 0 := by unfold beg; rw [if_neg (by omega), if_neg (by omega), if_neg (by omega)]
      rw [e]
      have g2 : decide (c ≤ 122) = false := by simp; omega
      have g3 : 65 ≤ c := by omega
      have g4 : decide (c ≤ 90) = false := by simp; omega
      have g5 : (c == 95) = false := beq_false_of_ne (by omega)
      have g6 : 48 ≤ c := by omega
      have g7 : decide (c ≤ 57) = false := by simp; omega
      go_enter Try.func14, Try.ntmps14
      go_wp2
      go_ret
      exact ⟨rfl, rfl⟩
  have g1 : decide (97 ≤ c) = false := by simp; omega
  by_cases h3 : 65 ≤ c
  · by_cases h4 : c ≤ 90
    · have e : beg c = 2 := by unfold beg; rw [if_neg (by omega), if_pos (by omega)]
      rw [e]
      go_enter Try.func14, Try.ntmps14
      go_wp2
      go_ret
      exact ⟨rfl, rfl⟩
    · have g4 : decide (c ≤ 90) = false := by simp; omega
      by_cases h5 : c = 95
      · have e : beg c = 2 := by unfold beg; rw [if_neg (by omega), if_pos (by omega)]
        rw [e]
        have g5 : (c == 95) = true := by rw [h5]; rfl
        clear h5
        go_enter Try.func14, Try.ntmps14
        go_wp2
        go_ret
        exact ⟨rfl, rfl⟩
      · have e : beg c = 0 := by unfold beg; rw [if_neg (by omega), if_neg (by omega), if_neg (by omega)]
        rw [e]
        have g5 : (c == 95) = false := beq_false_of_ne h5
        have g6 : 48 ≤ c := by omega
        have g7 : decide (c ≤ 57) = false := by simp; omega
        go_enter Try.func14, Try.ntmps14
        go_wp2
        go_ret
        exact ⟨rfl, rfl⟩
  have g3 : decide (65 ≤ c) = false := by simp; omega
  have g5 : (c == 95) = false := beq_false_of_ne (by omega)
  by_cases h6 : 48 ≤ c
  · by_cases h7 : c ≤ 57
    · have e : beg c = 3 := by unfold beg; rw [if_neg (by omega), if_neg (by omega), if_pos (by omega)]
      rw [e]
      go_enter Try.func14, Try.ntmps14
      go_wp2
      go_ret
      exact ⟨rfl, rfl⟩
    · have e : beg c = 0 := by unfold beg; rw [if_neg (by omega), if_neg (by omega), if_neg (by omega)]
      rw [e]
      have g7 : decide (c ≤ 57) = false := by simp; omega
      go_enter Try.func14, Try.ntmps14
      go_wp2
      go_ret
      exact ⟨rfl, rfl⟩
  · have e : beg c = 0 := by unfold beg; rw [if_neg (by omega), if_neg (by omega), if_neg (by omega)]
    rw [e]
    have g6 : decide (48 ≤ c) = false := by simp; omega
    go_enter Try.func14, Try.ntmps14
    go_wp2
    go_ret
    exact ⟨rfl, rfl⟩
theorem inner_any (c : Int) (w : World) : Calls Try.prog 12 #[.int .u8 c] w fun e w' => e = .returned (.bool (inn c)) ∧ w = w' := by
  have H := Lib.hid (fun W => begins_any c W)
  unfold inn
  obtain ⟨b, hb⟩ : ∃ b, b = beg c := ⟨_, rfl⟩
  rw [← hb] at H ⊢
  clear hb
  go_enter Try.func12, Try.ntmps12
  go_wp2_with fail
  refine (H.out _).mono ?_
  rintro e w' ⟨rfl, rfl⟩
  by_cases h : b = 0
  · subst h
    go_wp2
    go_ret
    exact ⟨rfl, rfl⟩
  · have g : (b != 0) = true := by simpa using h
    go_wp2
    go_ret
    exact ⟨by rw [g]; rfl, rfl⟩
set_option maxRecDepth 100000 in
set_option maxHeartbeats 4000000 in
theorem reserved_any (s : ByteArray) (w : World) : Calls Try.prog 8 #[.string s] w fun e w' => e = .returned (.bool (rs s)) ∧ w = w' := by
  obtain ⟨b, hb⟩ : ∃ b, b = rs s := ⟨_, rfl⟩
  rw [← hb]
  have HB : Hid (b = ws.any fun l => s.toList == l) := by rw [hb, ByteArray.toList_eq]; rfl
  clear hb
  go_enter Try.func8, Try.ntmps8
  go_wp2
  all_goals first
    | (exfalso; simp_all; done)
    | (go_ret; refine ⟨?_, rfl⟩; rw [HB.out]; simp [ws, *]; done)
theorem empty_of {s : ByteArray} (h : s.size = 0) : s = ⟨#[]⟩ := by
  cases s with | mk d => cases d with | mk l => cases l with
    | nil => rfl
    | cons x l => simp [ByteArray.size] at h
theorem ne_empty {s : ByteArray} (h : s.size ≠ 0) : (s.toList == []) = false := by
  rw [ByteArray.toList_eq]
  cases s with | mk d => cases d with | mk l => cases l with
    | nil => exact absurd rfl h
    | cons x l => rfl
/-- PLAIN. -/
theorem plain_any (s : ByteArray) (w : World) (hs : s.size ≤ maxLen) : Calls Try.prog 10 #[.string s] w fun e w' => e = .returned (.bool (pl s)) ∧ ∃ n, w' = w.drewN n := by
  by_cases h0 : s.size = 0
  · obtain rfl := empty_of h0
    rw [pl_empty]
    clear h0 hs
    go_enter Try.func10, Try.ntmps10
    go_wp2
    go_ret
    exact ⟨rfl, 0, rfl⟩
  have g0 := ne_empty h0
  have HR := Lib.hid (fun W => reserved_any s W)
  have hp : 0 < s.size := by omega
  have gb := get_bt s
  unfold maxLen at hs
  obtain ⟨b, hb⟩ : ∃ b, b = beg (bt s 0) := ⟨_, rfl⟩
  have HB : Hid (∀ W, Calls Try.prog 14 #[.int .u8 (bt s 0)] W fun e w' => e = .returned (.int .i64 b) ∧ W = w') := fun W => by rw [hb]; exact begins_any _ W
  have HI : Hid (∀ (k : Nat) W, Calls Try.prog 12 #[.int .u8 (bt s k)] W fun e w' => e = .returned (.bool (inn (bt s k))) ∧ W = w') := fun k W => inner_any _ W
  clear h0
  by_cases h1 : b = 1
  · have g1 : (b != 1) = false := by rw [h1]; rfl
    have HP : Hid (inns s = true → pl s = !rs s) := fun h => pl_res (by rw [← hb, h1]) h
    clear h1 hb
    go_enter Try.func10, Try.ntmps10
    go_wp2_with fail
    refine (HB.out _).mono ?_
    rintro e w' ⟨rfl, rfl⟩
    go_wp2_with fail
    go_loopw [14] (fun i wr => ∃ k : Nat, k ≤ s.size ∧ i = .int .i64 k ∧ Hid (∀ j, j < k → inn (bt s j) = true) ∧ Hid (∃ n, wr = w.drewN n)) (fun i _ => s.size - (intOf i).toNat)
    case atStart => exact ⟨0, Nat.zero_le _, rfl, fun j hj => absurd hj (Nat.not_lt_zero _), ⟨0, rfl⟩⟩
    case round =>
      obtain ⟨k, hk, rfl, HK, HW⟩ := hrel
      obtain ⟨n0, rfl⟩ := HW.out
      by_cases hlt : k < s.size
      · have HIk := Lib.hid (HI.out k)
        obtain ⟨v, hv⟩ : ∃ v, v = inn (bt s k) := ⟨_, rfl⟩
        rw [← hv] at HIk
        go_wp2_with fail
        refine (HIk.out _).mono ?_
        rintro e w' ⟨rfl, rfl⟩
        cases v
        · have HF : Hid (pl s = false) := pl_inner (inns_not hlt hv.symm)
          clear hv
          go_wp2
          go_ret
          exact ⟨by rw [HF.out]; rfl, _, rfl⟩
        · have HF : Hid (∀ j, j < k + 1 → inn (bt s j) = true) := fun j hj => by
            by_cases hjk : j < k
            · exact HK.out j hjk
            · obtain rfl : j = k := by omega
              exact hv.symm
          clear hv
          go_wp2_with fail
          go_roundw
          case rel => exact ⟨k + 1, hlt, by go_num, HF, ⟨_, rfl⟩⟩
          case measure => simp [intOf]; omega
      · have HF : Hid (pl s = !rs s) := HP.out (inns_of fun j hj => HK.out j (by omega))
        go_wp2_with fail
        refine (HR.out _).mono ?_
        rintro e w' ⟨rfl, rfl⟩
        go_wp2
        go_ret
        exact ⟨by rw [HF.out]; rfl, _, rfl⟩
  · have g1 : (b != 1) = true := by simpa using h1
    have HP : Hid (pl s = false) := pl_begin (by rw [← hb]; exact h1)
    clear h1 hb
    go_enter Try.func10, Try.ntmps10
    go_wp2_with fail
    refine (HB.out _).mono ?_
    rintro e w' ⟨rfl, rfl⟩
    go_wp2_with fail
    go_ret
    exact ⟨by rw [HP.out]; rfl, 0, rfl⟩
end Go.Proofs.Ytjlimnmcaganfaa
