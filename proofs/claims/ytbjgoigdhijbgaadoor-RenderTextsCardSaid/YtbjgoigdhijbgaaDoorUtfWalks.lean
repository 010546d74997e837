/-
  The contracts of package utf's functions that only read: point, length, join, Next, Valid, Count, over the three tables as the program's text lays them.
-/
import Derived.Test.YtbjgoigdhijbgaaDoorProg
import Derived.Test.YtbjgoigdhijbgaaDoorMath
import Derived.WalkKit
import Derived.WalkSpells
import Derived.WalkLawsBesides
import Derived.Deep.QuietTactic
import Derived.BigQuiet
import Derived.Lib.Hide
set_option linter.all false
namespace Go.Proofs.YtbjgoigdhijbgaaDoor
open Go.RowKit Go.PlainAid

/-- The three tables, as the program's text lays them. -/
def Tabs (w : World) : Prop :=
  (∀ k : Nat, k < 32 → w.cell? ⟨0, k, none⟩ = some (.int .i64 (ln (8 * (k : Int))))) ∧
  (∀ k : Nat, k < 5 → w.cell? ⟨1, k, none⟩ = some (.int .i64 (lstOf k))) ∧
  (∀ k : Nat, k < 5 → w.cell? ⟨2, k, none⟩ = some (.int .u8 (hdOf k)))
theorem Tabs.drewN {w : World} (h : Tabs w) (n : Nat) : Tabs (w.drewN n) := h

theorem point_yes (c : Int) (w : World) (h : isPt c = true) :
    Calls Tryd.prog 66 #[.int .i64 c] w fun e w' => e = .returned (.bool true) ∧ w = w' := by
  unfold isPt at h
  rcases of_decide_eq_true h with ⟨h1, h2⟩ | ⟨h1, h2⟩
  · clear h
    go_enter Tryd.func66, Tryd.ntmps66
    go_wp2
    go_ret
    exact ⟨rfl, rfl⟩
  · clear h
    have h0 : 0 ≤ c := by omega
    have h3 : 55296 ≤ c := by omega
    go_enter Tryd.func66, Tryd.ntmps66
    go_wp2
    go_ret
    exact ⟨rfl, rfl⟩
theorem point_no (c : Int) (w : World) (h : isPt c = false) :
    Calls Tryd.prog 66 #[.int .i64 c] w fun e w' => e = .returned (.bool false) ∧ w = w' := by
  unfold isPt at h
  have h' := of_decide_eq_false h
  clear h
  by_cases h0 : 0 ≤ c
  · have h1 : 55296 ≤ c := by omega
    by_cases h2 : 57344 ≤ c
    · have h3 : decide (c < 1114112) = false := by simp; omega
      have h4 : decide (c < 55296) = false := by simp; omega
      clear h' h1
      go_enter Tryd.func66, Tryd.ntmps66
      go_wp2
      go_ret
      exact ⟨rfl, rfl⟩
    · have h3 : c < 57344 := by omega
      have h4 : decide (c < 55296) = false := by simp; omega
      clear h' h2 h1
      go_enter Tryd.func66, Tryd.ntmps66
      go_wp2
      go_ret
      exact ⟨rfl, rfl⟩
  · have h3 : c < 0 := by omega
    clear h' h0
    go_enter Tryd.func66, Tryd.ntmps66
    go_wp2
    go_ret
    exact ⟨rfl, rfl⟩

/-- How many bytes a code point has. -/
def lenOf (c : Int) : Nat := if c < 128 then 1 else if c < 2048 then 2 else if c < 65536 then 3 else 4

theorem jp_bd (s : ByteArray) (k n : Nat) (hl : ln (bt s k) = n) (hn : n ≠ 0) : ∀ i, okn s k i = true → 0 ≤ jp s k (hdOf n) i ∧ jp s k (hdOf n) i < 256 * 64 ^ i := by
  intro i
  induction i with
  | zero =>
    intro _
    have h0 := bt_nonneg s k
    have h1 := bt_le s k
    simp only [jp]
    unfold ln at hl
    repeat' split at hl
    all_goals (first | omega | (subst hl; simp only [hdOf]; omega))
  | succ i ih =>
    intro h
    simp only [okn, Bool.and_eq_true] at h
    obtain ⟨h1, h2⟩ := h
    have := ih h1
    unfold isCo at h2
    have h3 := of_decide_eq_true h2
    simp only [jp]
    rw [Int.pow_succ]
    constructor
    · omega
    · omega

theorem ret_int {k : IntKind} {a b : Int} (h : a = b) : Ending.returned (.int k a) = .returned (.int k b) := by rw [h]
theorem jp_next {s : ByteArray} {h j : Int} {k : Nat} (h1 : 1 ≤ k) (hj : j = jp s 0 h (k - 1)) (c1 : 128 ≤ bt s k) (c2 : bt s k < 192) : j * 64 + bt s k % 64 = jp s 0 h (k + 1 - 1) := by
  obtain ⟨m, rfl⟩ : ∃ m, k = m + 1 := ⟨k - 1, by omega⟩
  simp only [Nat.add_sub_cancel] at hj ⊢
  simp only [jp, Nat.zero_add]
  rw [← hj]
  omega
theorem okn_next {s : ByteArray} {k : Nat} (h1 : 1 ≤ k) (ho : okn s 0 (k - 1) = true) (c1 : 128 ≤ bt s k) (c2 : bt s k < 192) : okn s 0 (k + 1 - 1) = true := by
  obtain ⟨m, rfl⟩ : ∃ m, k = m + 1 := ⟨k - 1, by omega⟩
  simp only [Nat.add_sub_cancel] at ho ⊢
  simp only [okn, Nat.zero_add, ho, Bool.true_and]
  exact decide_eq_true ⟨c1, c2⟩
theorem okn_all {s : ByteArray} {b : Nat} : ∀ i, okn s b i = true → ∀ x, 1 ≤ x → x ≤ i → 128 ≤ bt s (b + x) ∧ bt s (b + x) < 192
  | 0, _, x, h1, h2 => by omega
  | i + 1, h, x, h1, h2 => by
    simp only [okn, Bool.and_eq_true] at h
    by_cases hx : x = i + 1
    · subst hx; exact of_decide_eq_true h.2
    · exact okn_all i h.1 x h1 (by omega)
theorem jv_stop {s : ByteArray} {n k : Nat} (h1 : 1 ≤ k) (h2 : k < n) (hc : ¬ (128 ≤ bt s k ∧ bt s k < 192)) : -1 = jv s 0 n := by
  unfold jv
  rw [if_neg]
  intro h
  have := okn_all (n - 1) h k h1 (by omega)
  rw [Nat.zero_add] at this
  exact hc this

theorem join_any (s : ByteArray) (w : World) (ht : Tabs w) (h0 : 0 < s.size) (h1 : s.size ≤ 4) (hl : ln (bt s 0) = s.size) :
    Calls Tryd.prog 65 #[.string s] w fun e w' => e = .returned (.int .i64 (jv s 0 s.size)) ∧ ∃ n, w' = w.drewN n := by
  have hc := ht.2.2 s.size (by omega)
  have gb := get_bt s
  have b0 := bt_nonneg s 0
  have b1 := bt_le s 0
  have hx : bits .xor .u8 (bt s 0) (hdOf s.size) = bt s 0 - hdOf s.size := u8_xor_head _ _ b0 b1 hl (by omega)
  have j0 := jp_bd s 0 s.size hl (by omega) 0 rfl
  simp only [jp, Int.pow_zero, Int.mul_one] at j0
  have HL := Lib.hid hl
  clear ht hl
  go_enter Tryd.func65, Tryd.ntmps65
  go_wp2
  go_quiet (fail)
  go_wp2
  go_loop [3, 4] (fun c i => ∃ k : Nat, 1 ≤ k ∧ k ≤ s.size ∧ i = .int .i64 k ∧ c = .int .i64 (jp s 0 (hdOf s.size) (k - 1)) ∧ okn s 0 (k - 1) = true) (fun _ i => s.size - (intOf i).toNat)
  case atStart => exact ⟨1, Nat.le_refl _, h0, rfl, rfl, rfl⟩
  case round =>
    obtain ⟨k, hk1, hk2, rfl, rfl, hok⟩ := hrel
    have J := jp_bd s 0 s.size HL.out (by omega) (k - 1) hok
    obtain ⟨j, hj⟩ : ∃ j, j = jp s 0 (hdOf s.size) (k - 1) := ⟨_, rfl⟩
    rw [← hj] at J ⊢
    have J0 := J.1
    clear hc hx j0
    by_cases hlt : k < s.size
    · have J1 : j < 1048576 := by
        have : (64 : Int) ^ (k - 1) ≤ 4096 := by
          obtain h | h | h : k - 1 = 0 ∨ k - 1 = 1 ∨ k - 1 = 2 := by omega
          all_goals (rw [h]; decide)
        omega
      clear J
      have x0 := bt_nonneg s k
      have x1 := bt_le s k
      have e1 := u8_and63 (bt s k) x0 (by omega)
      have e2 := i64_or6 j (bt s k % 64) J0 (by omega) (by omega) (by omega)
      have HJ := Lib.hid hj
      have HO := Lib.hid hok
      clear hj hok
      by_cases hco : 128 ≤ bt s k ∧ bt s k < 192
      · obtain ⟨c1, c2⟩ := hco
        go_wp2
        go_round
        case rel => exact ⟨k + 1, by omega, by omega, by go_num, by rw [jp_next hk1 HJ.out c1 c2], okn_next hk1 HO.out c1 c2⟩
        case measure => simp [intOf]; omega
      · have HC := Lib.hid hco
        have ht : bt s k < 128 ∨ 192 ≤ bt s k := by omega
        clear hco
        rcases ht with ht | ht
        all_goals
          go_wp2
          go_ret
          exact ⟨ret_int (jv_stop hk1 hlt HC.out), _, rfl⟩
    · obtain rfl : k = s.size := by omega
      have HJ := Lib.hid hj
      have HO := Lib.hid hok
      clear hj hok J
      go_wp2
      go_ret
      exact ⟨ret_int (by unfold jv; rw [if_pos HO.out, HJ.out]), _, rfl⟩

theorem ln_div (x : Int) (h0 : 0 ≤ x) : ln (8 * ((x / 8).toNat : Int)) = ln x := by
  have e : (((x / 8).toNat : Nat) : Int) = x / 8 := Int.toNat_of_nonneg (by omega)
  rw [e]
  unfold ln
  repeat' split
  all_goals omega
theorem next_none (s : ByteArray) (k : Nat) (w : World) (ht : Tabs w) (hk : k < s.size) (hn : ln (bt s k) = 0 ∨ s.size < k + ln (bt s k)) :
    Calls Tryd.prog 59 #[.string s, .int .i64 k] w fun e w' => e = .returned (.tuple #[.int .i64 (-1), .int .i64 1]) ∧ ∃ n, w' = w.drewN n := by
  have gb := get_bt s
  have x0 := bt_nonneg s k
  have x1 := bt_le s k
  have hc := ht.1 (bt s k / 8).toNat (by omega)
  rw [ln_div _ x0] at hc
  have l4 := ln_le (bt s k)
  obtain ⟨n, e⟩ : ∃ n, n = ln (bt s k) := ⟨_, rfl⟩
  rw [← e] at hc hn l4
  clear e ht
  by_cases h0 : n = 0
  · subst h0
    clear hn l4
    go_enter Tryd.func59, Tryd.ntmps59
    go_wp2
    go_ret2
    exact ⟨rfl, 0, rfl⟩
  · have h1 : s.size < k + n := by omega
    have h2 : 1 ≤ n := by omega
    clear hn h0
    go_enter Tryd.func59, Tryd.ntmps59
    go_wp2
    go_ret2
    exact ⟨rfl, 0, rfl⟩
theorem next_some (s : ByteArray) (k : Nat) (w : World) (ht : Tabs w) (hk : k < s.size) (hs : s.size ≤ maxLen) (hn : ¬ (ln (bt s k) = 0 ∨ s.size < k + ln (bt s k))) :
    Calls Tryd.prog 59 #[.string s, .int .i64 k] w fun e w' => e = .returned (.tuple #[.int .i64 (nc s k), .int .i64 (nl s k)]) ∧ ∃ n, w' = w.drewN n := by
  unfold maxLen at hs
  have gb := get_bt s
  have x0 := bt_nonneg s k
  have x1 := bt_le s k
  have hc := ht.1 (bt s k / 8).toNat (by omega)
  rw [ln_div _ x0] at hc
  have l4 := ln_le (bt s k)
  have hcl := ht.2.1 (ln (bt s k)) (by omega)
  have hsz := size_ext s k (k + ln (bt s k)) (by omega)
  have hj := fun W (hT : Tabs W) => join_any (s.extract k (k + ln (bt s k))) W hT (by omega) (by omega) (by rw [bt_ext s k _ 0 (by omega) (by omega), Nat.add_zero]; omega)
  rw [hsz, Nat.add_sub_cancel_left, jv_ext s k _ (by omega) (by omega)] at hj
  have hnc : nc s k = if jv s k (ln (bt s k)) < lstOf (ln (bt s k)) then -1 else if isPt (jv s k (ln (bt s k))) = true then jv s k (ln (bt s k)) else -1 := by
    conv => lhs; unfold nc
    rw [if_neg hn]
  have hnl : nl s k = if nc s k < 0 then 1 else ln (bt s k) := rfl
  obtain ⟨n, e⟩ : ∃ n, n = ln (bt s k) := ⟨_, rfl⟩
  rw [← e] at hc hn l4 hcl hj hnc hnl
  clear e hsz
  obtain ⟨j, e⟩ : ∃ j, j = jv s k n := ⟨_, rfl⟩
  rw [← e] at hj hnc
  clear e
  obtain ⟨l, e⟩ : ∃ l, l = lstOf n := ⟨_, rfl⟩
  rw [← e] at hcl hnc
  clear e
  have h1 : 1 ≤ n := by omega
  have h2 : k + n ≤ s.size := by omega
  have hne : ((n : Int) == 0) = false := by simp; omega
  clear hn
  have HJ := Lib.hid hj
  clear hj
  have HT := Lib.hid ht
  clear ht
  by_cases hlt : j < l
  · rw [if_pos hlt] at hnc
    rw [if_pos (by omega)] at hnl
    rw [hnc, hnl]
    clear hnc hnl
    go_enter Tryd.func59, Tryd.ntmps59
    go_wp2_with (go_at_call 65; refine (HJ.out _ HT.out).mono ?_; rintro e w' ⟨rfl, m, rfl⟩)
    go_ret2
    exact ⟨rfl, _, rfl⟩
  · rw [if_neg hlt] at hnc
    by_cases hp : isPt j = true
    · have hj0 : 0 ≤ j := by have := of_decide_eq_true hp; omega
      rw [if_pos hp] at hnc
      rw [if_neg (by omega)] at hnl
      rw [hnc, hnl]
      have HP := Lib.hid hp
      clear hnc hnl hp
      go_enter Tryd.func59, Tryd.ntmps59
      go_wp2_with (first | (go_at_call 65; refine (HJ.out _ HT.out).mono ?_; rintro e w' ⟨rfl, m, rfl⟩) | (go_at_call 66; refine (point_yes _ _ HP.out).mono ?_; rintro e w' ⟨rfl, rfl⟩))
      go_ret2
      exact ⟨rfl, _, rfl⟩
    · rw [if_neg hp] at hnc
      rw [if_pos (by omega)] at hnl
      rw [hnc, hnl]
      have HP := Lib.hid (Bool.eq_false_iff.2 hp)
      clear hnc hnl hp
      go_enter Tryd.func59, Tryd.ntmps59
      go_wp2_with (first | (go_at_call 65; refine (HJ.out _ HT.out).mono ?_; rintro e w' ⟨rfl, m, rfl⟩) | (go_at_call 66; refine (point_no _ _ HP.out).mono ?_; rintro e w' ⟨rfl, rfl⟩))
      go_ret2
      exact ⟨rfl, _, rfl⟩
/-- NEXT WITHIN A TEXT. -/
theorem next_in (s : ByteArray) (k : Nat) (w : World) (ht : Tabs w) (hk : k < s.size) (hs : s.size ≤ maxLen) :
    Calls Tryd.prog 59 #[.string s, .int .i64 k] w fun e w' => e = .returned (.tuple #[.int .i64 (nc s k), .int .i64 (nl s k)]) ∧ ∃ n, w' = w.drewN n := by
  by_cases hn : ln (bt s k) = 0 ∨ s.size < k + ln (bt s k)
  · have e1 : nc s k = -1 := by unfold nc; rw [if_pos hn]
    have e2 : nl s k = 1 := by unfold nl; rw [e1]; rfl
    rw [e1, e2]
    exact next_none s k w ht hk hn
  · exact next_some s k w ht hk hs hn
/-- NEXT ELSEWHERE. -/
theorem next_out (s : ByteArray) (i : Int) (w : World) (h : i < 0 ∨ (s.size : Int) ≤ i) :
    Calls Tryd.prog 59 #[.string s, .int .i64 i] w fun e w' => e = .returned (.tuple #[.int .i64 0, .int .i64 0]) ∧ ∃ n, w' = w.drewN n := by
  rcases h with h | h
  · go_enter Tryd.func59, Tryd.ntmps59
    go_wp2
    go_ret2
    exact ⟨rfl, 0, rfl⟩
  · have h0 : 0 ≤ i := by omega
    go_enter Tryd.func59, Tryd.ntmps59
    go_wp2
    go_ret2
    exact ⟨rfl, 0, rfl⟩

/-- COUNT. -/
theorem count_any (s : ByteArray) (w : World) (ht : Tabs w) (hs : s.size ≤ maxLen) :
    Calls Tryd.prog 52 #[.string s] w fun e w' => e = .returned (.int .i64 (ct s 0)) ∧ ∃ n, w' = w.drewN n := by
  have HS := Lib.hid hs
  have HT := Lib.hid ht
  unfold maxLen at hs
  clear ht
  obtain ⟨v, hv⟩ : ∃ v, v = ct s 0 := ⟨_, rfl⟩
  rw [← hv]
  have hle := ct_le s s.size 0 (by omega)
  rw [← hv] at hle
  have HV := Lib.hid hv
  clear hv
  go_enter Tryd.func52, Tryd.ntmps52
  go_wp2
  go_loopw [3, 4] (fun c i wr => ∃ k q : Nat, k ≤ s.size ∧ q ≤ k ∧ c = .int .i64 q ∧ i = .int .i64 k ∧ Hid (v = q + ct s k) ∧ Hid (∃ n, wr = w.drewN n)) (fun _ i _ => s.size - (intOf i).toNat)
  case atStart => exact ⟨0, 0, Nat.zero_le _, Nat.le_refl _, rfl, rfl, by rw [Nat.zero_add]; exact HV, ⟨0, rfl⟩⟩
  case round =>
    obtain ⟨k, q, hk, hq, rfl, rfl, HK, HW⟩ := hrel
    obtain ⟨n0, rfl⟩ := HW.out
    by_cases hlt : k < s.size
    · have l1 := nl_in s k hlt
      have l2 := nl_pos s k
      have HF := Lib.hid (HK.out.trans (by rw [ct_go hlt] : q + ct s k = q + (1 + ct s (k + nl s k))))
      go_wp2_with (go_at_call 59; refine (next_in s k _ (HT.out.drewN _) hlt HS.out).mono ?_; rintro e w' ⟨rfl, m, rfl⟩)
      go_roundw
      case rel => exact ⟨k + nl s k, q + 1, l1, by omega, by go_num, by go_num, Lib.hid (HF.out.trans (by omega)), ⟨_, rfl⟩⟩
      case measure => simp [intOf]; omega
    · have HF := Lib.hid (HK.out.trans (by rw [ct_end hlt] : q + ct s k = q + 0))
      go_wp2
      go_ret
      exact ⟨ret_int (by rw [HF.out]; rfl), n0, rfl⟩
end Go.Proofs.YtbjgoigdhijbgaaDoor
