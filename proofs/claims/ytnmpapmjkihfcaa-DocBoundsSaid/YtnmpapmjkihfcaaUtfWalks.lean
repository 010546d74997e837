/-
  The contracts of package utf's functions that only read: point, length, join, Next, Valid, Count, over the three tables as the program's text lays them.
-/
import Derived.Test.YtnmpapmjkihfcaaProg
import Derived.Test.YtnmpapmjkihfcaaMath
import Derived.WalkKit
import Derived.WalkSpells
import Derived.WalkLawsBesides
import Derived.Deep.QuietTactic
import Derived.BigQuiet
import Derived.Lib.Hide
set_option linter.all false
namespace Go.Proofs.Ytnmpapmjkihfcaa
open Go.RowKit Go.PlainAid

/-- How many bytes a code point has. -/
def lenOf (c : Int) : Nat := if c < 128 then 1 else if c < 2048 then 2 else if c < 65536 then 3 else 4

theorem jp_bd (s : ByteArray) (k n : Nat) (hl : ln (bt s k) = n) (hn : n ≠ 0) : ∀ i, okn s k i = true → 0 ≤ jp s k (hdOf n) i ∧ jp s k (hdOf n) i < 256 * 64 ^ i := by
  intro i
  induction i with
  | zero =>
    intro _
    have h0 := bt_nonneg s k
    have h1 := bt_le s k
    simp only [jp]
    unfold ln at hl
    repeat' split at hl
    all_goals (first | omega | (subst hl; simp only [hdOf]; omega))
  | succ i ih =>
    intro h
    simp only [okn, Bool.and_eq_true] at h
    obtain ⟨h1, h2⟩ := h
    have := ih h1
    unfold isCo at h2
    have h3 := of_decide_eq_true h2
    simp only [jp]
    rw [Int.pow_succ]
    constructor
    · omega
    · omega

theorem ret_int {k : IntKind} {a b : Int} (h : a = b) : Ending.returned (.int k a) = .returned (.int k b) := by rw [h]
theorem jp_next {s : ByteArray} {h j : Int} {k : Nat} (h1 : 1 ≤ k) (hj : j = jp s 0 h (k - 1)) (c1 : 128 ≤ bt s k) (c2 : bt s k < 192) : j * 64 + bt s k % 64 = jp s 0 h (k + 1 - 1) := by
  obtain ⟨m, rfl⟩ : ∃ m, k = m + 1 := ⟨k - 1, by omega⟩
  simp only [Nat.add_sub_cancel] at hj ⊢
  simp only [jp, Nat.zero_add]
  rw [← hj]
  omega
theorem okn_next {s : ByteArray} {k : Nat} (h1 : 1 ≤ k) (ho : okn s 0 (k - 1) = true) (c1 : 128 ≤ bt s k) (c2 : bt s k < 192) : okn s 0 (k + 1 - 1) = true := by
  obtain ⟨m, rfl⟩ : ∃ m, k = m + 1 := ⟨k - 1, by omega⟩
  simp only [Nat.add_sub_cancel] at ho ⊢
  simp only [okn, Nat.zero_add, ho, Bool.true_and]
  exact decide_eq_true ⟨c1, c2⟩
theorem okn_all {s : ByteArray} {b : Nat} : ∀ i, okn s b i = true → ∀ x, 1 ≤ x → x ≤ i → 128 ≤ bt s (b + x) ∧ bt s (b + x) < 192
  | 0, _, x, h1, h2 => by omega
  | i + 1, h, x, h1, h2 => by
    simp only [okn, Bool.and_eq_true] at h
    by_cases hx : x = i + 1
    · subst hx; exact of_decide_eq_true h.2
    · exact okn_all i h.1 x h1 (by omega)
theorem jv_stop {s : ByteArray} {n k : Nat} (h1 : 1 ≤ k) (h2 : k < n) (hc : ¬ (128 ≤ bt s k ∧ bt s k < 192)) : -1 = jv s 0 n := by
  unfold jv
  rw [if_neg]
  intro h
  have := okn_all (n - 1) h k h1 (by omega)
  rw [Nat.zero_add] at this
  exact hc this

theorem ln_div (x : Int) (h0 : 0 ≤ x) : ln (8 * ((x / 8).toNat : Int)) = ln x := by
  have e : (((x / 8).toNat : Nat) : Int) = x / 8 := Int.toNat_of_nonneg (by omega)
  rw [e]
  unfold ln
  repeat' split
  all_goals omega
end Go.Proofs.Ytnmpapmjkihfcaa
