/-
  Plain facts on a text's lines: how many bytes 10 stand ahead of a place, where each line begins.
-/
import Derived.Test.YtngpiejigefhoaaDoorUtfMath
namespace Go.Proofs.YtngpiejigefhoaaDoor
open Go.PlainAid

/-- How many bytes 10 stand among the first k. -/
def nlc (s : ByteArray) : Nat → Nat
  | 0 => 0
  | k + 1 => nlc s k + if bt s k = 10 then 1 else 0
/-- Where the lines begin that begin among the first k bytes, or right behind them. -/
def lnl (s : ByteArray) : Nat → List Nat
  | 0 => [0]
  | k + 1 => lnl s k ++ if bt s k = 10 then [k + 1] else []
theorem nlc_hit {s : ByteArray} {k : Nat} (h : bt s k = 10) : nlc s (k + 1) = nlc s k + 1 := by simp [nlc, h]
theorem nlc_miss {s : ByteArray} {k : Nat} (h : bt s k ≠ 10) : nlc s (k + 1) = nlc s k := by simp [nlc, h]
theorem lnl_hit {s : ByteArray} {k : Nat} (h : bt s k = 10) : lnl s (k + 1) = lnl s k ++ [k + 1] := by simp [lnl, h]
theorem lnl_miss {s : ByteArray} {k : Nat} (h : bt s k ≠ 10) : lnl s (k + 1) = lnl s k := by simp [lnl, h]
theorem lnl_len (s : ByteArray) : ∀ k, (lnl s k).length = nlc s k + 1
  | 0 => rfl
  | k + 1 => by
    by_cases h : bt s k = 10
    · rw [lnl_hit h, nlc_hit h, List.length_append, lnl_len s k]; rfl
    · rw [lnl_miss h, nlc_miss h, lnl_len s k]
theorem nlc_le (s : ByteArray) : ∀ k, nlc s k ≤ k
  | 0 => Nat.le_refl _
  | k + 1 => by have := nlc_le s k; simp only [nlc]; split <;> omega
theorem nlc_mono (s : ByteArray) {a b : Nat} (h : a ≤ b) : nlc s a ≤ nlc s b := by
  induction b with
  | zero => obtain rfl : a = 0 := by omega
            exact Nat.le_refl _
  | succ b ih =>
    by_cases e : a = b + 1
    · rw [e]; exact Nat.le_refl _
    · have := ih (by omega)
      simp only [nlc]; split <;> omega
/-- Where the line number j (from 0 on) begins. -/
def lb (s : ByteArray) (n j : Nat) : Nat := (lnl s n).getD j 0
theorem lb_zero (s : ByteArray) : ∀ n, lb s n 0 = 0
  | 0 => rfl
  | n + 1 => by
    have h := lb_zero s n
    have hl := lnl_len s n
    unfold lb at h ⊢
    by_cases e : bt s n = 10
    · rw [lnl_hit e]
      simp only [List.getD_eq_getElem?_getD] at h ⊢
      rw [List.getElem?_append_left (by omega)]; exact h
    · rw [lnl_miss e]; exact h
theorem lb_old {s : ByteArray} {n j : Nat} (h : j < nlc s n + 1) : lb s (n + 1) j = lb s n j := by
  unfold lb
  by_cases e : bt s n = 10
  · rw [lnl_hit e]
    simp only [List.getD_eq_getElem?_getD]
    rw [List.getElem?_append_left (by rw [lnl_len]; exact h)]
  · rw [lnl_miss e]
theorem lb_new {s : ByteArray} {n : Nat} (h : bt s n = 10) : lb s (n + 1) (nlc s n + 1) = n + 1 := by
  unfold lb
  rw [lnl_hit h]
  simp only [List.getD_eq_getElem?_getD]
  rw [List.getElem?_append_right (by rw [lnl_len]; exact Nat.le_refl _), lnl_len, Nat.sub_self]
  rfl
theorem lb_all (s : ByteArray) : ∀ n j, j < nlc s n + 1 → lb s n j ≤ n ∧ nlc s (lb s n j) = j ∧ (0 < j → 1 ≤ lb s n j ∧ bt s (lb s n j - 1) = 10)
  | 0, j, h => by
    obtain rfl : j = 0 := by simp only [nlc] at h; omega
    exact ⟨Nat.le_refl _, rfl, fun h => absurd h (by decide)⟩
  | n + 1, j, h => by
    by_cases hj : j < nlc s n + 1
    · rw [lb_old hj]
      obtain ⟨h1, h2, h3⟩ := lb_all s n j hj
      exact ⟨by omega, h2, h3⟩
    · have e : bt s n = 10 := by
        apply Classical.byContradiction
        intro e
        rw [nlc_miss e] at h
        omega
      rw [nlc_hit e] at h
      obtain rfl : j = nlc s n + 1 := by omega
      rw [lb_new e]
      refine ⟨Nat.le_refl _, nlc_hit e, fun _ => ⟨by omega, ?_⟩⟩
      rw [Nat.add_sub_cancel]; exact e
theorem lb_le {s : ByteArray} {n j : Nat} (h : j < nlc s n + 1) : lb s n j ≤ n := (lb_all s n j h).1
theorem nlc_lb {s : ByteArray} {n j : Nat} (h : j < nlc s n + 1) : nlc s (lb s n j) = j := (lb_all s n j h).2.1
/-- A line begins at a place or ahead of it just if its number is at most that place's. -/
theorem lb_iff {s : ByteArray} {n j p : Nat} (h : j < nlc s n + 1) : lb s n j ≤ p ↔ j ≤ nlc s p := by
  have h1 := nlc_lb h
  constructor
  · intro hle
    have := nlc_mono s hle
    omega
  · intro hle
    apply Classical.byContradiction
    intro hlt
    have h2 : p ≤ lb s n j - 1 := by omega
    have h3 := nlc_mono s h2
    by_cases hj : j = 0
    · subst hj; rw [lb_zero] at hlt; omega
    · obtain ⟨h4, h5⟩ := (lb_all s n j h).2.2 (by omega)
      have h6 := nlc_hit h5
      rw [Nat.sub_add_cancel h4] at h6
      omega
theorem lb_lt {s : ByteArray} {n i j : Nat} (h : j < nlc s n + 1) (hij : i < j) : lb s n i < lb s n j := by
  apply Classical.byContradiction
  intro hge
  have h1 : lb s n j ≤ lb s n i := by omega
  rw [lb_iff h, nlc_lb (by omega)] at h1
  omega
/-- The beginning of a place's line is where the text, or a byte 10, ends. -/
theorem lb_is {s : ByteArray} {n p : Nat} (hp : p ≤ n) (h : p = 0 ∨ bt s (p - 1) = 10) : lb s n (nlc s p) = p := by
  have hb : nlc s p < nlc s n + 1 := by have := nlc_mono s hp; omega
  have h1 : lb s n (nlc s p) ≤ p := (lb_iff hb).2 (Nat.le_refl _)
  rcases h with h | h
  · omega
  · apply Classical.byContradiction
    intro hne
    have h2 : lb s n (nlc s p) ≤ p - 1 := by omega
    have h3 := nlc_mono s h2
    rw [nlc_lb hb] at h3
    have h4 := nlc_hit h
    rw [Nat.sub_add_cancel (by omega)] at h4
    omega
/-- A place within a text. -/
def cl (s : ByteArray) (a : Int) : Nat := if a < 0 then 0 else if a ≤ s.size then a.toNat else s.size
theorem cl_le (s : ByteArray) (a : Int) : cl s a ≤ s.size := by unfold cl; split <;> (try split) <;> omega
theorem cl_nat {s : ByteArray} {k : Nat} (h : k ≤ s.size) : cl s k = k := by unfold cl; rw [if_neg (by omega), if_pos (by omega)]; omega
theorem lb_find {s : ByteArray} {a : Int} {j : Nat} (h1 : 1 ≤ j) (h : j < nlc s s.size + 1) : ((lb s s.size j : Int) ≤ a) ↔ j ≤ nlc s (cl s a) := by
  have hle := lb_le h
  by_cases h0 : a < 0
  · have e : cl s a = 0 := by unfold cl; rw [if_pos h0]
    rw [e]
    simp only [nlc]
    omega
  by_cases h2 : a ≤ s.size
  · have e : cl s a = a.toNat := by unfold cl; rw [if_neg h0, if_pos h2]
    rw [e, ← lb_iff h]
    omega
  · have e : cl s a = s.size := by unfold cl; rw [if_neg h0, if_neg h2]
    rw [e]
    omega
theorem nlc_congr {s t : ByteArray} : ∀ k, (∀ i, i < k → bt s i = bt t i) → nlc s k = nlc t k
  | 0, _ => rfl
  | k + 1, h => by simp only [nlc]; rw [nlc_congr k fun i hi => h i (by omega), h k (by omega)]
theorem nlc_app_l (a b : ByteArray) {k : Nat} (h : k ≤ a.size) : nlc (a ++ b) k = nlc a k := nlc_congr k fun i hi => bt_app_l a b i (by omega)
theorem nlc_app_r (a b : ByteArray) : ∀ k, nlc (a ++ b) (a.size + k) = nlc a a.size + nlc b k
  | 0 => by rw [Nat.add_zero, nlc_app_l a b (Nat.le_refl _)]; rfl
  | k + 1 => by
    rw [← Nat.add_assoc]
    simp only [nlc]
    rw [nlc_app_r a b k, bt_app_r]
    omega
end Go.Proofs.YtngpiejigefhoaaDoor
