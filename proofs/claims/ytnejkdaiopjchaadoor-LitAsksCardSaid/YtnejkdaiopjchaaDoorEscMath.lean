/-
  Plain facts on escapes: what stands behind a \, what it means and how many bytes it has. Nothing of the program stands here.
-/
import Derived.Test.YtnejkdaiopjchaaDoorLitMath
import Derived.Test.YtnejkdaiopjchaaDoorUtfMath
namespace Go.Proofs.YtnejkdaiopjchaaDoor
open Go.PlainAid

theorem nc_tail (s : ByteArray) (a i : Nat) (ha : a ≤ s.size) : nc (s.extract a s.size) i = nc s (a + i) := by
  have e : ∀ x, bt (s.extract a s.size) (i + x) = bt s (a + i + x) := fun x => by rw [Nat.add_assoc]; exact bt_tail s a (i + x) ha
  have h0 := e 0
  simp only [Nat.add_zero] at h0
  have hz : (s.extract a s.size).size = s.size - a := size_ext s a s.size (Nat.le_refl _)
  by_cases h : a + i + ln (bt s (a + i)) ≤ s.size
  · exact nc_congr h0 (by omega) h (fun x _ => e x)
  · unfold nc
    rw [h0, if_pos (by rw [hz]; omega), if_pos (by omega)]
theorem nl_tail (s : ByteArray) (a i : Nat) (ha : a ≤ s.size) : nl (s.extract a s.size) i = nl s (a + i) := by
  unfold nl
  rw [nc_tail s a i ha, bt_tail s a i ha]
theorem nc_ascii {s : ByteArray} {k : Nat} (hk : k < s.size) (h : bt s k < 128) : nc s k = bt s k ∧ nl s k = 1 := by
  have h0 := bt_nonneg s k
  have e : ln (bt s k) = 1 := by unfold ln; rw [if_pos h]
  have hj : jv s k 1 = bt s k := by
    unfold jv
    rw [if_pos (by rfl)]
    simp only [Nat.sub_self, jp, hdOf]
    omega
  have hc : nc s k = bt s k := by
    unfold nc
    rw [e, if_neg (by omega), hj, if_neg (by simp only [lstOf]; omega), if_pos (show isPt (bt s k) = true from decide_eq_true (by omega))]
  exact ⟨hc, by unfold nl; rw [hc, if_neg (by omega), e]⟩
/-- What a small letter means behind a \; 0: nothing. -/
def ltr (c : Int) : Int :=
  if c = 98 then 8 else if c = 100 then 127 else if c = 101 then 27 else if c = 102 then 12 else if c = 110 then 10 else if c = 114 then 13 else if c = 115 then 32 else if c = 116 then 9 else if c = 118 then 11 else 0
/-- What ^ and a byte mean. -/
def ctl (c : Int) : Int × Nat := if (64 ≤ c ∧ c ≤ 95) ∨ (97 ≤ c ∧ c ≤ 122) then (c % 32, 2) else (-1, 0)
/-- What x at byte j begins. -/
def hxd (s : ByteArray) (j : Nat) : Int × Nat :=
  if bt s (j + 1) = 123 then (if rc s 16 6 (j + 2) = 0 ∨ bt s (j + 2 + rc s 16 6 (j + 2)) ≠ 125 then (-1, 0) else (rv s 16 6 (j + 2) 0, rc s 16 6 (j + 2) + 3))
  else if rc s 16 2 (j + 1) < 2 then (-1, 0) else (rv s 16 2 (j + 1) 0, 3)
/-- What an escape means whose \ stands ahead of byte j, and how many bytes it has from j on; the number may be no code point. -/
def mnt (s : ByteArray) (j : Nat) : Int × Nat :=
  if 0 < rc s 8 3 j then (rv s 8 3 j 0, rc s 8 3 j)
  else if bt s j = 120 then hxd s j
  else if bt s j = 94 then ctl (bt s (j + 1))
  else if s.size ≤ j ∨ nc s j < 32 then (-1, 0)
  else if (97 ≤ bt s j ∧ bt s j ≤ 122) ∧ ltr (bt s j) ≠ 0 then (ltr (bt s j), nl s j)
  else (nc s j, nl s j)
/-- The code point that the escape means whose \ stands at byte k, and how many bytes it has; -1 and 0. -/
def esc (s : ByteArray) (k : Nat) : Int × Nat :=
  if k < s.size ∧ bt s k = 92 then (if isPt (mnt s (k + 1)).1 = true then ((mnt s (k + 1)).1, 1 + (mnt s (k + 1)).2) else (-1, 0)) else (-1, 0)
theorem hxd_tail (s : ByteArray) (a i : Nat) (ha : a ≤ s.size) : hxd (s.extract a s.size) i = hxd s (a + i) := by
  unfold hxd
  have e1 := bt_tail s a (i + 1) ha
  have e2 := rc_tail s 16 6 a (i + 2) ha
  have e3 := rv_tail s 16 6 a (i + 2) 0 ha
  have e4 := rc_tail s 16 2 a (i + 1) ha
  have e5 := rv_tail s 16 2 a (i + 1) 0 ha
  have e6 := bt_tail s a (i + 2 + rc s 16 6 (a + (i + 2))) ha
  rw [e1, e2, e3, e4, e5, e6]
  simp only [Nat.add_assoc]
theorem mnt_tail (s : ByteArray) (a i : Nat) (ha : a ≤ s.size) : mnt (s.extract a s.size) i = mnt s (a + i) := by
  have hz : (s.extract a s.size).size = s.size - a := size_ext s a s.size (Nat.le_refl _)
  have hsz : (s.size - a ≤ i) = (s.size ≤ a + i) := propext ⟨fun h => by omega, fun h => by omega⟩
  unfold mnt
  rw [rc_tail s 8 3 a i ha, rv_tail s 8 3 a i 0 ha, bt_tail s a i ha, hxd_tail s a i ha, bt_tail s a (i + 1) ha, nc_tail s a i ha, nl_tail s a i ha, hz, Nat.add_assoc]
  simp only [hsz]
theorem esc_tail (s : ByteArray) (a i : Nat) (ha : a ≤ s.size) : esc (s.extract a s.size) i = esc s (a + i) := by
  have hz : (s.extract a s.size).size = s.size - a := size_ext s a s.size (Nat.le_refl _)
  have hsz : (i < s.size - a) = (a + i < s.size) := propext ⟨fun h => by omega, fun h => by omega⟩
  unfold esc
  rw [mnt_tail s a (i + 1) ha, bt_tail s a i ha, hz, Nat.add_assoc]
  simp only [hsz]
theorem pow_bd (b : Int) (hb : 1 ≤ b) : ∀ n m : Nat, n ≤ m → b ^ n ≤ b ^ m := by
  intro n m h
  induction m with
  | zero => obtain rfl : n = 0 := by omega
            exact Int.le_refl _
  | succ m ih =>
    by_cases e : n = m + 1
    · rw [e]; exact Int.le_refl _
    · have := ih (by omega)
      have h0 : 0 ≤ b ^ m := Int.pow_nonneg (by omega)
      have : b ^ m * 1 ≤ b ^ m * b := Int.mul_le_mul_of_nonneg_left hb h0
      rw [Int.pow_succ]
      omega
theorem rv_hex (s : ByteArray) (m j : Nat) (hm : m ≤ 6) : 0 ≤ rv s 16 m j 0 ∧ rv s 16 m j 0 < 16777216 := by
  have h := rv_bd s 16 (by omega) m j 0 (by omega)
  have h1 := pow_bd 16 (by omega) (rc s 16 m j) 6 (by have := rc_le s 16 m j; omega)
  have h2 : (16 : Int) ^ 6 = 16777216 := by decide
  omega
theorem rv_oct (s : ByteArray) (j : Nat) : 0 ≤ rv s 8 3 j 0 ∧ rv s 8 3 j 0 < 512 := by
  have h := rv_bd s 8 (by omega) 3 j 0 (by omega)
  have h1 := pow_bd 8 (by omega) (rc s 8 3 j) 3 (rc_le s 8 3 j)
  have h2 : (8 : Int) ^ 3 = 512 := by decide
  omega
theorem ctl_bd (c : Int) : -1 ≤ (ctl c).1 ∧ (ctl c).1 < 32 ∧ (ctl c).2 ≤ 2 := by
  unfold ctl
  split <;> (simp only; omega)
theorem hxd_bd (s : ByteArray) (j : Nat) : -1 ≤ (hxd s j).1 ∧ (hxd s j).1 < 16777216 ∧ (hxd s j).2 ≤ 9 := by
  have h1 := rv_hex s 6 (j + 2) (by omega)
  have h2 := rv_hex s 2 (j + 1) (by omega)
  have h3 := rc_le s 16 6 (j + 2)
  unfold hxd
  split
  · split <;> (simp only; omega)
  · split <;> (simp only; omega)
theorem nc_bd (s : ByteArray) (k : Nat) : -1 ≤ nc s k ∧ nc s k < 1114112 := by
  by_cases h : nc s k < 0
  · refine ⟨?_, by omega⟩
    unfold nc at h ⊢
    split
    · omega
    · split
      · omega
      · split
        · rename_i h1; have := of_decide_eq_true h1; omega
        · omega
  · have := of_decide_eq_true (nc_pt h); omega
theorem ltr_bd (c : Int) : 0 ≤ ltr c ∧ ltr c ≤ 127 := by
  unfold ltr
  repeat' split
  all_goals omega
theorem mnt_bd (s : ByteArray) (j : Nat) : -1 ≤ (mnt s j).1 ∧ (mnt s j).1 < 16777216 ∧ (mnt s j).2 ≤ 9 := by
  have h1 := rv_oct s j
  have h2 := rc_le s 8 3 j
  have h3 := hxd_bd s j
  have h4 := ctl_bd (bt s (j + 1))
  have h5 := nc_bd s j
  have h6 := nl_le s j
  have h7 := ltr_bd (bt s j)
  unfold mnt
  split
  · simp only; omega
  · split
    · exact h3
    · split
      · omega
      · split
        · simp only; omega
        · split <;> (simp only; omega)
theorem esc_bd (s : ByteArray) (k : Nat) : -1 ≤ (esc s k).1 ∧ (esc s k).1 < 16777216 ∧ (esc s k).2 ≤ 10 := by
  have := mnt_bd s (k + 1)
  unfold esc
  split
  · split <;> (simp only; omega)
  · simp only; omega
end Go.Proofs.YtnejkdaiopjchaaDoor
