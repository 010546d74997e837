/-
  Plain facts on digits: what a sign counts as one, the form and the value of digits with single _ between, runs of digits. Nothing of the program stands here.
-/
import Derived.Test.YtnejkdaiopjchaaDoorUtfMath
import Derived.Laws.RangeAny
namespace Go.Proofs.YtnejkdaiopjchaaDoor
open Go.PlainAid

/-- What a sign counts as a digit or letter; 36: nothing. -/
def dg (c : Int) : Int := if 48 ≤ c ∧ c ≤ 57 then c - 48 else if 65 ≤ c ∧ c ≤ 90 then c - 55 else if 97 ≤ c ∧ c ≤ 122 then c - 87 else 36
theorem dg_bd (c : Int) : 0 ≤ dg c ∧ dg c ≤ 36 := by unfold dg; repeat' split
                                                     all_goals omega
theorem dg_high {c : Int} (h : 128 ≤ c) : dg c = 36 := by unfold dg; rw [if_neg (by omega), if_neg (by omega), if_neg (by omega)]
theorem dg_zero : dg 0 = 36 := by decide
theorem dg_under : dg 95 = 36 := by decide
theorem dg_end {s : ByteArray} {k : Nat} (h : s.size ≤ k) : dg (bt s k) = 36 := by rw [bt_end s h]; exact dg_zero

/-- Digits below b from byte k up to byte e, with single _ between two of them; h: is there one ahead? -/
def fm (s : ByteArray) (b : Int) (e k : Nat) (h : Bool) : Bool :=
  if _h : k < e then (if bt s k = 95 ∧ h = true then fm s b e (k + 1) false else if dg (bt s k) < b then fm s b e (k + 1) true else false) else h
termination_by e - k
/-- Their value, behind v. -/
def vn (s : ByteArray) (b : Nat) (e k : Nat) (v : Nat) : Nat :=
  if _h : k < e then (if bt s k = 95 then vn s b e (k + 1) v else vn s b e (k + 1) (v * b + (dg (bt s k)).toNat)) else v
termination_by e - k
theorem fm_end {s : ByteArray} {b : Int} {e k : Nat} {h : Bool} (hk : ¬ k < e) : fm s b e k h = h := by rw [fm, dif_neg hk]
theorem fm_under {s : ByteArray} {b : Int} {e k : Nat} (hk : k < e) (hu : bt s k = 95) : fm s b e k true = fm s b e (k + 1) false := by rw [fm, dif_pos hk, if_pos ⟨hu, rfl⟩]
theorem fm_digit {s : ByteArray} {b : Int} {e k : Nat} {h : Bool} (hk : k < e) (hb : b ≤ 36) (hd : dg (bt s k) < b) : fm s b e k h = fm s b e (k + 1) true := by
  rw [fm, dif_pos hk, if_neg (by rintro ⟨hu, -⟩; rw [hu, dg_under] at hd; omega), if_pos hd]
theorem fm_bad {s : ByteArray} {b : Int} {e k : Nat} {h : Bool} (hk : k < e) (hu : ¬ (bt s k = 95 ∧ h = true)) (hd : ¬ dg (bt s k) < b) : fm s b e k h = false := by
  rw [fm, dif_pos hk, if_neg hu, if_neg hd]
theorem vn_end {s : ByteArray} {b e k v : Nat} (hk : ¬ k < e) : vn s b e k v = v := by rw [vn, dif_neg hk]
theorem vn_under {s : ByteArray} {b e k v : Nat} (hk : k < e) (hu : bt s k = 95) : vn s b e k v = vn s b e (k + 1) v := by rw [vn, dif_pos hk, if_pos hu]
theorem vn_digit {s : ByteArray} {b e k v : Nat} (hk : k < e) (hu : bt s k ≠ 95) : vn s b e k v = vn s b e (k + 1) (v * b + (dg (bt s k)).toNat) := by rw [vn, dif_pos hk, if_neg hu]
theorem vn_ge {s : ByteArray} {b e : Nat} (hb : 1 ≤ b) : ∀ m k v : Nat, e - k ≤ m → v ≤ vn s b e k v := by
  intro m
  induction m with
  | zero => intro k v h; rw [vn_end (by omega)]; exact Nat.le_refl _
  | succ m ih =>
    intro k v h
    by_cases hk : k < e
    · by_cases hu : bt s k = 95
      · rw [vn_under hk hu]; exact ih _ _ (by omega)
      · rw [vn_digit hk hu]
        have := ih (k + 1) (v * b + (dg (bt s k)).toNat) (by omega)
        have : v * 1 ≤ v * b := Nat.mul_le_mul_left v hb
        omega
    · rw [vn_end hk]; exact Nat.le_refl _
/-- Digits of a base with their value: 0 and 8 of what is none such, 0 and 6 of what is too great. -/
def nm (s : ByteArray) (b : Nat) (e k : Nat) : Int × Int :=
  if fm s b e k false = true then (if vn s b e k 0 < 18446744073709551616 then ((vn s b e k 0 : Nat), 0) else (0, 6)) else (0, 8)

/-- Runs of at most m digits below b from byte j on: how many; their value behind v. -/
def rc (s : ByteArray) (b : Int) : Nat → Nat → Nat
  | 0, _ => 0
  | m + 1, j => if dg (bt s j) < b then 1 + rc s b m (j + 1) else 0
def rv (s : ByteArray) (b : Int) : Nat → Nat → Int → Int
  | 0, _, v => v
  | m + 1, j, v => if dg (bt s j) < b then rv s b m (j + 1) (v * b + dg (bt s j)) else v
theorem rc_le (s : ByteArray) (b : Int) : ∀ m j, rc s b m j ≤ m
  | 0, _ => Nat.le_refl _
  | m + 1, j => by
    simp only [rc]
    split
    · have := rc_le s b m (j + 1); omega
    · omega
theorem rc_in (s : ByteArray) (b : Int) (hb : b ≤ 36) : ∀ m j, j ≤ s.size → j + rc s b m j ≤ s.size
  | 0, _, h => h
  | m + 1, j, h => by
    simp only [rc]
    split
    · rename_i hd
      have hj : j < s.size := by
        apply Classical.byContradiction
        intro hn
        rw [dg_end (by omega)] at hd
        omega
      have := rc_in s b hb m (j + 1) hj
      omega
    · omega
theorem rv_bd (s : ByteArray) (b : Int) (hb : 1 ≤ b) : ∀ m j v, 0 ≤ v → 0 ≤ rv s b m j v ∧ rv s b m j v < (v + 1) * b ^ rc s b m j
  | 0, _, v, h => by simp only [rv, rc, Int.pow_zero]; omega
  | m + 1, j, v, h => by
    simp only [rv, rc]
    split
    · rename_i hd
      have d0 := (dg_bd (bt s j)).1
      have hv : 0 ≤ v * b := Int.mul_nonneg h (by omega)
      have := rv_bd s b hb m (j + 1) (v * b + dg (bt s j)) (by omega)
      refine ⟨this.1, Int.lt_of_lt_of_le this.2 ?_⟩
      have e : (v + 1) * b ^ (1 + rc s b m (j + 1)) = ((v + 1) * b) * b ^ rc s b m (j + 1) := by rw [Nat.add_comm, Int.pow_succ, Int.mul_comm (b ^ _) b, Int.mul_assoc]
      rw [e]
      refine Int.mul_le_mul_of_nonneg_right ?_ (Int.pow_nonneg (by omega))
      have e2 : (v + 1) * b = v * b + b := by rw [Int.add_mul, Int.one_mul]
      omega
    · simp only [Int.pow_zero]; omega
/-- Within a piece to the end all is as at its place in the whole. -/
theorem bt_tail (s : ByteArray) (a i : Nat) (ha : a ≤ s.size) : bt (s.extract a s.size) i = bt s (a + i) := by
  by_cases h : a + i < s.size
  · exact bt_ext s a s.size i (Nat.le_refl _) h
  · rw [bt_end s (by omega), bt_end _ (by rw [size_ext s a s.size (Nat.le_refl _)]; omega)]
theorem rc_congr {s t : ByteArray} {b : Int} : ∀ (m j i : Nat), (∀ x, x < m → bt s (j + x) = bt t (i + x)) → rc s b m j = rc t b m i
  | 0, _, _, _ => rfl
  | m + 1, j, i, h => by
    have h0 := h 0 (by omega)
    simp only [Nat.add_zero] at h0
    simp only [rc, h0]
    rw [rc_congr m (j + 1) (i + 1) (fun x hx => by have := h (x + 1) (by omega); rw [show j + 1 + x = j + (x + 1) by omega, show i + 1 + x = i + (x + 1) by omega]; exact this)]
theorem rv_congr {s t : ByteArray} {b : Int} : ∀ (m j i : Nat) (v : Int), (∀ x, x < m → bt s (j + x) = bt t (i + x)) → rv s b m j v = rv t b m i v
  | 0, _, _, _, _ => rfl
  | m + 1, j, i, v, h => by
    have h0 := h 0 (by omega)
    simp only [Nat.add_zero] at h0
    simp only [rv, h0]
    rw [rv_congr m (j + 1) (i + 1) _ (fun x hx => by have := h (x + 1) (by omega); rw [show j + 1 + x = j + (x + 1) by omega, show i + 1 + x = i + (x + 1) by omega]; exact this)]
theorem rc_tail (s : ByteArray) (b : Int) (m a i : Nat) (ha : a ≤ s.size) : rc (s.extract a s.size) b m i = rc s b m (a + i) :=
  rc_congr m i (a + i) (fun x _ => by rw [bt_tail s a _ ha, Nat.add_assoc])
theorem rv_tail (s : ByteArray) (b : Int) (m a i : Nat) (v : Int) (ha : a ≤ s.size) : rv (s.extract a s.size) b m i v = rv s b m (a + i) v :=
  rv_congr m i (a + i) v (fun x _ => by rw [bt_tail s a _ ha, Nat.add_assoc])
theorem fm_congr {s t : ByteArray} {b : Int} {e f : Nat} : ∀ (m k j : Nat) (h : Bool), e - k ≤ m → e - k = f - j → (∀ x, x < e - k → bt s (k + x) = bt t (j + x)) → fm s b e k h = fm t b f j h := by
  intro m
  induction m with
  | zero => intro k j h hm hef _; rw [fm_end (by omega), fm_end (by omega)]
  | succ m ih =>
    intro k j h hm hef hx
    by_cases hk : k < e
    · have h0 := hx 0 (by omega)
      simp only [Nat.add_zero] at h0
      have hx' : ∀ x, x < e - (k + 1) → bt s (k + 1 + x) = bt t (j + 1 + x) := fun x hlt => by
        have := hx (x + 1) (by omega)
        rw [show k + 1 + x = k + (x + 1) by omega, show j + 1 + x = j + (x + 1) by omega]; exact this
      have e1 : fm s b e k h = if bt s k = 95 ∧ h = true then fm s b e (k + 1) false else if dg (bt s k) < b then fm s b e (k + 1) true else false := by rw [fm, dif_pos hk]
      have e2 : fm t b f j h = if bt t j = 95 ∧ h = true then fm t b f (j + 1) false else if dg (bt t j) < b then fm t b f (j + 1) true else false := by rw [fm, dif_pos (by omega)]
      rw [e1, e2, h0, ih (k + 1) (j + 1) false (by omega) (by omega) hx', ih (k + 1) (j + 1) true (by omega) (by omega) hx']
    · rw [fm_end (by omega), fm_end (by omega)]
theorem vn_congr {s t : ByteArray} {b e f : Nat} : ∀ (m k j v : Nat), e - k ≤ m → e - k = f - j → (∀ x, x < e - k → bt s (k + x) = bt t (j + x)) → vn s b e k v = vn t b f j v := by
  intro m
  induction m with
  | zero => intro k j v hm hef _; rw [vn_end (by omega), vn_end (by omega)]
  | succ m ih =>
    intro k j v hm hef hx
    by_cases hk : k < e
    · have h0 := hx 0 (by omega)
      simp only [Nat.add_zero] at h0
      have hx' : ∀ x, x < e - (k + 1) → bt s (k + 1 + x) = bt t (j + 1 + x) := fun x hlt => by
        have := hx (x + 1) (by omega)
        rw [show k + 1 + x = k + (x + 1) by omega, show j + 1 + x = j + (x + 1) by omega]; exact this
      have e1 : vn s b e k v = if bt s k = 95 then vn s b e (k + 1) v else vn s b e (k + 1) (v * b + (dg (bt s k)).toNat) := by rw [vn, dif_pos hk]
      have e2 : vn t b f j v = if bt t j = 95 then vn t b f (j + 1) v else vn t b f (j + 1) (v * b + (dg (bt t j)).toNat) := by rw [vn, dif_pos (by omega)]
      rw [e1, e2, h0, ih (k + 1) (j + 1) v (by omega) (by omega) hx', ih (k + 1) (j + 1) _ (by omega) (by omega) hx']
    · rw [vn_end (by omega), vn_end (by omega)]
theorem nm_congr {s t : ByteArray} {b e f k j : Nat} (h : e - k = f - j) (hx : ∀ x, x < e - k → bt s (k + x) = bt t (j + x)) : nm s b e k = nm t b f j := by
  unfold nm
  rw [fm_congr (e - k) k j false (Nat.le_refl _) h hx, vn_congr (e - k) k j 0 (Nat.le_refl _) h hx]
theorem nm_ext (s : ByteArray) (b a e : Nat) (_ha : a ≤ e) (he : e ≤ s.size) : nm (s.extract a e) b (s.extract a e).size 0 = nm s b e a :=
  nm_congr (by rw [size_ext s a e he]; omega) (fun x hx => by rw [size_ext s a e he] at hx; rw [Nat.zero_add]; exact bt_ext s a e x he (by omega))
theorem fm_ext (s : ByteArray) (b : Int) (a e : Nat) (_ha : a ≤ e) (he : e ≤ s.size) : fm (s.extract a e) b (s.extract a e).size 0 false = fm s b e a false :=
  fm_congr (e - a) 0 a false (by rw [size_ext s a e he]; omega) (by rw [size_ext s a e he]; omega) (fun x hx => by rw [size_ext s a e he] at hx; rw [Nat.zero_add]; exact bt_ext s a e x he (by omega))
/-- What is told of the form alone. -/
theorem nm_form (s : ByteArray) (b e k : Nat) : ((nm s b e k).2 != 8) = fm s b e k false := by
  unfold nm
  cases fm s b e k false
  · rfl
  · rw [if_pos rfl]
    split <;> rfl

/-- The first byte c from byte k on; the size, if there is none. -/
def ix (s : ByteArray) (c : Int) (k : Nat) : Nat := if _h : k < s.size then (if bt s k = c then k else ix s c (k + 1)) else s.size
termination_by s.size - k
theorem ix_spec (s : ByteArray) (c : Int) : ∀ m k : Nat, s.size - k ≤ m → k ≤ s.size → k ≤ ix s c k ∧ ix s c k ≤ s.size ∧ (∀ i, k ≤ i → i < ix s c k → bt s i ≠ c) ∧ (ix s c k < s.size → bt s (ix s c k) = c) := by
  intro m
  induction m with
  | zero =>
    intro k h hk
    have e : ix s c k = s.size := by rw [ix, dif_neg (by omega)]
    rw [e]
    exact ⟨hk, Nat.le_refl _, fun i h1 h2 => by omega, fun h => by omega⟩
  | succ m ih =>
    intro k h hk
    by_cases hlt : k < s.size
    · by_cases hc : bt s k = c
      · have e : ix s c k = k := by rw [ix, dif_pos hlt, if_pos hc]
        rw [e]
        exact ⟨Nat.le_refl _, hk, fun i h1 h2 => by omega, fun _ => hc⟩
      · have e : ix s c k = ix s c (k + 1) := by rw [ix, dif_pos hlt, if_neg hc]
        rw [e]
        obtain ⟨h1, h2, h3, h4⟩ := ih (k + 1) (by omega) hlt
        refine ⟨by omega, h2, fun i i1 i2 => ?_, h4⟩
        by_cases hi : i = k
        · rw [hi]; exact hc
        · exact h3 i (by omega) i2
    · have e : ix s c k = s.size := by rw [ix, dif_neg hlt]
      rw [e]
      exact ⟨hk, Nat.le_refl _, fun i h1 h2 => by omega, fun h => by omega⟩
theorem ix_is {s : ByteArray} {c : Int} {k p : Nat} (hk : k ≤ p) (hp : p ≤ s.size) (h : ∀ i, k ≤ i → i < p → bt s i ≠ c) (he : p < s.size → bt s p = c) : ix s c k = p := by
  obtain ⟨h1, h2, h3, h4⟩ := ix_spec s c (s.size - k) k (Nat.le_refl _) (by omega)
  by_cases a : ix s c k < p
  · exact absurd (h4 (by omega)) (h _ h1 a)
  · by_cases b : p < ix s c k
    · exact absurd (he (by omega)) (h3 _ hk b)
    · omega
end Go.Proofs.YtnejkdaiopjchaaDoor
