/-
  Tokens, plain: what a token is, what it hangs on, all tokens, tokens by themselves and joined; the same by counting down.
-/
import Derived.Test.YtbjgoigdhijbgaaDoorMath
import Derived.Test.YtbjgoigdhijbgaaDoorRefIntMath
import Derived.Test.YtbjgoigdhijbgaaDoorUtfWalks
set_option linter.all false
/- Tokens over a text's bytes: blanks, names, comments, quoted ones, chars, numbers, macros, signs; one token; all tokens. -/
namespace Go.Proofs.YtbjgoigdhijbgaaDoor
open Go.RowKit Go.PlainAid

/-- The first byte from byte k on that p does not hold of, or the end. -/
def fw (p : Int → Bool) (s : ByteArray) (k : Nat) : Nat := if _h : k < s.size then (if p (bt s k) = true then fw p s (k + 1) else k) else k
termination_by s.size - k
theorem fw_end {p : Int → Bool} {s : ByteArray} {k : Nat} (h : ¬ k < s.size) : fw p s k = k := by rw [fw, dif_neg h]
theorem fw_stop {p : Int → Bool} {s : ByteArray} {k : Nat} (h : p (bt s k) = false) : fw p s k = k := by
  rw [fw]; split
  · rw [if_neg (by rw [h]; decide)]
  · rfl
theorem fw_go {p : Int → Bool} {s : ByteArray} {k : Nat} (hk : k < s.size) (h : p (bt s k) = true) : fw p s k = fw p s (k + 1) := by rw [fw, dif_pos hk, if_pos h]
theorem fw_spec (p : Int → Bool) (s : ByteArray) : ∀ m k, s.size - k ≤ m → k ≤ fw p s k ∧ (k ≤ s.size → fw p s k ≤ s.size) ∧ (∀ i, k ≤ i → i < fw p s k → p (bt s i) = true) ∧ (fw p s k < s.size → p (bt s (fw p s k)) = false) := by
  intro m
  induction m with
  | zero => intro k h; rw [fw_end (by omega)]; exact ⟨by omega, fun h => h, fun i _ _ => by omega, fun _ => by omega⟩
  | succ m ih =>
    intro k h
    by_cases hk : k < s.size
    · cases hp : p (bt s k)
      · rw [fw_stop hp]; exact ⟨by omega, fun h => h, fun i _ _ => by omega, fun _ => hp⟩
      · rw [fw_go hk hp]
        obtain ⟨h1, h2, h3, h4⟩ := ih (k + 1) (by omega)
        refine ⟨by omega, fun _ => h2 (by omega), fun i h5 h6 => ?_, h4⟩
        by_cases e : i = k
        · rw [e]; exact hp
        · exact h3 i (by omega) h6
    · rw [fw_end hk]; exact ⟨by omega, fun h => h, fun i _ _ => by omega, fun _ => by omega⟩
theorem fw_ge (p : Int → Bool) (s : ByteArray) (k : Nat) : k ≤ fw p s k := (fw_spec p s _ k (Nat.le_refl _)).1
theorem fw_le (p : Int → Bool) (s : ByteArray) (k : Nat) (h : k ≤ s.size) : fw p s k ≤ s.size := (fw_spec p s _ k (Nat.le_refl _)).2.1 h
theorem fw_all (p : Int → Bool) (s : ByteArray) (k i : Nat) (h1 : k ≤ i) (h2 : i < fw p s k) : p (bt s i) = true := (fw_spec p s _ k (Nat.le_refl _)).2.2.1 i h1 h2
theorem fw_not (p : Int → Bool) (s : ByteArray) (k : Nat) (h : fw p s k < s.size) : p (bt s (fw p s k)) = false := (fw_spec p s _ k (Nat.le_refl _)).2.2.2 h
theorem fw_is {p : Int → Bool} {s : ByteArray} {k e : Nat} (hk : k ≤ e) (he : e ≤ s.size) (ha : ∀ i, k ≤ i → i < e → p (bt s i) = true) (hn : e < s.size → p (bt s e) = false) : fw p s k = e := by
  have h1 := fw_ge p s k
  have h2 := fw_le p s k (by omega)
  by_cases a : fw p s k < e
  · have := fw_not p s k (by omega)
    rw [ha _ h1 a] at this; cases this
  · by_cases b : e < fw p s k
    · have := fw_all p s k e hk b
      rw [hn (by omega)] at this; cases this
    · omega
/-- A blank: 32, 9, 10, 13; one that a comment loses at its end: 32, 9, 13. -/
def bl (c : Int) : Bool := c == 32 || c == 9 || c == 10 || c == 13
def tb (c : Int) : Bool := c == 32 || c == 9 || c == 13
/-- Where what is between a and e ends without blanks. -/
def tr (s : ByteArray) (a : Nat) : Nat → Nat
  | 0 => 0
  | e + 1 => if a < e + 1 ∧ tb (bt s e) = true then tr s a e else e + 1
theorem tr_spec (s : ByteArray) (a : Nat) : ∀ e, tr s a e ≤ e ∧ (a ≤ e → a ≤ tr s a e) ∧ (∀ i, tr s a e ≤ i → i < e → tb (bt s i) = true) ∧ (a < tr s a e → tb (bt s (tr s a e - 1)) = false)
  | 0 => ⟨Nat.le_refl _, fun h => by simpa [tr] using h, fun i _ h => by omega, fun h => by simp [tr] at h⟩
  | e + 1 => by
    obtain ⟨h1, h2, h3, h4⟩ := tr_spec s a e
    simp only [tr]
    split
    · rename_i h
      refine ⟨by omega, fun _ => h2 (by omega), fun i i1 i2 => ?_, h4⟩
      by_cases e1 : i = e
      · rw [e1]; exact h.2
      · exact h3 i i1 (by omega)
    · rename_i h
      refine ⟨Nat.le_refl _, fun h => h, fun i _ _ => by omega, fun h' => ?_⟩
      cases hb : tb (bt s e)
      · rw [Nat.add_sub_cancel]; exact hb
      · exact absurd ⟨h', hb⟩ h
theorem tr_is {s : ByteArray} {a e p : Nat} (hp : p ≤ e) (ha : a < p) (h1 : ∀ i, p ≤ i → i < e → tb (bt s i) = true) (h2 : tb (bt s (p - 1)) = false) : tr s a e = p := by
  obtain ⟨g1, g2, g3, g4⟩ := tr_spec s a e
  have g5 := g2 (by omega)
  by_cases b : tr s a e < p
  · have := g3 (p - 1) (by omega) (by omega)
    rw [h2] at this; cases this
  · by_cases c : p < tr s a e
    · have := g4 (by omega)
      rw [h1 _ (by omega) (by omega)] at this; cases this
    · omega
/-- Where a quoted one ends that goes on at byte k; 0: nowhere. -/
def qx (s : ByteArray) (q : Int) (k : Nat) : Nat :=
  if _h : k < s.size then
    (if bt s k = q then k + 1
     else if bt s k = 92 then (if nc s (k + 1) < 32 ∨ nc s (k + 1) = 127 then 0 else qx s q (k + 1 + nl s (k + 1)))
     else if nc s k < 32 ∨ nc s k = 127 then 0 else qx s q (k + nl s k))
  else 0
termination_by s.size - k
decreasing_by
  · have := nl_pos s (k + 1); omega
  · have := nl_pos s k; omega
theorem qx_end {s : ByteArray} {q : Int} {k : Nat} (h : ¬ k < s.size) : qx s q k = 0 := by rw [qx, dif_neg h]
theorem qx_hit {s : ByteArray} {q : Int} {k : Nat} (h : k < s.size) (hq : bt s k = q) : qx s q k = k + 1 := by rw [qx, dif_pos h, if_pos hq]
theorem qx_esc {s : ByteArray} {q : Int} {k : Nat} (h : k < s.size) (hq : bt s k ≠ q) (h9 : bt s k = 92) : qx s q k = if nc s (k + 1) < 32 ∨ nc s (k + 1) = 127 then 0 else qx s q (k + 1 + nl s (k + 1)) := by rw [qx, dif_pos h, if_neg hq, if_pos h9]
theorem qx_pt {s : ByteArray} {q : Int} {k : Nat} (h : k < s.size) (hq : bt s k ≠ q) (h9 : bt s k ≠ 92) : qx s q k = if nc s k < 32 ∨ nc s k = 127 then 0 else qx s q (k + nl s k) := by rw [qx, dif_pos h, if_neg hq, if_neg h9]
theorem qx_bd (s : ByteArray) (q : Int) : ∀ m k, s.size - k ≤ m → qx s q k = 0 ∨ (k < qx s q k ∧ qx s q k ≤ s.size) := by
  intro m
  induction m with
  | zero => intro k h; exact .inl (qx_end (by omega))
  | succ m ih =>
    intro k h
    by_cases hk : k < s.size
    · by_cases hq : bt s k = q
      · rw [qx_hit hk hq]; exact .inr ⟨by omega, by omega⟩
      · by_cases h9 : bt s k = 92
        · rw [qx_esc hk hq h9]
          split
          · exact .inl rfl
          · have := nl_pos s (k + 1)
            rcases ih (k + 1 + nl s (k + 1)) (by omega) with h' | h'
            · exact .inl h'
            · exact .inr ⟨by omega, h'.2⟩
        · rw [qx_pt hk hq h9]
          split
          · exact .inl rfl
          · have := nl_pos s k
            rcases ih (k + nl s k) (by omega) with h' | h'
            · exact .inl h'
            · exact .inr ⟨by omega, h'.2⟩
    · exact .inl (qx_end hk)
/-- Where a char ends whose $ stands at byte k; 0: nowhere. -/
def che (s : ByteArray) (k : Nat) : Nat :=
  if k + 1 < s.size ∧ bt s (k + 1) = 92 then (if 0 ≤ (esc s (k + 1)).1 then k + 1 + (esc s (k + 1)).2 else 0)
  else if nc s (k + 1) ≤ 32 ∨ nc s (k + 1) = 127 then 0 else k + 1 + nl s (k + 1)
/-- The number that digits between two bytes are. -/
def dbe (s : ByteArray) (a : Nat) : Nat → Int
  | 0 => 0
  | n + 1 => dbe s a n * 10 + (bt s (a + n) - 48)
def ise (c : Int) : Bool := c == 69 || c == 101
/-- Where a whole number's form ends that begins at byte a. -/
def whe (s : ByteArray) (a : Nat) : Nat :=
  let m := ru s 10 a false a
  let n := ru s 10 a true a
  let B := dbe s a (m - a)
  let r := ru s B (m + 1) true (m + 1)
  if (a < m ∧ m < a + 3 ∧ m < s.size ∧ bt s m = 35) ∧ 2 ≤ B ∧ B ≤ 36 ∧ m + 1 < r then r else n
def exb (s : ByteArray) (k : Nat) : Nat := if bt s k = 43 ∨ bt s k = 45 then k + 1 else k
/-- Where a float ends that begins at byte a; a: nowhere. -/
def bke (s : ByteArray) (a : Nat) : Nat :=
  let n := ru s 10 a true a
  let K := ru s 10 (n + 1) true (n + 1)
  let j := exb s (K + 1)
  let L := ru s 10 j true j
  if a < n ∧ n < s.size ∧ bt s n = 46 then (if K = n + 1 then a else if K < s.size ∧ ise (bt s K) = true then (if j < L then L else K) else K) else a
def isF (s : ByteArray) (a : Nat) : Bool := decide (bke s a ≠ a)
def ne (s : ByteArray) (a : Nat) : Nat := if bke s a = a then whe s a else bke s a
/-- A number's token at byte a: its kind, and where it ends; 0: none. -/
def num (s : ByteArray) (a : Nat) : Int × Nat :=
  if ne s a = a ∨ (ne s a < s.size ∧ inn (bt s (ne s a)) = true) then (0, 0)
  else if bke s a = a ∧ ne s a < s.size ∧ bt s (ne s a) = 35 ∧ ¬ ix s 35 a < ne s a then (0, 0)
  else (if bke s a = a then 3 else 4, ne s a)
def fst (c : Int) : Bool := (decide (65 ≤ c) && decide (c ≤ 90)) || (decide (97 ≤ c) && decide (c ≤ 122)) || c == 95
def mcb (s : ByteArray) (k : Nat) : Nat := if bt s (k + 1) = 63 then k + 2 else k + 1
/-- A token of a kind up to e; none if e is none. -/
def tk (kd : Int) (e : Nat) : Int × Nat := if e = 0 then (0, 0) else (kd, e)
/-- THE TOKEN that begins at byte k: its kind, and where it ends; 0: none. -/
def one (s : ByteArray) (k : Nat) : Int × Nat :=
  if bt s k = 37 then (11, tr s k (ix s 10 k))
  else if bt s k = 46 ∧ (k + 1 = s.size ∨ bt s (k + 1) = 37 ∨ k + 1 < fw bl s (k + 1)) then (10, k + 1)
  else if beg (bt s k) = 3 then num s k
  else if 0 < beg (bt s k) then (if rs (s.extract k (fw inn s k)) = true then 8 else beg (bt s k), fw inn s k)
  else if bt s k = 39 then tk 1 (qx s 39 (k + 1))
  else if bt s k = 34 then tk 6 (qx s 34 (k + 1))
  else if bt s k = 36 then tk 5 (che s k)
  else if bt s k = 63 then (if fst (bt s (mcb s k)) = true then (7, fw inn s (mcb s k)) else (0, 0))
  else if lgL (s.data.toList.drop k) = 0 then (0, 0) else (9, k + lgL (s.data.toList.drop k))
end Go.Proofs.YtbjgoigdhijbgaaDoor
/- What a token is hangs on its own bytes and what stands behind them alone: two texts that are alike for a while, then one has a newline. -/
namespace Go.Proofs.YtbjgoigdhijbgaaDoor
open Go.RowKit Go.PlainAid

/-- From byte b on t is as s from byte k on, for M bytes; then t has a newline, or both end. -/
structure Sim (s : ByteArray) (k : Nat) (t : ByteArray) (b M : Nat) : Prop where
  eq : ∀ j, j < M → bt s (k + j) = bt t (b + j)
  hs : k + M ≤ s.size
  ht : b + M ≤ t.size
  stop : (b + M < t.size ∧ bt t (b + M) = 10) ∨ (b + M = t.size ∧ k + M = s.size)
variable {s t : ByteArray} {k b M : Nat}
theorem Sim.sh (h : Sim s k t b M) {p : Nat} (hp : p ≤ M) : Sim s (k + p) t (b + p) (M - p) := by
  have e1 : k + p + (M - p) = k + M := by omega
  have e2 : b + p + (M - p) = b + M := by omega
  refine ⟨fun j hj => ?_, by rw [e1]; exact h.hs, by rw [e2]; exact h.ht, by rw [e1, e2]; exact h.stop⟩
  have := h.eq (p + j) (by omega)
  rw [← Nat.add_assoc, ← Nat.add_assoc] at this
  exact this
/-- Byte e of t: as in s, or the newline, or behind both's end. -/
theorem Sim.at_ (h : Sim s k t b M) {e : Nat} (he : e ≤ M) : (e < M ∧ bt t (b + e) = bt s (k + e)) ∨ (e = M ∧ bt t (b + e) = 10 ∧ b + e < t.size) ∨ (e = M ∧ b + e = t.size ∧ k + e = s.size ∧ bt t (b + e) = 0 ∧ bt s (k + e) = 0) := by
  by_cases h1 : e < M
  · exact .inl ⟨h1, (h.eq e h1).symm⟩
  · obtain rfl : e = M := by omega
    rcases h.stop with ⟨h2, h3⟩ | ⟨h2, h3⟩
    · exact .inr (.inl ⟨rfl, h3, h2⟩)
    · exact .inr (.inr ⟨rfl, h2, h3, bt_end t (by omega), bt_end s (by omega)⟩)
theorem Sim.mfw (h : Sim s k t b M) {p : Int → Bool} (h10 : p 10 = false) {a e : Nat} (ha : a ≤ e) (he : e ≤ M) (hf : fw p s (k + a) = k + e) : fw p t (b + a) = b + e := by
  have hM := h.ht
  refine fw_is (by omega) (by omega) (fun i h1 h2 => ?_) (fun h1 => ?_)
  · have := fw_all p s (k + a) (k + (i - b)) (by omega) (by omega)
    rw [h.eq (i - b) (by omega), show b + (i - b) = i by omega] at this
    exact this
  · rcases h.at_ he with ⟨h2, h3⟩ | ⟨h2, h3, -⟩ | ⟨h2, h3, -⟩
    · rw [h3, ← hf]
      refine fw_not p s _ ?_
      have := h.hs
      omega
    · rw [h3]; exact h10
    · omega
theorem Sim.mnc (h : Sim s k t b M) {p : Nat} (hc : ¬ nc s (k + p) < 0) (hp : p + nl s (k + p) ≤ M) : nc t (b + p) = nc s (k + p) ∧ nl t (b + p) = nl s (k + p) := by
  have e : nl s (k + p) = ln (bt s (k + p)) := by unfold nl; rw [if_neg hc]
  have h1 := nl_pos s (k + p)
  have h0 := h.eq p (by omega)
  rw [e] at hp
  have hs := h.hs
  have ht := h.ht
  have hn : nc t (b + p) = nc s (k + p) := by
    refine nc_congr h0.symm (by omega) (by omega) (fun x hx => ?_)
    have := h.eq (p + x) (by omega)
    rw [← Nat.add_assoc, ← Nat.add_assoc] at this
    exact this.symm
  exact ⟨hn, by unfold nl; rw [hn, h0]⟩
theorem Sim.mqe (h : Sim s k t b M) (q : Int) : ∀ m a, M - a ≤ m → ∀ e, qx s q (k + a) = k + e → qx s q (k + a) ≠ 0 → e ≤ M → qx t q (b + a) = b + e := by
  intro m
  induction m with
  | zero =>
    intro a hm e he h0 heM
    rcases qx_bd s q _ (k + a) (Nat.le_refl _) with h1 | h1
    · exact absurd h1 h0
    · omega
  | succ m ih =>
    intro a hm e he h0 heM
    have hb := qx_bd s q _ (k + a) (Nat.le_refl _)
    rcases hb with h1 | ⟨h1, h2⟩
    · exact absurd h1 h0
    have haM : a < M := by omega
    have hk : k + a < s.size := by omega
    have ht : b + a < t.size := by have := h.ht; omega
    have e0 := h.eq a haM
    by_cases hq : bt s (k + a) = q
    · rw [qx_hit hk hq] at he
      rw [qx_hit ht (by rw [← e0]; exact hq)]
      omega
    · by_cases h9 : bt s (k + a) = 92
      · rw [qx_esc hk hq h9] at he h0 h1
        rw [qx_esc ht (by rw [← e0]; exact hq) (by rw [← e0]; exact h9)]
        by_cases hc : nc s (k + a + 1) < 32 ∨ nc s (k + a + 1) = 127
        · rw [if_pos hc] at h0; exact absurd rfl h0
        · rw [if_neg hc] at he h0 h1
          have hb2 := qx_bd s q _ (k + a + 1 + nl s (k + a + 1)) (Nat.le_refl _)
          have hb3 : k + a + 1 + nl s (k + a + 1) < k + e := by omega
          obtain ⟨n1, n2⟩ := h.mnc (p := a + 1) (by rw [← Nat.add_assoc]; omega) (by rw [← Nat.add_assoc]; omega)
          rw [← Nat.add_assoc, ← Nat.add_assoc] at n1 n2
          rw [n1, n2, if_neg hc]
          have hp := nl_pos s (k + a + 1)
          have := ih (a + 1 + nl s (k + a + 1)) (by omega) e (by rw [show k + (a + 1 + nl s (k + a + 1)) = k + a + 1 + nl s (k + a + 1) by omega]; exact he) (by rw [show k + (a + 1 + nl s (k + a + 1)) = k + a + 1 + nl s (k + a + 1) by omega]; exact h0) heM
          rw [show b + a + 1 + nl s (k + a + 1) = b + (a + 1 + nl s (k + a + 1)) by omega]
          exact this
      · rw [qx_pt hk hq h9] at he h0 h1
        rw [qx_pt ht (by rw [← e0]; exact hq) (by rw [← e0]; exact h9)]
        by_cases hc : nc s (k + a) < 32 ∨ nc s (k + a) = 127
        · rw [if_pos hc] at h0; exact absurd rfl h0
        · rw [if_neg hc] at he h0 h1
          have hb2 := qx_bd s q _ (k + a + nl s (k + a)) (Nat.le_refl _)
          have hb3 : k + a + nl s (k + a) < k + e := by omega
          obtain ⟨n1, n2⟩ := h.mnc (p := a) (by omega) (by omega)
          rw [n1, n2, if_neg hc]
          have hp := nl_pos s (k + a)
          have := ih (a + nl s (k + a)) (by omega) e (by rw [← Nat.add_assoc]; exact he) (by rw [← Nat.add_assoc]; exact h0) heM
          rw [Nat.add_assoc]
          exact this
theorem dg_10 : dg 10 = 36 := by decide
/-- Runs of digits of a base, at most m. -/
theorem Sim.mrc (h : Sim s k t b M) (B : Int) (hB : B ≤ 36) : ∀ m a, a + rc s B m (k + a) ≤ M → rc t B m (b + a) = rc s B m (k + a) ∧ ∀ v, rv t B m (b + a) v = rv s B m (k + a) v
  | 0, _, _ => ⟨rfl, fun _ => rfl⟩
  | m + 1, a, hM => by
    by_cases hd : dg (bt s (k + a)) < B
    · have e1 : rc s B (m + 1) (k + a) = 1 + rc s B m (k + a + 1) := by simp only [rc]; rw [if_pos hd]
      rw [e1] at hM
      have e0 := h.eq a (by omega)
      obtain ⟨i1, i2⟩ := Sim.mrc h B hB m (a + 1) (by rw [← Nat.add_assoc]; omega)
      rw [← Nat.add_assoc, ← Nat.add_assoc] at i1 i2
      refine ⟨?_, fun v => ?_⟩
      · rw [e1]; simp only [rc]; rw [← e0, if_pos hd, i1]
      · simp only [rv]; rw [← e0, if_pos hd, if_pos hd, i2]
    · have e1 : rc s B (m + 1) (k + a) = 0 := by simp only [rc]; rw [if_neg hd]
      rw [e1] at hM
      have hd' : ¬ dg (bt t (b + a)) < B := by
        rcases h.at_ (e := a) (by omega) with ⟨h2, h3⟩ | ⟨h2, h3, -⟩ | ⟨h2, -, -, h3, -⟩
        · rw [h3]; exact hd
        · rw [h3, dg_10]; omega
        · rw [h3, dg_zero]; omega
      refine ⟨?_, fun v => ?_⟩
      · rw [e1]; simp only [rc]; rw [if_neg hd']
      · simp only [rv]; rw [if_neg hd', if_neg hd]
/-- An escape. -/
theorem Sim.mesc (h : Sim s k t b M) {a : Nat} (h0 : 0 ≤ (esc s (k + a)).1) (hM : a + (esc s (k + a)).2 ≤ M) : esc t (b + a) = esc s (k + a) := by
  have hin : k + a < s.size ∧ bt s (k + a) = 92 := by
    apply Classical.byContradiction
    intro h'
    unfold esc at h0
    rw [if_neg h'] at h0
    exact absurd h0 (by decide)
  have hpt : isPt (mnt s (k + a + 1)).1 = true := by
    apply Classical.byContradiction
    intro h'
    unfold esc at h0
    rw [if_pos hin, if_neg h'] at h0
    exact absurd h0 (by decide)
  have he : esc s (k + a) = ((mnt s (k + a + 1)).1, 1 + (mnt s (k + a + 1)).2) := by
    unfold esc; rw [if_pos hin, if_pos hpt]
  rw [he] at hM ⊢
  simp only at hM
  have hm0 : 0 ≤ (mnt s (k + a + 1)).1 := by
    unfold isPt at hpt
    have := of_decide_eq_true hpt
    omega
  have hmain : mnt t (b + a + 1) = mnt s (k + a + 1) := by
    unfold mnt at hm0 hM ⊢
    by_cases c1 : 0 < rc s 8 3 (k + a + 1)
    · rw [if_pos c1] at hM
      obtain ⟨r1, r2⟩ := h.mrc 8 (by omega) 3 (a + 1) (by rw [← Nat.add_assoc]; simp only at hM; omega)
      rw [← Nat.add_assoc, ← Nat.add_assoc] at r1 r2
      rw [if_pos c1, r1, if_pos c1, r2]
    · have c1t : rc t 8 3 (b + a + 1) = rc s 8 3 (k + a + 1) := by
        have := (h.mrc 8 (by omega) 3 (a + 1) (by rw [← Nat.add_assoc]; omega)).1
        rw [← Nat.add_assoc, ← Nat.add_assoc] at this
        exact this
      rw [if_neg c1] at hM hm0
      rw [c1t, if_neg c1, if_neg c1]
      by_cases c2 : bt s (k + a + 1) = 120
      · rw [if_pos c2] at hM hm0
        have hx : 3 ≤ (hxd s (k + a + 1)).2 := by
          unfold hxd at hm0 ⊢
          split
          · rename_i c3
            rw [if_pos c3] at hm0
            split
            · rename_i c4; rw [if_pos c4] at hm0; exact absurd hm0 (by decide)
            · simp only; omega
          · rename_i c3
            rw [if_neg c3] at hm0
            split
            · rename_i c4; rw [if_pos c4] at hm0; exact absurd hm0 (by decide)
            · simp only; omega
        have e1 := h.eq (a + 1) (by omega)
        have e2 := h.eq (a + 2) (by omega)
        rw [← Nat.add_assoc, ← Nat.add_assoc] at e1 e2
        rw [if_pos c2, ← e1, if_pos c2]
        unfold hxd at hm0 hM ⊢
        have e3 : bt t (b + a + 1 + 1) = bt s (k + a + 1 + 1) := e2.symm
        rw [e3]
        by_cases c3 : bt s (k + a + 1 + 1) = 123
        · rw [if_pos c3] at hm0 hM
          rw [if_pos c3, if_pos c3]
          by_cases c4 : rc s 16 6 (k + a + 1 + 2) = 0 ∨ bt s (k + a + 1 + 2 + rc s 16 6 (k + a + 1 + 2)) ≠ 125
          · rw [if_pos c4] at hm0; exact absurd hm0 (by decide)
          · rw [if_neg c4] at hM
            simp only at hM
            obtain ⟨r1, r2⟩ := h.mrc 16 (by omega) 6 (a + 3) (by rw [show k + (a + 3) = k + a + 1 + 2 by omega]; omega)
            rw [← Nat.add_assoc, ← Nat.add_assoc] at r1 r2
            have r1' : rc t 16 6 (b + a + 1 + 2) = rc s 16 6 (k + a + 1 + 2) := r1
            have r2' : ∀ v, rv t 16 6 (b + a + 1 + 2) v = rv s 16 6 (k + a + 1 + 2) v := r2
            have e4 := h.eq (a + 3 + rc s 16 6 (k + a + 1 + 2)) (by omega)
            have e5 : bt t (b + a + 1 + 2 + rc s 16 6 (k + a + 1 + 2)) = bt s (k + a + 1 + 2 + rc s 16 6 (k + a + 1 + 2)) := by
              rw [show b + a + 1 + 2 + rc s 16 6 (k + a + 1 + 2) = b + (a + 3 + rc s 16 6 (k + a + 1 + 2)) by omega, ← e4]
              congr 1; omega
            rw [r1', e5, if_neg c4, if_neg c4, r2']
        · rw [if_neg c3] at hm0 hM
          rw [if_neg c3, if_neg c3]
          by_cases c4 : rc s 16 2 (k + a + 1 + 1) < 2
          · rw [if_pos c4] at hm0; exact absurd hm0 (by decide)
          · rw [if_neg c4] at hM
            simp only at hM
            have hrc := rc_le s 16 2 (k + a + 1 + 1)
            obtain ⟨r1, r2⟩ := h.mrc 16 (by omega) 2 (a + 2) (by rw [show k + (a + 2) = k + a + 1 + 1 by omega]; omega)
            rw [← Nat.add_assoc, ← Nat.add_assoc] at r1 r2
            have r1' : rc t 16 2 (b + a + 1 + 1) = rc s 16 2 (k + a + 1 + 1) := r1
            have r2' : ∀ v, rv t 16 2 (b + a + 1 + 1) v = rv s 16 2 (k + a + 1 + 1) v := r2
            rw [r1', if_neg c4, if_neg c4, r2']
      · rw [if_neg c2] at hM hm0
        rw [if_neg c2]
        by_cases c3 : bt s (k + a + 1) = 94
        · rw [if_pos c3] at hM hm0
          have hc2 : (ctl (bt s (k + a + 1 + 1))).2 = 2 := by
            unfold ctl at hm0 ⊢
            split
            · rfl
            · rename_i c4; rw [if_neg c4] at hm0; exact absurd hm0 (by decide)
          have e1 := h.eq (a + 1) (by omega)
          have e2 := h.eq (a + 2) (by omega)
          rw [← Nat.add_assoc, ← Nat.add_assoc] at e1 e2
          have e3 : bt t (b + a + 1 + 1) = bt s (k + a + 1 + 1) := e2.symm
          rw [if_pos c3, ← e1, if_neg c2, if_pos c3, e3]
        · rw [if_neg c3] at hM hm0
          rw [if_neg c3]
          by_cases c4 : s.size ≤ k + a + 1 ∨ nc s (k + a + 1) < 32
          · rw [if_pos c4] at hm0; exact absurd hm0 (by decide)
          · rw [if_neg c4] at hM hm0
            rw [if_neg c4]
            have hl : a + 1 + nl s (k + a + 1) ≤ M := by
              split at hM
              all_goals simp only at hM; omega
            obtain ⟨n1, n2⟩ := h.mnc (p := a + 1) (by rw [← Nat.add_assoc]; omega) (by rw [← Nat.add_assoc]; omega)
            rw [← Nat.add_assoc, ← Nat.add_assoc] at n1 n2
            have hp := nl_pos s (k + a + 1)
            have e1 := h.eq (a + 1) (by omega)
            rw [← Nat.add_assoc, ← Nat.add_assoc] at e1
            have ht : b + a + 1 < t.size := by have := h.ht; omega
            rw [← e1, if_neg c2, if_neg c3, n1, n2, if_neg (by omega)]
  have hn : 0 < (mnt s (k + a + 1)).2 := by
    have := hm0
    unfold mnt at this ⊢
    split
    · assumption
    · rename_i c1
      rw [if_neg c1] at this
      split
      · rename_i c2
        rw [if_pos c2] at this
        unfold hxd at this ⊢
        split
        · rename_i c3
          rw [if_pos c3] at this
          split
          · rename_i c4; rw [if_pos c4] at this; exact absurd this (by decide)
          · simp only; omega
        · rename_i c3
          rw [if_neg c3] at this
          split
          · rename_i c4; rw [if_pos c4] at this; exact absurd this (by decide)
          · simp only; omega
      · rename_i c2
        rw [if_neg c2] at this
        split
        · rename_i c3
          rw [if_pos c3] at this
          unfold ctl at this ⊢
          split
          · simp
          · rename_i c4; rw [if_neg c4] at this; exact absurd this (by decide)
        · rename_i c3
          rw [if_neg c3] at this
          split
          · rename_i c4; rw [if_pos c4] at this; exact absurd this (by decide)
          · have := nl_pos s (k + a + 1)
            split <;> exact this
  have e0 := h.eq a (by omega)
  have ht : b + a < t.size := by have := h.ht; omega
  unfold esc
  rw [if_pos ⟨ht, by rw [← e0]; exact hin.2⟩, hmain, if_pos hpt]
end Go.Proofs.YtbjgoigdhijbgaaDoor
/- Numbers, chars, comments, signs and whole tokens hang on their own bytes and what stands behind them alone. -/
namespace Go.Proofs.YtbjgoigdhijbgaaDoor
open Go.RowKit Go.PlainAid

variable {s t : ByteArray} {k b M : Nat}
theorem okk_iff {s : ByteArray} {B : Int} {a i : Nat} {un : Bool} (hB : B ≤ 36) : okk s B a un i = true ↔ (dg (bt s i) < B ∨ (un = true ∧ bt s i = 95 ∧ a < i ∧ bt s (i - 1) ≠ 95 ∧ i + 1 < s.size ∧ dg (bt s (i + 1)) < B)) := by
  unfold okk
  simp only [Bool.or_eq_true, Bool.and_eq_true, decide_eq_true_eq, beq_iff_eq, bne_iff_ne, vlr_pos hB, and_assoc]
theorem ru_all (s : ByteArray) (B : Int) (a : Nat) (un : Bool) (x : Nat) (h1 : a ≤ x) (h2 : x < ru s B a un a) : okk s B a un x = true := (ru_spec s B a un s.size a (by omega)).1 x h1 h2
theorem ru_not (s : ByteArray) (B : Int) (a : Nat) (un : Bool) (h : ru s B a un a < s.size) : okk s B a un (ru s B a un a) = false := (ru_spec s B a un s.size a (by omega)).2 h
theorem ru_lo (s : ByteArray) (B : Int) (a : Nat) (un : Bool) : a ≤ ru s B a un a := (ru_ge s B a un s.size a (by omega)).1
theorem ru_hi (s : ByteArray) (B : Int) (a : Nat) (un : Bool) (h : a ≤ s.size) : ru s B a un a ≤ s.size := (ru_ge s B a un s.size a (by omega)).2 h
theorem not10 {B : Int} (hB : B ≤ 36) : ¬ dg 10 < B := by rw [dg_10]; omega
theorem not0 {B : Int} (hB : B ≤ 36) : ¬ dg 0 < B := by rw [dg_zero]; omega
/-- A run of digits. -/
theorem Sim.mru (h : Sim s k t b M) {B : Int} (hB : B ≤ 36) (un : Bool) {a e : Nat} (_ : a ≤ M) (he : e ≤ M) (hr : ru s B (k + a) un (k + a) = k + e) : ru t B (b + a) un (b + a) = b + e := by
  have hae : a ≤ e := by have := ru_lo s B (k + a) un; omega
  have hs := h.hs
  have ht := h.ht
  refine ru_is (by omega) (by omega) (fun x h1 h2 => ?_) (fun h1 => ?_)
  · obtain ⟨y, rfl⟩ : ∃ y, x = b + y := ⟨x - b, by omega⟩
    have ho := ru_all s B (k + a) un (k + y) (by omega) (by omega)
    rw [okk_iff hB] at ho ⊢
    have e0 := h.eq y (by omega)
    rw [← e0]
    rcases ho with ho | ⟨o1, o2, o3, o4, o5, o6⟩
    · exact .inl ho
    · refine .inr ⟨o1, o2, by omega, ?_, ?_⟩
      · have := h.eq (y - 1) (by omega)
        rw [show k + (y - 1) = k + y - 1 by omega, show b + (y - 1) = b + y - 1 by omega] at this
        rw [← this]; exact o4
      · have hy : y + 1 < e := by
          apply Classical.byContradiction
          intro h'
          have e2 : k + y + 1 = k + e := by omega
          have := ru_not s B (k + a) un (by rw [hr]; omega)
          rw [hr, ← e2] at this
          have h3 : okk s B (k + a) un (k + y + 1) = true := (okk_iff hB).2 (.inl o6)
          rw [this] at h3; cases h3
        have := h.eq (y + 1) (by omega)
        rw [← Nat.add_assoc, ← Nat.add_assoc] at this
        exact ⟨by omega, by rw [← this]; exact o6⟩
  · cases ho : okk t B (b + a) un (b + e)
    · rfl
    · exfalso
      rw [okk_iff hB] at ho
      rcases h.at_ he with ⟨h2, h3⟩ | ⟨h2, h3, -⟩ | ⟨h2, h3, -⟩
      · have hn := ru_not s B (k + a) un (by rw [hr]; omega)
        rw [hr] at hn
        have hy : okk s B (k + a) un (k + e) = true := by
          rw [okk_iff hB]
          rw [h3] at ho
          rcases ho with ho | ⟨o1, o2, o3, o4, o5, o6⟩
          · exact .inl ho
          · refine .inr ⟨o1, o2, by omega, ?_, ?_⟩
            · have := h.eq (e - 1) (by omega)
              rw [show k + (e - 1) = k + e - 1 by omega, show b + (e - 1) = b + e - 1 by omega] at this
              rw [this]; exact o4
            · rcases h.at_ (e := e + 1) (by omega) with ⟨h4, h5⟩ | ⟨h4, h5, -⟩ | ⟨h4, h5, -⟩
              · rw [← Nat.add_assoc, ← Nat.add_assoc] at h5
                exact ⟨by omega, by rw [← h5]; exact o6⟩
              · rw [← Nat.add_assoc] at h5
                rw [h5] at o6
                exact absurd o6 (not10 hB)
              · omega
        rw [hn] at hy; cases hy
      · rw [h3] at ho
        rcases ho with ho | ⟨-, o2, -⟩
        · exact not10 hB ho
        · exact absurd o2 (by decide)
      · omega
theorem ru_mono (s : ByteArray) (a : Nat) : ru s 10 a false a ≤ ru s 10 a true a := by
  apply Classical.byContradiction
  intro h
  have h1 := ru_all s 10 a false (ru s 10 a true a) (ru_lo s 10 a true) (by omega)
  have h2 : ru s 10 a true a < s.size := by
    by_cases ha : a ≤ s.size
    · have := ru_hi s 10 a false ha; omega
    · exfalso
      rw [ru_end (by omega)] at h; have := ru_lo s 10 a true; omega
  have h3 := ru_not s 10 a true h2
  rw [okk_iff (by omega)] at h1
  have h4 : okk s 10 a true (ru s 10 a true a) = true := by
    rw [okk_iff (by omega)]
    rcases h1 with h1 | ⟨h1, -⟩
    · exact .inl h1
    · cases h1
  rw [h3] at h4; cases h4
theorem ru_hash {s : ByteArray} {a : Nat} (ha : ru s 10 a false a < s.size) (h : bt s (ru s 10 a false a) = 35) : ru s 10 a true a = ru s 10 a false a := by
  refine ru_is (ru_lo s 10 a false) (by omega) (fun x h1 h2 => ?_) (fun _ => ?_)
  · have := ru_all s 10 a false x h1 h2
    rw [okk_iff (by omega)] at this ⊢
    rcases this with h3 | ⟨h3, -⟩
    · exact .inl h3
    · cases h3
  · cases ho : okk s 10 a true (ru s 10 a false a)
    · rfl
    · rw [okk_iff (by omega), h] at ho
      rcases ho with ho | ⟨-, ho, -⟩
      · exact absurd ho (by decide)
      · exact absurd ho (by decide)
theorem dbe_eq (h : ∀ j, j < M → bt s (k + j) = bt t (b + j)) : ∀ n, n ≤ M → dbe s k n = dbe t b n
  | 0, _ => rfl
  | n + 1, hn => by simp only [dbe]; rw [dbe_eq h n (by omega), h n (by omega)]
/-- The runs of a whole number, and its end. -/
theorem whe_cases (s : ByteArray) (a : Nat) : (∃ m B r, m = ru s 10 a false a ∧ B = dbe s a (m - a) ∧ r = ru s B (m + 1) true (m + 1) ∧ a < m ∧ m < a + 3 ∧ m < s.size ∧ bt s m = 35 ∧ 2 ≤ B ∧ B ≤ 36 ∧ m + 1 < r ∧ whe s a = r) ∨
    (whe s a = ru s 10 a true a ∧ ¬ ((a < ru s 10 a false a ∧ ru s 10 a false a < a + 3 ∧ ru s 10 a false a < s.size ∧ bt s (ru s 10 a false a) = 35) ∧ 2 ≤ dbe s a (ru s 10 a false a - a) ∧ dbe s a (ru s 10 a false a - a) ≤ 36 ∧
      ru s 10 a false a + 1 < ru s (dbe s a (ru s 10 a false a - a)) (ru s 10 a false a + 1) true (ru s 10 a false a + 1))) := by
  by_cases h : (a < ru s 10 a false a ∧ ru s 10 a false a < a + 3 ∧ ru s 10 a false a < s.size ∧ bt s (ru s 10 a false a) = 35) ∧ 2 ≤ dbe s a (ru s 10 a false a - a) ∧ dbe s a (ru s 10 a false a - a) ≤ 36 ∧
      ru s 10 a false a + 1 < ru s (dbe s a (ru s 10 a false a - a)) (ru s 10 a false a + 1) true (ru s 10 a false a + 1)
  · exact .inl ⟨_, _, _, rfl, rfl, rfl, h.1.1, h.1.2.1, h.1.2.2.1, h.1.2.2.2, h.2.1, h.2.2.1, h.2.2.2, by unfold whe; simp only; rw [if_pos h]⟩
  · exact .inr ⟨by unfold whe; simp only; rw [if_neg h], h⟩
theorem whe_n (s : ByteArray) (a : Nat) : ru s 10 a true a ≤ whe s a := by
  rcases whe_cases s a with ⟨m, B, r, rfl, rfl, rfl, h1, h2, h3, h4, h5, h6, h7, h8⟩ | ⟨h, -⟩
  · rw [h8, ru_hash h3 h4]; omega
  · omega
theorem Sim.mwhe (h : Sim s k t b M) {e : Nat} (he : e ≤ M) (hw : whe s k = k + e) : whe t b = b + e := by
  have hs := h.hs
  have ht := h.ht
  have r0 : ∀ (un : Bool) (x : Nat), x ≤ M → ru s 10 k un k = k + x → ru t 10 b un b = b + x := fun un x hx hr => h.mru (a := 0) (by omega) un (Nat.zero_le _) hx hr
  rcases whe_cases s k with ⟨m, B, r, hm, hB, hr, h1, h2, h3, h4, h5, h6, h7, h8⟩ | ⟨h1, h2⟩
  · obtain ⟨x, rfl⟩ : ∃ x, m = k + x := ⟨m - k, by omega⟩
    have hre : r = k + e := by omega
    have hx : x + 1 ≤ M := by omega
    have m1 := r0 false x (by omega) hm.symm
    have e0 := h.eq x (by omega)
    have eB : dbe t b x = B := by rw [hB, show k + x - k = x by omega]; exact (dbe_eq h.eq x (by omega)).symm
    have m2 := h.mru h6 true (a := x + 1) (e := e) hx he (by rw [← Nat.add_assoc, ← hr]; exact hre)
    rw [← Nat.add_assoc] at m2
    unfold whe
    simp only
    rw [m1, show b + x - b = x by omega, eB, m2, if_pos ⟨⟨by omega, by omega, by omega, by rw [← e0]; exact h4⟩, h5, h6, by omega⟩]
  · have n1 := r0 true e he (by rw [← h1]; exact hw)
    obtain ⟨x, hx⟩ : ∃ x, ru s 10 k false k = k + x := ⟨ru s 10 k false k - k, by have := ru_lo s 10 k false; omega⟩
    have hxe : x ≤ e := by have := ru_mono s k; omega
    have m1 := r0 false x (by omega) hx
    have eB : dbe t b x = dbe s k x := (dbe_eq h.eq x (by omega)).symm
    unfold whe
    simp only
    rw [m1, show b + x - b = x by omega, eB, n1]
    rw [hx, show k + x - k = x by omega] at h2
    rw [if_neg]
    rintro ⟨⟨g1, g2, g3, g4⟩, g5, g6, g7⟩
    rcases h.at_ (e := x) (by omega) with ⟨a1, a2⟩ | ⟨a1, a2, -⟩ | ⟨a1, a2, -⟩
    · rw [a2] at g4
      obtain ⟨y, hy⟩ : ∃ y, ru s (dbe s k x) (k + x + 1) true (k + x + 1) = k + x + 1 + y := ⟨ru s (dbe s k x) (k + x + 1) true (k + x + 1) - (k + x + 1), by have := ru_lo s (dbe s k x) (k + x + 1) true; omega⟩
      by_cases hy0 : y = 0
      · have m2 := h.mru g6 true (a := x + 1) (e := x + 1) (by omega) (by omega) (by rw [← Nat.add_assoc, hy, hy0])
        rw [← Nat.add_assoc] at m2
        omega
      · exact h2 ⟨⟨by omega, by omega, by omega, g4⟩, g5, g6, by omega⟩
    · rw [a2] at g4; exact absurd g4 (by decide)
    · omega
theorem bke_is {s : ByteArray} {a n K j L : Nat} (hn : n = ru s 10 a true a) (hK : K = ru s 10 (n + 1) true (n + 1)) (hj : j = exb s (K + 1)) (hL : L = ru s 10 j true j) :
    bke s a = if a < n ∧ n < s.size ∧ bt s n = 46 then (if K = n + 1 then a else if K < s.size ∧ ise (bt s K) = true then (if j < L then L else K) else K) else a := by
  unfold bke
  simp only
  rw [← hn, ← hK, ← hj, ← hL]
/-- A float that no inner byte stands behind. -/
theorem Sim.mbke (h : Sim s k t b M) {e : Nat} (he : e ≤ M) (h0 : e ≠ 0) (hb : bke s k = k + e) (hi : ¬ (k + e < s.size ∧ inn (bt s (k + e)) = true)) : bke t b = b + e := by
  have hs := h.hs
  have ht := h.ht
  have r0 : ∀ (x : Nat), x ≤ M → ru s 10 k true k = k + x → ru t 10 b true b = b + x := fun x hx hr => h.mru (a := 0) (by omega) true (Nat.zero_le _) hx hr
  obtain ⟨n, hn⟩ : ∃ n, n = ru s 10 k true k := ⟨_, rfl⟩
  obtain ⟨K, hK⟩ : ∃ K, K = ru s 10 (n + 1) true (n + 1) := ⟨_, rfl⟩
  obtain ⟨j, hj⟩ : ∃ j, j = exb s (K + 1) := ⟨_, rfl⟩
  obtain ⟨L, hL⟩ : ∃ L, L = ru s 10 j true j := ⟨_, rfl⟩
  have hc := bke_is hn hK hj hL
  rw [hb] at hc
  by_cases c1 : k < n ∧ n < s.size ∧ bt s n = 46
  · rw [if_pos c1] at hc
    by_cases c2 : K = n + 1
    · rw [if_pos c2] at hc; omega
    · rw [if_neg c2] at hc
      have hKl : n + 1 ≤ K := by rw [hK]; exact ru_lo s 10 (n + 1) true
      have hjl : K + 1 ≤ j := by rw [hj]; unfold exb; split <;> omega
      have hKe : K ≤ k + e := by
        split at hc
        · split at hc <;> omega
        · omega
      obtain ⟨x, rfl⟩ : ∃ x, n = k + x := ⟨n - k, by omega⟩
      obtain ⟨y, rfl⟩ : ∃ y, K = k + y := ⟨K - k, by omega⟩
      have n1 := r0 x (by omega) hn.symm
      have e0 := h.eq x (by omega)
      have K1 := h.mru (B := 10) (by omega) true (a := x + 1) (e := y) (by omega) (by omega) (by rw [← Nat.add_assoc]; exact hK.symm)
      rw [← Nat.add_assoc] at K1
      rw [bke_is n1.symm K1.symm rfl rfl, if_pos ⟨by omega, by omega, by rw [← e0]; exact c1.2.2⟩, if_neg (by omega)]
      by_cases c3 : k + y < s.size ∧ ise (bt s (k + y)) = true
      · rw [if_pos c3] at hc
        by_cases c4 : j < L
        · rw [if_pos c4] at hc
          have e1 := h.eq y (by omega)
          have e2 := h.eq (y + 1) (by omega)
          rw [← Nat.add_assoc, ← Nat.add_assoc] at e2
          obtain ⟨z, rfl⟩ : ∃ z, j = k + z := ⟨j - k, by omega⟩
          have j1 : exb t (b + y + 1) = b + z := by
            unfold exb at hj ⊢
            rw [← e2]
            split
            · rename_i c5; rw [if_pos c5] at hj; omega
            · rename_i c5; rw [if_neg c5] at hj; omega
          have L1 := h.mru (B := 10) (by omega) true (a := z) (e := e) (by omega) he (by rw [← hL]; exact hc.symm)
          rw [if_pos ⟨by omega, by rw [← e1]; exact c3.2⟩, j1, L1, if_pos (by omega)]
        · rw [if_neg c4] at hc
          exfalso
          refine hi ⟨by omega, ?_⟩
          have e1 : k + e = k + y := by omega
          rw [e1]
          have := c3.2
          unfold ise at this
          simp only [Bool.or_eq_true, beq_iff_eq] at this
          rcases this with h' | h' <;> rw [h'] <;> decide
      · rw [if_neg c3] at hc
        have hye : y = e := by omega
        subst hye
        rw [if_neg]
        rintro ⟨g1, g2⟩
        rcases h.at_ (e := y) he with ⟨a1, a2⟩ | ⟨a1, a2, -⟩ | ⟨a1, a2, -⟩
        · rw [a2] at g2
          exact c3 ⟨by omega, g2⟩
        · rw [a2] at g2; exact absurd g2 (by decide)
        · omega
  · rw [if_neg c1] at hc; omega
/-- No float stands where a whole number's token does. -/
theorem Sim.mbke0 (h : Sim s k t b M) {e : Nat} (he : e ≤ M) (hw : whe s k = k + e) (hb : bke s k = k) : bke t b = b := by
  have hs := h.hs
  have ht := h.ht
  obtain ⟨n, hn⟩ : ∃ n, n = ru s 10 k true k := ⟨_, rfl⟩
  obtain ⟨K, hK⟩ : ∃ K, K = ru s 10 (n + 1) true (n + 1) := ⟨_, rfl⟩
  obtain ⟨j, hj⟩ : ∃ j, j = exb s (K + 1) := ⟨_, rfl⟩
  obtain ⟨L, hL⟩ : ∃ L, L = ru s 10 j true j := ⟨_, rfl⟩
  have hc := bke_is hn hK hj hL
  rw [hb] at hc
  have hnl : k ≤ n := by rw [hn]; exact ru_lo s 10 k true
  have hne : n ≤ k + e := by rw [hn, ← hw]; exact whe_n s k
  have hKl : n + 1 ≤ K := by rw [hK]; exact ru_lo s 10 (n + 1) true
  have hjl : K + 1 ≤ j := by rw [hj]; unfold exb; split <;> omega
  obtain ⟨x, rfl⟩ : ∃ x, n = k + x := ⟨n - k, by omega⟩
  have n1 : ru t 10 b true b = b + x := h.mru (a := 0) (by omega) true (Nat.zero_le _) (by omega) hn.symm
  rw [bke_is n1.symm rfl rfl rfl]
  by_cases c1 : b < b + x ∧ b + x < t.size ∧ bt t (b + x) = 46
  · rw [if_pos c1]
    rcases h.at_ (e := x) (by omega) with ⟨a1, a2⟩ | ⟨a1, a2, -⟩ | ⟨a1, a2, -⟩
    · have c2 : k < k + x ∧ k + x < s.size ∧ bt s (k + x) = 46 := ⟨by omega, by omega, by rw [← a2]; exact c1.2.2⟩
      rw [if_pos c2] at hc
      have hK2 : K = k + x + 1 := by
        apply Classical.byContradiction
        intro h'
        rw [if_neg h'] at hc
        split at hc
        · split at hc <;> omega
        · omega
      have K1 := h.mru (B := 10) (by omega) true (a := x + 1) (e := x + 1) (by omega) (by omega) (by rw [← Nat.add_assoc, ← hK]; omega)
      rw [← Nat.add_assoc] at K1
      rw [K1, if_pos rfl]
    · rw [a2] at c1; exact absurd c1.2.2 (by decide)
    · omega
  · rw [if_neg c1]
theorem ix_lt {s : ByteArray} {c : Int} {k e : Nat} (hk : k ≤ s.size) (he : e ≤ s.size) : ix s c k < e ↔ ∃ i, k ≤ i ∧ i < e ∧ bt s i = c := by
  obtain ⟨h1, h2, h3, h4⟩ := ix_spec s c _ k (Nat.le_refl _) hk
  constructor
  · intro h; exact ⟨_, h1, h, h4 (by omega)⟩
  · rintro ⟨i, i1, i2, i3⟩
    apply Classical.byContradiction
    intro h
    exact h3 i i1 (by omega) i3
theorem inn10 : inn 10 = false := by decide
theorem inn0 : inn 0 = false := by decide
/-- A number's token. -/
theorem Sim.mnum (h : Sim s k t b M) {e : Nat} {K : Int} (he : e ≤ M) (hK : K ≠ 0) (hn : num s k = (K, k + e)) : num t b = (K, b + e) := by
  have hs := h.hs
  have ht := h.ht
  unfold num at hn
  by_cases c1 : ne s k = k ∨ (ne s k < s.size ∧ inn (bt s (ne s k)) = true)
  · rw [if_pos c1] at hn
    exact absurd (congrArg Prod.fst hn).symm hK
  rw [if_neg c1] at hn
  by_cases c2 : bke s k = k ∧ ne s k < s.size ∧ bt s (ne s k) = 35 ∧ ¬ ix s 35 k < ne s k
  · rw [if_pos c2] at hn
    exact absurd (congrArg Prod.fst hn).symm hK
  rw [if_neg c2] at hn
  have hne : ne s k = k + e := congrArg Prod.snd hn
  have hKe : (if bke s k = k then (3 : Int) else 4) = K := congrArg Prod.fst hn
  rw [hne] at c1 c2
  have e0 : e ≠ 0 := fun h' => c1 (.inl (by omega))
  have hi : ¬ (k + e < s.size ∧ inn (bt s (k + e)) = true) := fun h' => c1 (.inr h')
  have hit : ¬ (b + e < t.size ∧ inn (bt t (b + e)) = true) := by
    rintro ⟨g1, g2⟩
    rcases h.at_ he with ⟨a1, a2⟩ | ⟨a1, a2, -⟩ | ⟨a1, a2, -⟩
    · rw [a2] at g2; exact hi ⟨by omega, g2⟩
    · rw [a2, inn10] at g2; cases g2
    · omega
  by_cases hbk : bke s k = k
  · have hw : whe s k = k + e := by unfold ne at hne; rw [if_pos hbk] at hne; exact hne
    have b1 := h.mbke0 he hw hbk
    have w1 := h.mwhe he hw
    have n1 : ne t b = b + e := by unfold ne; rw [if_pos b1]; exact w1
    unfold num
    rw [n1, if_neg (by rintro (g | g); omega; exact hit g), if_neg, b1, if_pos rfl]
    · rw [if_pos hbk] at hKe; rw [hKe]
    · rintro ⟨-, g2, g3, g4⟩
      rcases h.at_ he with ⟨a1, a2⟩ | ⟨a1, a2, -⟩ | ⟨a1, a2, -⟩
      · rw [a2] at g3
        refine c2 ⟨hbk, by omega, g3, fun g5 => g4 ?_⟩
        rw [ix_lt (by omega) (by omega)] at g5 ⊢
        obtain ⟨i, i1, i2, i3⟩ := g5
        have := h.eq (i - k) (by omega)
        rw [show k + (i - k) = i by omega] at this
        exact ⟨b + (i - k), by omega, by omega, by rw [← this]; exact i3⟩
      · rw [a2] at g3; exact absurd g3 (by decide)
      · omega
  · have hb : bke s k = k + e := by unfold ne at hne; rw [if_neg hbk] at hne; exact hne
    have b1 := h.mbke he e0 hb hi
    have b2 : ¬ bke t b = b := by omega
    have n1 : ne t b = b + e := by unfold ne; rw [if_neg b2]; exact b1
    unfold num
    rw [n1, if_neg (by rintro (g | g); omega; exact hit g), if_neg (fun g => b2 g.1), if_neg b2]
    rw [if_neg hbk] at hKe; rw [hKe]
end Go.Proofs.YtbjgoigdhijbgaaDoor
/- One token: where it ends, and that it hangs on its own bytes and what stands behind them alone. -/
namespace Go.Proofs.YtbjgoigdhijbgaaDoor
open Go.RowKit Go.PlainAid

variable {s t : ByteArray} {k b M : Nat}
theorem bl10 : bl 10 = true := by decide
theorem bl0 : bl 0 = false := by decide
theorem tb_bl {c : Int} (h : tb c = true) : bl c = true := by
  unfold tb at h; unfold bl
  simp only [Bool.or_eq_true, beq_iff_eq] at h ⊢
  omega
theorem drop_take_eq (h : ∀ j, j < M → bt s (k + j) = bt t (b + j)) (hs : k + M ≤ s.size) (ht : b + M ≤ t.size) : (s.data.toList.drop k).take M = (t.data.toList.drop b).take M := by
  apply List.ext_getElem?
  intro i
  by_cases hi : i < M
  · have e := h i hi
    have h1 : k + i < s.size := by omega
    have h2 : b + i < t.size := by omega
    rw [← get_bt s (k + i) h1, ← get_bt t (b + i) h2] at e
    have e2 : s[k + i] = t[b + i] := UInt8.toNat_inj.1 (by omega)
    rw [List.getElem?_take_of_lt hi, List.getElem?_take_of_lt hi, List.getElem?_drop, List.getElem?_drop]
    rw [List.getElem?_eq_getElem (by rw [Array.length_toList]; exact h1), List.getElem?_eq_getElem (by rw [Array.length_toList]; exact h2)]
    exact congrArg some e2
  · rw [List.getElem?_eq_none (by rw [List.length_take]; omega), List.getElem?_eq_none (by rw [List.length_take]; omega)]
theorem ext_eq {e : Nat} (h : ∀ j, j < e → bt s (k + j) = bt t (b + j)) (hs : k + e ≤ s.size) (ht : b + e ≤ t.size) : s.extract k (k + e) = t.extract b (b + e) := by
  have := drop_take_eq h hs ht
  have e1 : ∀ (u : ByteArray) (a : Nat), (u.extract a (a + e)).data.toList = (u.data.toList.drop a).take e := fun u a => by
    rw [ByteArray.data_extract, Array.toList_extract, List.extract_eq_take_drop, Nat.add_sub_cancel_left]
  rw [← e1, ← e1] at this
  have h2 := Array.toList_inj.1 this
  generalize s.extract k (k + e) = x at h2
  generalize t.extract b (b + e) = y at h2
  cases x; cases y
  simp only at h2
  rw [h2]
/-- No sign has a newline. -/
theorem sg_no10 : ∀ i : Fin 37, (sg i.val).all (· != 10) = true := by decide +kernel
theorem pre_cut {g l l' : List UInt8} {M : Nat} (ht : l.take M = l'.take M) : g.length ≤ M → g.isPrefixOf l = g.isPrefixOf l' := by
  intro h
  rw [Bool.eq_iff_iff, List.isPrefixOf_iff_prefix, List.isPrefixOf_iff_prefix, List.prefix_iff_eq_take, List.prefix_iff_eq_take]
  have e : l.take g.length = l'.take g.length := by
    have := congrArg (List.take g.length) ht
    rw [List.take_take, List.take_take, Nat.min_eq_left h] at this
    exact this
  rw [e]
theorem pre_long {g l : List UInt8} {M : Nat} (hg : g.all (· != 10) = true) (hs : l.drop M = [] ∨ (l.drop M).head? = some 10) (hM : M ≤ l.length) (hp : g.isPrefixOf l = true) : g.length ≤ M := by
  apply Classical.byContradiction
  intro h
  rw [List.isPrefixOf_iff_prefix] at hp
  obtain ⟨r, rfl⟩ := hp
  rcases hs with hs | hs
  · have := congrArg List.length hs
    rw [List.length_drop, List.length_append, List.length_nil] at this
    omega
  · rw [List.head?_drop, List.getElem?_append_left (by omega)] at hs
    have hm : (10 : UInt8) ∈ g := List.mem_of_getElem? hs
    have := List.all_eq_true.1 hg 10 hm
    simp at this
/-- The longest sign. -/
theorem lgf_cut {l l' : List UInt8} {M : Nat} (ht : l.take M = l'.take M) (hM : M ≤ l.length) (hM' : M ≤ l'.length) (hs : l'.drop M = [] ∨ (l'.drop M).head? = some 10) : ∀ m, m ≤ 37 → lgf l m ≤ M → lgf l m ≠ 0 → lgf l' m = lgf l m
  | 0, _, _, h => absurd rfl h
  | m + 1, hm, h1, h2 => by
    have hg := sg_no10 ⟨36 - m, by omega⟩
    have hl := (sg_facts ⟨36 - m, by omega⟩).1
    simp only at hg hl
    unfold lgf at h1 h2 ⊢
    by_cases hp : (sg (36 - m)).isPrefixOf l = true
    · rw [if_pos hp] at h1 h2 ⊢
      rw [if_pos]
      rw [← pre_cut ht h1]; exact hp
    · rw [if_neg hp] at h1 h2 ⊢
      rw [if_neg]
      · exact lgf_cut ht hM hM' hs m (by omega) h1 h2
      · intro hp'
        have h3 := pre_long hg hs hM' hp'
        rw [← pre_cut ht h3] at hp'
        exact hp hp'
theorem lgf_len (l : List UInt8) : ∀ m, m ≤ 37 → lgf l m ≤ l.length
  | 0, _ => Nat.zero_le _
  | m + 1, h => by
    unfold lgf
    split
    · rename_i hp; exact prefix_len hp
    · exact lgf_len l m (by omega)
theorem Sim.mlg (h : Sim s k t b M) (h1 : lgL (s.data.toList.drop k) ≤ M) (h2 : lgL (s.data.toList.drop k) ≠ 0) : lgL (t.data.toList.drop b) = lgL (s.data.toList.drop k) := by
  have hs := h.hs
  have ht := h.ht
  have es : s.data.toList.length = s.size := by rw [Array.length_toList]; rfl
  have et : t.data.toList.length = t.size := by rw [Array.length_toList]; rfl
  refine lgf_cut (M := M) (drop_take_eq h.eq hs ht) (by rw [List.length_drop]; omega) (by rw [List.length_drop]; omega) ?_ 37 (Nat.le_refl _) h1 h2
  rw [List.drop_drop]
  rcases h.stop with ⟨g1, g2⟩ | ⟨g1, g2⟩
  · right
    rw [List.head?_drop, List.getElem?_eq_getElem (by omega)]
    have := get_bt t (b + M) g1
    rw [g2] at this
    exact congrArg some (UInt8.toNat_inj.1 (show (t[b + M]).toNat = (10 : UInt8).toNat by show (t[b + M]).toNat = 10; omega))
  · left
    exact List.drop_of_length_le (by omega)
/-- A char. -/
theorem Sim.mche (h : Sim s k t b M) {e : Nat} (he : e ≤ M) (h0 : che s k ≠ 0) (hc : che s k = k + e) : che t b = b + e := by
  have hs := h.hs
  have ht := h.ht
  unfold che at h0 hc
  by_cases c1 : k + 1 < s.size ∧ bt s (k + 1) = 92
  · rw [if_pos c1] at h0 hc
    by_cases c2 : 0 ≤ (esc s (k + 1)).1
    · rw [if_pos c2] at h0 hc
      have h2 : (esc s (k + 1)).2 ≠ 0 := fun h' => by
        have hpt : isPt (mnt s (k + 1 + 1)).1 = true := by
          apply Classical.byContradiction
          intro h''
          unfold esc at c2
          rw [if_pos c1, if_neg h''] at c2
          exact absurd c2 (by decide)
        unfold esc at h'
        rw [if_pos c1, if_pos hpt] at h'
        simp only at h'; omega
      have m1 := h.mesc (a := 1) c2 (by omega)
      have e1 := h.eq 1 (by omega)
      unfold che
      rw [if_pos ⟨by omega, by rw [← e1]; exact c1.2⟩, m1, if_pos c2]
      omega
    · rw [if_neg c2] at h0; exact absurd rfl h0
  · rw [if_neg c1] at h0 hc
    by_cases c2 : nc s (k + 1) ≤ 32 ∨ nc s (k + 1) = 127
    · rw [if_pos c2] at h0; exact absurd rfl h0
    · rw [if_neg c2] at h0 hc
      have hl := nl_pos s (k + 1)
      obtain ⟨n1, n2⟩ := h.mnc (p := 1) (by omega) (by omega)
      have e1 := h.eq 1 (by omega)
      have k1 : k + 1 < s.size := by omega
      unfold che
      rw [if_neg (by rintro ⟨g1, g2⟩; exact c1 ⟨k1, by rw [e1]; exact g2⟩), n1, n2, if_neg c2]
      omega
/-- A comment. -/
theorem Sim.mcom (h : Sim s k t b M) {e : Nat} (he : e ≤ M) (h37 : bt s k = 37) (hc : tr s k (ix s 10 k) = k + e) : tr t b (ix t 10 b) = b + e := by
  have hs := h.hs
  have ht := h.ht
  by_cases hk : k < s.size
  · obtain ⟨i1, i2, i3, i4⟩ := ix_spec s 10 _ k (Nat.le_refl _) (by omega)
    obtain ⟨g1, g2, g3, g4⟩ := tr_spec s k (ix s 10 k)
    have hkE : k < ix s 10 k := by
      apply Classical.byContradiction
      intro h'
      have e1 : ix s 10 k = k := by omega
      have := i4 (by omega)
      rw [e1, h37] at this
      exact absurd this (by decide)
    rw [hc] at g1 g2 g3 g4
    have ge : 0 < e := by
      have h' := g2 (by omega)
      apply Classical.byContradiction
      intro h''
      have := g3 k (by omega) hkE
      rw [h37] at this
      exact absurd this (by decide)
    obtain ⟨E, hE⟩ : ∃ E, ix s 10 k = k + E := ⟨ix s 10 k - k, by omega⟩
    rw [hE] at i2 i3 i4 g1 g3 hkE
    have e1 := h.eq (e - 1) (by omega)
    by_cases hEM : E < M
    · have ei := h.eq E hEM
      have it : ix t 10 b = b + E := ix_is (by omega) (by omega) (fun i h1 h2 => by
        have := h.eq (i - b) (by omega)
        rw [show b + (i - b) = i by omega] at this
        rw [← this]; exact i3 _ (by omega) (by omega)) (fun _ => by rw [← ei]; exact i4 (by omega))
      rw [it]
      refine tr_is (by omega) (by omega) (fun i h1 h2 => ?_) ?_
      · have := h.eq (i - b) (by omega)
        rw [show b + (i - b) = i by omega] at this
        rw [← this]; exact g3 _ (by omega) (by omega)
      · rw [show b + e - 1 = b + (e - 1) by omega, ← e1, show k + (e - 1) = k + e - 1 by omega]
        exact g4 (by omega)
    · have it : ix t 10 b = b + M := ix_is (by omega) (by omega) (fun i h1 h2 => by
        have := h.eq (i - b) (by omega)
        rw [show b + (i - b) = i by omega] at this
        rw [← this]; exact i3 _ (by omega) (by omega)) (fun h1 => by
          rcases h.stop with ⟨-, h2⟩ | ⟨h2, -⟩
          · exact h2
          · omega)
      rw [it]
      refine tr_is (by omega) (by omega) (fun i h1 h2 => ?_) ?_
      · have := h.eq (i - b) (by omega)
        rw [show b + (i - b) = i by omega] at this
        rw [← this]; exact g3 _ (by omega) (by omega)
      · rw [show b + e - 1 = b + (e - 1) by omega, ← e1, show k + (e - 1) = k + e - 1 by omega]
        exact g4 (by omega)
  · rw [bt_end s (by omega)] at h37
    exact absurd h37 (by decide)
theorem fw_lt {p : Int → Bool} {s : ByteArray} {k : Nat} : k < fw p s k ↔ (k < s.size ∧ p (bt s k) = true) := by
  constructor
  · intro h
    have h1 : k < s.size := by
      apply Classical.byContradiction
      intro h'
      rw [fw_end h'] at h; omega
    refine ⟨h1, ?_⟩
    exact fw_all p s k k (Nat.le_refl _) h
  · rintro ⟨h1, h2⟩
    rw [fw_go h1 h2]
    have := fw_ge p s (k + 1)
    omega
/-- The kind that a token has in the other text: a point that a newline comes behind ends a form. -/
def kd2 (s : ByteArray) (k M : Nat) (K : Int) : Int := if K = 9 ∧ bt s k = 46 ∧ M = 1 then 10 else K
/-- A TOKEN. -/
theorem Sim.one (h : Sim s k t b M) {e : Nat} {K : Int} (he : e ≤ M) (h0 : 0 < e) (hK : K ≠ 0) (ho : one s k = (K, k + e)) : one t b = (kd2 s k M K, b + e) := by
  have hs := h.hs
  have ht := h.ht
  have e0 := h.eq 0 (by omega)
  simp only [Nat.add_zero] at e0
  have tkn : ∀ {kd : Int} {x : Nat}, tk kd x = (K, k + e) → x = k + e ∧ kd = K := fun {kd x} hx => by
    unfold tk at hx
    split at hx
    · exact absurd (congrArg Prod.fst hx).symm hK
    · exact ⟨congrArg Prod.snd hx, congrArg Prod.fst hx⟩
  have tke : ∀ {kd : Int} {x : Nat}, x ≠ 0 → tk kd x = (kd, x) := fun {kd x} hx => by unfold tk; rw [if_neg hx]
  have kde : K ≠ 9 → kd2 s k M K = K := fun hh => by unfold kd2; rw [if_neg (fun h' => hh h'.1)]
  unfold Go.Proofs.YtbjgoigdhijbgaaDoor.one at ho ⊢
  rw [← e0]
  by_cases c1 : bt s k = 37
  · rw [if_pos c1] at ho ⊢
    have h1 := congrArg Prod.fst ho
    simp only at h1
    rw [h.mcom he c1 (congrArg Prod.snd ho), kde (by omega), ← h1]
  rw [if_neg c1] at ho ⊢
  by_cases c2 : bt s k = 46 ∧ (k + 1 = s.size ∨ bt s (k + 1) = 37 ∨ k + 1 < fw bl s (k + 1))
  · rw [if_pos c2] at ho
    have h1 := congrArg Prod.fst ho
    have h2 := congrArg Prod.snd ho
    simp only at h1 h2
    have he1 : e = 1 := by omega
    subst he1
    rw [if_pos, kde (by omega), ← h1]
    refine ⟨c2.1, ?_⟩
    rcases h.at_ (e := 1) he with ⟨a1, a2⟩ | ⟨a1, a2, a3⟩ | ⟨a1, a2, -⟩
    · rw [a2]
      rcases c2.2 with g | g | g
      · omega
      · exact .inr (.inl g)
      · refine .inr (.inr ?_)
        rw [fw_lt] at g ⊢
        exact ⟨by omega, by rw [a2]; exact g.2⟩
    · refine .inr (.inr ?_)
      rw [fw_lt]
      exact ⟨a3, by rw [a2]; exact bl10⟩
    · exact .inl a2
  rw [if_neg c2] at ho
  by_cases c46 : bt s k = 46
  · have b46 : beg 46 = 0 := by decide
    rw [if_neg (by rw [c46, b46]; decide), if_neg (by rw [c46, b46]; decide), if_neg (by rw [c46]; decide), if_neg (by rw [c46]; decide), if_neg (by rw [c46]; decide), if_neg (by rw [c46]; decide)] at ho
    by_cases c0 : lgL (s.data.toList.drop k) = 0
    · rw [if_pos c0] at ho; exact absurd (congrArg Prod.fst ho).symm hK
    rw [if_neg c0] at ho
    have h1 := congrArg Prod.fst ho
    have h2 := congrArg Prod.snd ho
    simp only at h1 h2
    have hl := h.mlg (by omega) c0
    rcases h.at_ (e := 1) (by omega) with ⟨a1, a2⟩ | ⟨a1, a2, a3⟩ | ⟨a1, a2, a4, -⟩
    · have hkd : kd2 s k M K = K := by unfold kd2; rw [if_neg (by omega)]
      rw [if_neg, if_neg (by rw [c46, b46]; decide), if_neg (by rw [c46, b46]; decide), if_neg (by rw [c46]; decide), if_neg (by rw [c46]; decide), if_neg (by rw [c46]; decide), if_neg (by rw [c46]; decide), hl, if_neg c0, hkd, ← h1]
      · exact congrArg (Prod.mk 9) (by omega)
      · rintro ⟨-, g⟩
        refine c2 ⟨c46, ?_⟩
        rw [a2] at g
        rcases g with g | g | g
        · omega
        · exact .inr (.inl g)
        · refine .inr (.inr ?_)
          rw [fw_lt] at g ⊢
          exact ⟨by omega, by rw [← a2]; exact g.2⟩
    · have hkd : kd2 s k M K = 10 := by unfold kd2; rw [if_pos ⟨h1.symm, c46, a1.symm⟩]
      rw [if_pos ⟨c46, .inr (.inr (by rw [fw_lt]; exact ⟨a3, by rw [a2]; exact bl10⟩))⟩, hkd]
      exact congrArg (Prod.mk 10) (by omega)
    · exfalso
      exact c2 ⟨c46, .inl (by omega)⟩
  rw [if_neg (fun g => c46 g.1)]
  by_cases c3 : beg (bt s k) = 3
  · rw [if_pos c3] at ho ⊢
    have hk3 : K = 3 ∨ K = 4 := by
      unfold num at ho
      split at ho
      · exact absurd (congrArg Prod.fst ho).symm hK
      · split at ho
        · exact absurd (congrArg Prod.fst ho).symm hK
        · have := congrArg Prod.fst ho
          simp only at this
          split at this <;> omega
    rw [h.mnum he hK ho, kde (by omega)]
  rw [if_neg c3] at ho ⊢
  by_cases c4 : 0 < beg (bt s k)
  · rw [if_pos c4] at ho ⊢
    have h1 := congrArg Prod.fst ho
    have h2 := congrArg Prod.snd ho
    simp only at h1 h2
    have f := h.mfw (p := inn) inn10 (a := 0) (Nat.zero_le _) he h2
    simp only [Nat.add_zero] at f
    have hx := ext_eq (e := e) (fun j hj => h.eq j (by omega)) (by omega) (by omega)
    rw [f, ← hx]
    rw [h2] at h1
    rw [h1, kde]
    have := beg_range (bt s k)
    split at h1 <;> omega
  rw [if_neg c4] at ho ⊢
  by_cases c5 : bt s k = 39
  · rw [if_pos c5] at ho ⊢
    obtain ⟨h1, h2⟩ := tkn ho
    have := h.mqe 39 _ 1 (Nat.le_refl _) e h1 (by omega) he
    rw [this, tke (by omega), h2, kde (by omega)]
  rw [if_neg c5] at ho ⊢
  by_cases c6 : bt s k = 34
  · rw [if_pos c6] at ho ⊢
    obtain ⟨h1, h2⟩ := tkn ho
    have := h.mqe 34 _ 1 (Nat.le_refl _) e h1 (by omega) he
    rw [this, tke (by omega), h2, kde (by omega)]
  rw [if_neg c6] at ho ⊢
  by_cases c7 : bt s k = 36
  · rw [if_pos c7] at ho ⊢
    obtain ⟨h1, h2⟩ := tkn ho
    rw [h.mche he (by omega) h1, tke (by omega), h2, kde (by omega)]
  rw [if_neg c7] at ho ⊢
  by_cases c8 : bt s k = 63
  · rw [if_pos c8] at ho ⊢
    by_cases c9 : fst (bt s (mcb s k)) = true
    · rw [if_pos c9] at ho
      have h1 := congrArg Prod.fst ho
      have h2 := congrArg Prod.snd ho
      simp only at h1 h2
      have hi : inn (bt s (mcb s k)) = true := by
        unfold fst at c9
        simp only [Bool.or_eq_true, Bool.and_eq_true, decide_eq_true_eq, beq_iff_eq] at c9
        refine inn_of_beg ?_
        unfold beg
        split
        · decide
        · rw [if_pos (by omega)]; decide
      have hsz : mcb s k < s.size := by
        apply Classical.byContradiction
        intro h'
        rw [bt_end s (by omega), inn0] at hi; cases hi
      have hlt : mcb s k < k + e := by rw [← h2, fw_lt]; exact ⟨hsz, hi⟩
      obtain ⟨x, hx⟩ : ∃ x, mcb s k = k + x := ⟨mcb s k - k, by unfold mcb; split <;> omega⟩
      have hx1 : 1 ≤ x := by unfold mcb at hx; split at hx <;> omega
      have ex := h.eq x (by omega)
      have e1 := h.eq 1 (by omega)
      have hm : mcb t b = b + x := by
        unfold mcb at hx ⊢
        rw [← e1]
        split
        · rename_i g; rw [if_pos g] at hx; omega
        · rename_i g; rw [if_neg g] at hx; omega
      rw [hx] at c9 h2
      have f := h.mfw (p := inn) inn10 (a := x) (by omega) he h2
      rw [hm, ← ex, if_pos c9, f, ← h1, h1, kde (by omega)]
    · rw [if_neg c9] at ho; exact absurd (congrArg Prod.fst ho).symm hK
  rw [if_neg c8] at ho ⊢
  by_cases c0 : lgL (s.data.toList.drop k) = 0
  · rw [if_pos c0] at ho; exact absurd (congrArg Prod.fst ho).symm hK
  rw [if_neg c0] at ho
  have h1 := congrArg Prod.fst ho
  have h2 := congrArg Prod.snd ho
  simp only at h1 h2
  have hl := h.mlg (by omega) c0
  have hkd : kd2 s k M K = K := by unfold kd2; rw [if_neg (fun g => c46 g.2.1)]
  rw [hl, if_neg c0, hkd, ← h1]
  exact congrArg (Prod.mk 9) (by omega)
end Go.Proofs.YtbjgoigdhijbgaaDoor
/- All tokens of a text; what is valid within a valid text; a token by itself. -/
namespace Go.Proofs.YtbjgoigdhijbgaaDoor
open Go.RowKit Go.PlainAid

variable {s t : ByteArray} {k b M : Nat}
theorem esc_size {s : ByteArray} {k : Nat} (h : 0 ≤ (esc s k).1) : 1 < (esc s k).2 ∧ k + (esc s k).2 ≤ s.size := by
  have hin : k < s.size ∧ bt s k = 92 := by
    apply Classical.byContradiction
    intro h'
    unfold esc at h
    rw [if_neg h'] at h
    exact absurd h (by decide)
  have hpt : isPt (mnt s (k + 1)).1 = true := by
    apply Classical.byContradiction
    intro h'
    unfold esc at h
    rw [if_pos hin, if_neg h'] at h
    exact absurd h (by decide)
  have he : esc s k = ((mnt s (k + 1)).1, 1 + (mnt s (k + 1)).2) := by unfold esc; rw [if_pos hin, if_pos hpt]
  rw [he]
  simp only
  have hm : 0 ≤ (mnt s (k + 1)).1 := by
    unfold isPt at hpt
    have := of_decide_eq_true hpt
    omega
  have hs : ∀ {j : Nat} {c : Int}, bt s j = c → c ≠ 0 → j < s.size := fun {j c} h1 h2 => by
    apply Classical.byContradiction
    intro h'
    rw [bt_end s (by omega)] at h1
    exact h2 h1.symm
  clear he h hpt
  unfold mnt at hm ⊢
  by_cases c1 : 0 < rc s 8 3 (k + 1)
  · rw [if_pos c1]
    have := rc_in s 8 (by omega) 3 (k + 1) (by omega)
    simp only; omega
  rw [if_neg c1] at hm ⊢
  by_cases c2 : bt s (k + 1) = 120
  · rw [if_pos c2] at hm ⊢
    have k1 := hs c2 (by decide)
    unfold hxd at hm ⊢
    by_cases c3 : bt s (k + 1 + 1) = 123
    · rw [if_pos c3] at hm ⊢
      by_cases c4 : rc s 16 6 (k + 1 + 2) = 0 ∨ bt s (k + 1 + 2 + rc s 16 6 (k + 1 + 2)) ≠ 125
      · rw [if_pos c4] at hm; exact absurd hm (by decide)
      · rw [if_neg c4]
        have k2 := hs (Classical.byContradiction fun h' => c4 (.inr h')) (by decide)
        simp only; omega
    · rw [if_neg c3] at hm ⊢
      by_cases c4 : rc s 16 2 (k + 1 + 1) < 2
      · rw [if_pos c4] at hm; exact absurd hm (by decide)
      · rw [if_neg c4]
        have := rc_in s 16 (by omega) 2 (k + 1 + 1) (by omega)
        simp only; omega
  rw [if_neg c2] at hm ⊢
  by_cases c3 : bt s (k + 1) = 94
  · rw [if_pos c3] at hm ⊢
    unfold ctl at hm ⊢
    split
    · rename_i c4
      have k2 : k + 1 + 1 < s.size := by
        apply Classical.byContradiction
        intro h'
        rw [bt_end s (by omega)] at c4; omega
      simp only; omega
    · rename_i c4; rw [if_neg c4] at hm; exact absurd hm (by decide)
  rw [if_neg c3] at hm ⊢
  by_cases c4 : s.size ≤ k + 1 ∨ nc s (k + 1) < 32
  · rw [if_pos c4] at hm; exact absurd hm (by decide)
  · rw [if_neg c4]
    have h1 := nl_in s (k + 1) (by omega)
    have h2 := nl_pos s (k + 1)
    split <;> (simp only; omega)
theorem whe_bd (s : ByteArray) (a : Nat) (h : a ≤ s.size) : a ≤ whe s a ∧ whe s a ≤ s.size := by
  have h1 := ru_lo s 10 a true
  have h2 := whe_n s a
  refine ⟨by omega, ?_⟩
  rcases whe_cases s a with ⟨m, B, r, -, -, hr, -, -, h3, -, -, -, -, h8⟩ | ⟨h8, -⟩
  · rw [h8, hr]; exact ru_hi s B (m + 1) true (by omega)
  · rw [h8]; exact ru_hi s 10 a true h
theorem bke_bd (s : ByteArray) (a : Nat) (h : a ≤ s.size) : a ≤ bke s a ∧ bke s a ≤ s.size := by
  obtain ⟨n, hn⟩ : ∃ n, n = ru s 10 a true a := ⟨_, rfl⟩
  obtain ⟨K, hK⟩ : ∃ K, K = ru s 10 (n + 1) true (n + 1) := ⟨_, rfl⟩
  obtain ⟨j, hj⟩ : ∃ j, j = exb s (K + 1) := ⟨_, rfl⟩
  obtain ⟨L, hL⟩ : ∃ L, L = ru s 10 j true j := ⟨_, rfl⟩
  rw [bke_is hn hK hj hL]
  by_cases c1 : a < n ∧ n < s.size ∧ bt s n = 46
  · rw [if_pos c1]
    have h1 : n + 1 ≤ K := by rw [hK]; exact ru_lo s 10 (n + 1) true
    have h2 : K ≤ s.size := by rw [hK]; exact ru_hi s 10 (n + 1) true (by omega)
    by_cases c2 : K = n + 1
    · rw [if_pos c2]; exact ⟨Nat.le_refl _, h⟩
    · rw [if_neg c2]
      by_cases c3 : K < s.size ∧ ise (bt s K) = true
      · rw [if_pos c3]
        have hjl : K + 1 ≤ j := by rw [hj]; unfold exb; split <;> omega
        have hjs : j ≤ s.size := by
          rw [hj]; unfold exb
          split
          · rename_i c4
            have : K + 1 < s.size := by
              apply Classical.byContradiction
              intro h'
              rw [bt_end s (by omega)] at c4; omega
            omega
          · omega
        have h3 : j ≤ L := by rw [hL]; exact ru_lo s 10 j true
        have h4 : L ≤ s.size := by rw [hL]; exact ru_hi s 10 j true hjs
        split <;> omega
      · rw [if_neg c3]; omega
  · rw [if_neg c1]; exact ⟨Nat.le_refl _, h⟩
/-- A token lies within the text. -/
theorem one_bd {s : ByteArray} {k : Nat} (hk : k < s.size) (h : (one s k).1 ≠ 0) : k < (one s k).2 ∧ (one s k).2 ≤ s.size := by
  have tkb : ∀ {kd : Int} {x : Nat}, (tk kd x).1 ≠ 0 → (x ≠ 0 ∧ (tk kd x).2 = x) := fun {kd x} hx => by
    unfold tk at hx ⊢
    split
    · rename_i h'; rw [if_pos h'] at hx; exact absurd rfl hx
    · exact ⟨by assumption, rfl⟩
  have hib : ∀ {j : Nat}, 0 < beg (bt s j) → j < s.size ∧ inn (bt s j) = true := fun {j} hj => by
    refine ⟨?_, inn_of_beg hj⟩
    apply Classical.byContradiction
    intro h'
    rw [bt_end s (by omega)] at hj
    exact absurd hj (by decide)
  unfold one at h ⊢
  by_cases c1 : bt s k = 37
  · rw [if_pos c1]
    simp only
    obtain ⟨i1, i2, i3, i4⟩ := ix_spec s 10 _ k (Nat.le_refl _) (by omega)
    obtain ⟨g1, g2, g3, g4⟩ := tr_spec s k (ix s 10 k)
    have hkE : k < ix s 10 k := by
      apply Classical.byContradiction
      intro h'
      have e1 : ix s 10 k = k := by omega
      have := i4 (by omega)
      rw [e1, c1] at this
      exact absurd this (by decide)
    have g5 := g2 i1
    refine ⟨?_, by omega⟩
    apply Classical.byContradiction
    intro h''
    have := g3 k (by omega) hkE
    rw [c1] at this
    exact absurd this (by decide)
  rw [if_neg c1] at h ⊢
  by_cases c2 : bt s k = 46 ∧ (k + 1 = s.size ∨ bt s (k + 1) = 37 ∨ k + 1 < fw bl s (k + 1))
  · rw [if_pos c2]; simp only; omega
  rw [if_neg c2] at h ⊢
  by_cases c3 : beg (bt s k) = 3
  · rw [if_pos c3] at h ⊢
    unfold num at h ⊢
    by_cases d1 : ne s k = k ∨ (ne s k < s.size ∧ inn (bt s (ne s k)) = true)
    · rw [if_pos d1] at h; exact absurd rfl h
    rw [if_neg d1] at h ⊢
    by_cases d2 : bke s k = k ∧ ne s k < s.size ∧ bt s (ne s k) = 35 ∧ ¬ ix s 35 k < ne s k
    · rw [if_pos d2] at h; exact absurd rfl h
    rw [if_neg d2]
    simp only
    have h1 := whe_bd s k (by omega)
    have h2 := bke_bd s k (by omega)
    have h3 : ne s k ≠ k := fun h' => d1 (.inl h')
    unfold ne at h3 ⊢
    split
    · rename_i d3; rw [if_pos d3] at h3; omega
    · rename_i d3; omega
  rw [if_neg c3] at h ⊢
  by_cases c4 : 0 < beg (bt s k)
  · rw [if_pos c4]
    simp only
    exact ⟨fw_lt.2 (hib c4), fw_le inn s k (by omega)⟩
  rw [if_neg c4] at h ⊢
  by_cases c5 : bt s k = 39
  · rw [if_pos c5] at h ⊢
    obtain ⟨t1, t2⟩ := tkb h
    rw [t2]
    rcases qx_bd s 39 _ (k + 1) (Nat.le_refl _) with g | g
    · exact absurd g t1
    · omega
  rw [if_neg c5] at h ⊢
  by_cases c6 : bt s k = 34
  · rw [if_pos c6] at h ⊢
    obtain ⟨t1, t2⟩ := tkb h
    rw [t2]
    rcases qx_bd s 34 _ (k + 1) (Nat.le_refl _) with g | g
    · exact absurd g t1
    · omega
  rw [if_neg c6] at h ⊢
  by_cases c7 : bt s k = 36
  · rw [if_pos c7] at h ⊢
    obtain ⟨t1, t2⟩ := tkb h
    rw [t2]
    unfold che at t1 ⊢
    by_cases d1 : k + 1 < s.size ∧ bt s (k + 1) = 92
    · rw [if_pos d1] at t1 ⊢
      by_cases d2 : 0 ≤ (esc s (k + 1)).1
      · rw [if_pos d2]
        have := esc_size d2
        omega
      · rw [if_neg d2] at t1; exact absurd rfl t1
    · rw [if_neg d1] at t1 ⊢
      by_cases d2 : nc s (k + 1) ≤ 32 ∨ nc s (k + 1) = 127
      · rw [if_pos d2] at t1; exact absurd rfl t1
      · rw [if_neg d2]
        have h1 := nc_in (s := s) (k := k + 1) (by omega)
        have h2 : nl s (k + 1) = ln (bt s (k + 1)) := by unfold nl; rw [if_neg (by omega)]
        omega
  rw [if_neg c7] at h ⊢
  by_cases c8 : bt s k = 63
  · rw [if_pos c8] at h ⊢
    by_cases c9 : fst (bt s (mcb s k)) = true
    · rw [if_pos c9]
      simp only
      have hb : 0 < beg (bt s (mcb s k)) := by
        unfold fst at c9
        simp only [Bool.or_eq_true, Bool.and_eq_true, decide_eq_true_eq, beq_iff_eq] at c9
        unfold beg
        split
        · decide
        · rw [if_pos (by omega)]; decide
      obtain ⟨g1, g2⟩ := hib hb
      have := fw_ge inn s (mcb s k)
      have := fw_le inn s (mcb s k) (by omega)
      have : k + 1 ≤ mcb s k := by unfold mcb; split <;> omega
      omega
    · rw [if_neg c9] at h; exact absurd rfl h
  rw [if_neg c8] at h ⊢
  by_cases c0 : lgL (s.data.toList.drop k) = 0
  · rw [if_pos c0] at h; exact absurd rfl h
  rw [if_neg c0]
  have := lgf_len (s.data.toList.drop k) 37 (Nat.le_refl _)
  rw [List.length_drop, Array.length_toList] at this
  have e : s.data.size = s.size := rfl
  have h3 : lgL (s.data.toList.drop k) ≤ s.size - k := by rw [← e]; exact this
  simp only; omega
/-- ALL TOKENS from byte k on, where none is a blank: kind, beginning, end. -/
def sc (s : ByteArray) (k : Nat) : Option (List (Int × Nat × Nat)) :=
  if _h : k < s.size ∧ (one s k).1 ≠ 0 then (sc s (fw bl s (one s k).2)).map (fun l => ((one s k).1, k, (one s k).2) :: l)
  else if k < s.size then none else some []
termination_by s.size - k
decreasing_by
  have h1 := one_bd _h.1 _h.2
  have h2 := fw_ge bl s (one s k).2
  omega
theorem sc_go (hk : k < s.size) (h : (one s k).1 ≠ 0) : sc s k = (sc s (fw bl s (one s k).2)).map (fun l => ((one s k).1, k, (one s k).2) :: l) := by rw [sc, dif_pos ⟨hk, h⟩]
theorem sc_bad (hk : k < s.size) (h : (one s k).1 = 0) : sc s k = none := by rw [sc, dif_neg (fun g => g.2 h), if_pos hk]
theorem sc_end (hk : ¬ k < s.size) : sc s k = some [] := by rw [sc, dif_neg (fun g => hk g.1), if_neg hk]
end Go.Proofs.YtbjgoigdhijbgaaDoor
/- A token by itself, tokens with newlines between, and two texts with a newline between. -/
namespace Go.Proofs.YtbjgoigdhijbgaaDoor
open Go.RowKit Go.PlainAid

variable {s t : ByteArray} {k b M : Nat}
theorem nc_cont {s : ByteArray} {k x : Nat} (h : ¬ nc s k < 0) (h1 : 1 ≤ x) (h2 : x < nl s k) : 128 ≤ bt s (k + x) := by
  have e : nl s k = ln (bt s k) := by unfold nl; rw [if_neg h]
  rw [e] at h2
  have ho : okn s k (ln (bt s k) - 1) = true := by
    apply Classical.byContradiction
    intro h'
    have hj : jv s k (ln (bt s k)) = -1 := by unfold jv; rw [if_neg h']
    unfold nc at h
    split at h
    · exact h (by decide)
    · rw [hj] at h
      split at h
      · exact h (by decide)
      · split at h <;> exact h (by decide)
  exact (okn_all _ ho x h1 (by omega)).1
/-- Behind a valid beginning an ASCII byte is one again. -/
theorem vd_lead {s : ByteArray} {p : Nat} (hp : p < s.size) (ha : bt s p < 128) : ∀ m k, p - k ≤ m → k ≤ p → vd s k = true → vd s p = true := by
  intro m
  induction m with
  | zero => intro k h1 h2 h3; rw [show p = k by omega]; exact h3
  | succ m ih =>
    intro k h1 h2 h3
    by_cases e : k = p
    · rw [← e]; exact h3
    · have hk : k < s.size := by omega
      have hn : ¬ nc s k < 0 := fun h' => by rw [vd_bad hk h'] at h3; cases h3
      rw [vd_go hk hn] at h3
      have hl := nl_pos s k
      refine ih (k + nl s k) (by omega) ?_ h3
      apply Classical.byContradiction
      intro h'
      have := nc_cont hn (x := p - k) (by omega) (by omega)
      rw [show k + (p - k) = p by omega] at this
      omega
/-- What stands between a valid beginning and an ASCII byte, or the end, is valid. -/
theorem vd_mid {s : ByteArray} {a e : Nat} (he : e ≤ s.size) (hb : e = s.size ∨ bt s e < 128) : ∀ m i, e - (a + i) ≤ m → a + i ≤ e → vd s (a + i) = true → vd (s.extract a e) i = true := by
  intro m
  induction m with
  | zero => intro i h1 h2 _; exact vd_end (by rw [size_ext s a e he]; omega)
  | succ m ih =>
    intro i h1 h2 h3
    by_cases hi : a + i < e
    · have hk : a + i < s.size := by omega
      have hn : ¬ nc s (a + i) < 0 := fun h' => by rw [vd_bad hk h'] at h3; cases h3
      rw [vd_go hk hn] at h3
      have hl := nl_pos s (a + i)
      have hz := nl_in s (a + i) hk
      have hin : a + i + nl s (a + i) ≤ e := by
        apply Classical.byContradiction
        intro h'
        rcases hb with hb | hb
        · omega
        · have := nc_cont hn (x := e - (a + i)) (by omega) (by omega)
          rw [show a + i + (e - (a + i)) = e by omega] at this
          omega
      have hln : nl s (a + i) = ln (bt s (a + i)) := by unfold nl; rw [if_neg hn]
      have hsz := size_ext s a e he
      have b0 := bt_ext s a e i he hi
      have hc : nc (s.extract a e) i = nc s (a + i) := nc_congr b0 (by omega) (by omega) (fun x hx => by
        rw [bt_ext s a e (i + x) he (by omega), ← Nat.add_assoc])
      have hn2 : nl (s.extract a e) i = nl s (a + i) := by unfold nl; rw [hc, b0]
      rw [vd_go (by omega) (by rw [hc]; exact hn), hn2]
      exact ih (i + nl s (a + i)) (by omega) (by omega) (by rw [← Nat.add_assoc]; exact h3)
    · exact vd_end (by rw [size_ext s a e he]; omega)
theorem sg_ascii : ∀ i : Fin 37, decide (((sg i.val).headD 0).toNat < 128) = true := by decide +kernel
theorem lgf_ascii (l : List UInt8) : ∀ m, m ≤ 37 → lgf l m ≠ 0 → ∃ x l', l = x :: l' ∧ x.toNat < 128
  | 0, _, h => absurd rfl h
  | m + 1, hm, h => by
    unfold lgf at h
    by_cases hp : (sg (36 - m)).isPrefixOf l = true
    · have h1 := (sg_facts ⟨36 - m, by omega⟩).1
      have h2 := of_decide_eq_true (sg_ascii ⟨36 - m, by omega⟩)
      simp only at h1 h2
      match hg : sg (36 - m), h1, h2, hp with
      | x :: g, _, h2, hp =>
        match l, hp with
        | y :: l', hp =>
          simp only [List.isPrefixOf, Bool.and_eq_true, beq_iff_eq] at hp
          exact ⟨y, l', rfl, by rw [← hp.1]; exact h2⟩
    · rw [if_neg hp] at h
      exact lgf_ascii l m (by omega) h
/-- A token begins with an ASCII byte. -/
theorem one_ascii {s : ByteArray} {k : Nat} (hk : k < s.size) (h : (one s k).1 ≠ 0) : bt s k < 128 := by
  apply Classical.byContradiction
  intro h'
  have hb : beg (bt s k) = 0 := beg_none (by omega)
  unfold one at h
  rw [if_neg (by omega), if_neg (by omega), if_neg (by rw [hb]; decide), if_neg (by rw [hb]; decide), if_neg (by omega), if_neg (by omega), if_neg (by omega), if_neg (by omega)] at h
  by_cases c0 : lgL (s.data.toList.drop k) = 0
  · rw [if_pos c0] at h; exact absurd rfl h
  · obtain ⟨x, l', e1, e2⟩ := lgf_ascii _ 37 (Nat.le_refl _) c0
    have hl : k < s.data.toList.length := by rw [Array.length_toList]; exact hk
    have e3 : s.data.toList.drop k = s.data.toList[k] :: s.data.toList.drop (k + 1) := List.drop_eq_getElem_cons hl
    rw [e3] at e1
    have e4 : s.data.toList[k] = x := (List.cons.inj e1).1
    have := get_bt s k hk
    have e5 : (s[k]'hk) = x := e4
    rw [e5] at this
    omega
theorem bl_ascii {c : Int} (h : bl c = true) : c < 128 := by
  unfold bl at h
  simp only [Bool.or_eq_true, beq_iff_eq] at h
  omega
abbrev Tk3 := Int × Nat × Nat
theorem sc_cons {s : ByteArray} {k : Nat} {x : Tk3} {l : List Tk3} (h : sc s k = some (x :: l)) : k < s.size ∧ one s k = (x.1, x.2.2) ∧ x.2.1 = k ∧ x.1 ≠ 0 ∧ k < x.2.2 ∧ x.2.2 ≤ s.size ∧ sc s (fw bl s x.2.2) = some l := by
  by_cases hk : k < s.size
  · by_cases h0 : (one s k).1 = 0
    · rw [sc_bad hk h0] at h; cases h
    · have hb := one_bd hk h0
      rw [sc_go hk h0] at h
      obtain ⟨l', h1, h2⟩ := Option.map_eq_some_iff.1 h
      obtain ⟨rfl, rfl⟩ := List.cons.inj h2
      exact ⟨hk, rfl, rfl, h0, hb.1, hb.2, h1⟩
  · rw [sc_end hk] at h; cases h
theorem sc_nil {s : ByteArray} {k : Nat} (h : sc s k = some []) : ¬ k < s.size := by
  intro hk
  by_cases h0 : (one s k).1 = 0
  · rw [sc_bad hk h0] at h; cases h
  · rw [sc_go hk h0] at h
    obtain ⟨l', h1, h2⟩ := Option.map_eq_some_iff.1 h
    cases h2
/-- Behind a token stands an ASCII byte, or the end. -/
theorem behind {s : ByteArray} {e : Nat} {l : List Tk3} (he : e ≤ s.size) (h : sc s (fw bl s e) = some l) : e = s.size ∨ bt s e < 128 := by
  by_cases hk : e < s.size
  · right
    cases hb : bl (bt s e)
    · rw [fw_stop hb] at h
      match l, h with
      | [], h => exact absurd hk (sc_nil h)
      | x :: l, h =>
        obtain ⟨h1, h2, h3, h4, -⟩ := sc_cons h
        exact one_ascii hk (by rw [h2]; exact h4)
    · exact bl_ascii hb
  · left; omega
theorem bt_one (t : ByteArray) : bt (t ++ ⟨#[10]⟩) t.size = 10 := by
  have := bt_app_r t ⟨#[10]⟩ 0
  rw [Nat.add_zero] at this
  rw [this]; decide
/-- A TOKEN WITH A NEWLINE BEHIND, put behind something: it is that token. -/
theorem sim_put (s y r : ByteArray) {a e : Nat} (ha : a ≤ e) (he : e ≤ s.size) : Sim s a (y ++ (s.extract a e ++ (⟨#[10]⟩ ++ r))) y.size (e - a) := by
  have hz := size_ext s a e he
  have h1 : (⟨#[10]⟩ : ByteArray).size = 1 := rfl
  have hs : (y ++ (s.extract a e ++ (⟨#[10]⟩ ++ r))).size = y.size + (e - a + (1 + r.size)) := by rw [ByteArray.size_append, ByteArray.size_append, ByteArray.size_append, hz, h1]
  refine ⟨fun j hj => ?_, by omega, by omega, .inl ⟨by omega, ?_⟩⟩
  · rw [bt_app_r, bt_app_l _ _ _ (by omega), bt_ext s a e j he (by omega)]
  · rw [bt_app_r]
    have := bt_app_r (s.extract a e) (⟨#[10]⟩ ++ r) 0
    rw [hz, Nat.add_zero] at this
    rw [this, bt_app_l _ _ _ (by rw [h1]; omega)]
    decide
theorem vd10 : vd ⟨#[10]⟩ 0 = true := by
  rw [vd_go (by decide) (by decide +kernel)]
  exact vd_end (by decide +kernel)
theorem fw_at {s : ByteArray} {k : Nat} (h : fw bl s k < s.size) : bl (bt s (fw bl s k)) = false := fw_not bl s k h
theorem sim_own (s : ByteArray) {a e : Nat} (ha : a ≤ e) (he : e ≤ s.size) : Sim s a (s.extract a e ++ ⟨#[10]⟩) 0 (e - a) := by
  have hz := size_ext s a e he
  have hs : (s.extract a e ++ (⟨#[10]⟩ : ByteArray)).size = e - a + 1 := by rw [ByteArray.size_append, hz]; rfl
  refine ⟨fun j hj => ?_, by omega, by omega, .inl ⟨by omega, ?_⟩⟩
  · rw [Nat.zero_add, bt_app_l _ _ _ (by omega), bt_ext s a e j he (by omega)]
  · have := bt_one (s.extract a e)
    rw [hz] at this
    rw [Nat.zero_add]; exact this
theorem own_tok {s : ByteArray} {a e : Nat} {K : Int} (hv : vd s a = true) (ha : a < e) (he : e ≤ s.size) (ho : one s a = (K, e)) (hK : K ≠ 0) (hb : e = s.size ∨ bt s e < 128) (hn : bl (bt s a) = false) :
    vd (s.extract a e ++ ⟨#[10]⟩) 0 = true ∧ sc (s.extract a e ++ ⟨#[10]⟩) (fw bl (s.extract a e ++ ⟨#[10]⟩) 0) = some [(kd2 s a (e - a) K, 0, e - a)] := by
  have hz := size_ext s a e he
  have hsz : (s.extract a e ++ (⟨#[10]⟩ : ByteArray)).size = e - a + 1 := by rw [ByteArray.size_append, hz]; rfl
  have hS := sim_own s (Nat.le_of_lt ha) he
  refine ⟨vd_both (vd_mid he hb _ 0 (Nat.le_refl _) (by omega) hv) vd10, ?_⟩
  have e0 := hS.eq 0 (by omega)
  rw [Nat.add_zero, Nat.add_zero] at e0
  have f0 : fw bl (s.extract a e ++ ⟨#[10]⟩) 0 = 0 := fw_stop (by rw [← e0]; exact hn)
  have h1 := hS.one (e := e - a) (K := K) (Nat.le_refl _) (by omega) hK (by rw [ho, show a + (e - a) = e by omega])
  rw [Nat.zero_add] at h1
  have hk2 : kd2 s a (e - a) K ≠ 0 := by unfold kd2; split; decide; exact hK
  have f1 : fw bl (s.extract a e ++ ⟨#[10]⟩) (e - a) = e - a + 1 := by
    refine fw_is (by omega) (by omega) (fun i h2 h3 => ?_) (fun h2 => by omega)
    have : i = (s.extract a e).size := by omega
    rw [this, bt_one]; exact bl10
  rw [f0, sc_go (by omega) (by rw [h1]; exact hk2), h1]
  simp only
  rw [f1, sc_end (by omega)]
  rfl
/-- Tokens with newlines behind each. -/
def nlj (s : ByteArray) : List Tk3 → ByteArray
  | [] => ⟨#[]⟩
  | x :: l => s.extract x.2.1 x.2.2 ++ (⟨#[10]⟩ ++ nlj s l)
def rel (s : ByteArray) : Nat → List Tk3 → List Tk3
  | _, [] => []
  | p, x :: l => (kd2 s x.2.1 (x.2.2 - x.2.1) x.1, p, p + (x.2.2 - x.2.1)) :: rel s (p + (x.2.2 - x.2.1) + 1) l
theorem app_assoc3 (y a c d : ByteArray) : y ++ (a ++ (c ++ d)) = (y ++ (a ++ c)) ++ d := by
  apply ByteArray.ext
  simp [ByteArray.data_append, Array.append_assoc]
theorem blanks_sc {s : ByteArray} : ∀ (l : List Tk3) (k : Nat) (y : ByteArray), sc s k = some l → (k < s.size → bl (bt s k) = false) → sc (y ++ nlj s l) y.size = some (rel s y.size l)
  | [], k, y, h, _ => by
    rw [sc_end (by rw [ByteArray.size_append]; show ¬ y.size < y.size + 0; omega)]; rfl
  | x :: l, k, y, h, hb => by
    obtain ⟨h1, h2, h3, h4, h5, h6, h7⟩ := sc_cons h
    obtain ⟨K, a, e⟩ := x
    simp only at h2 h3 h4 h5 h6 h7
    subst h3
    have hz := size_ext s a e h6
    have h10 : (⟨#[10]⟩ : ByteArray).size = 1 := rfl
    have hS := sim_put s y (nlj s l) (Nat.le_of_lt h5) h6
    have hsz : (y ++ (s.extract a e ++ (⟨#[10]⟩ ++ nlj s l))).size = y.size + (e - a + (1 + (nlj s l).size)) := by rw [ByteArray.size_append, ByteArray.size_append, ByteArray.size_append, hz, h10]
    have o1 := hS.one (e := e - a) (K := K) (Nat.le_refl _) (by omega) h4 (by rw [h2, show a + (e - a) = e by omega])
    have hk2 : kd2 s a (e - a) K ≠ 0 := by unfold kd2; split; decide; exact h4
    have ih := blanks_sc l (fw bl s e) (y ++ (s.extract a e ++ ⟨#[10]⟩)) h7 (fun hk => fw_at hk)
    rw [← app_assoc3] at ih
    have hy : (y ++ (s.extract a e ++ (⟨#[10]⟩ : ByteArray))).size = y.size + (e - a) + 1 := by rw [ByteArray.size_append, ByteArray.size_append, hz, h10]; omega
    rw [hy] at ih
    show sc (y ++ (s.extract a e ++ (⟨#[10]⟩ ++ nlj s l))) y.size = some ((kd2 s a (e - a) K, y.size, y.size + (e - a)) :: rel s (y.size + (e - a) + 1) l)
    have f1 : fw bl (y ++ (s.extract a e ++ (⟨#[10]⟩ ++ nlj s l))) (y.size + (e - a)) = y.size + (e - a) + 1 := by
      have hst := hS.stop
      refine fw_is (by omega) (by omega) (fun i i1 i2 => ?_) (fun i1 => ?_)
      · rw [show i = y.size + (e - a) by omega]
        rcases hst with ⟨-, g⟩ | ⟨g, -⟩
        · rw [g]; exact bl10
        · omega
      · match l, ih, h7, i1, hsz with
        | [], ih, h7, i1, hsz =>
          have : (nlj s []).size = 0 := rfl
          omega
        | (K', a', e') :: l, ih, h7, i1, hsz =>
          obtain ⟨g1, g2, g3, g4, g5, g6, g7⟩ := sc_cons h7
          simp only at g2 g3 g5 g6
          have hb2 : bl (bt s a') = false := by rw [g3]; exact fw_at g1
          have hz2 := size_ext s a' e' g6
          rw [app_assoc3, ← hy]
          have := bt_app_r (y ++ (s.extract a e ++ (⟨#[10]⟩ : ByteArray))) (nlj s ((K', a', e') :: l)) 0
          rw [Nat.add_zero] at this
          rw [this]
          show bl (bt (s.extract a' e' ++ (⟨#[10]⟩ ++ nlj s l)) 0) = false
          rw [bt_app_l _ _ _ (by omega), bt_ext s a' e' 0 g6 (by omega), Nat.add_zero]
          exact hb2
    rw [sc_go (by omega) (by rw [o1]; exact hk2), o1]
    simp only
    rw [f1, ih]
    rfl
theorem vd_nlj {s : ByteArray} (hv : vd s 0 = true) : ∀ (l : List Tk3) (k : Nat), sc s k = some l → vd (nlj s l) 0 = true
  | [], _, _ => by
    show vd ⟨#[]⟩ 0 = true
    exact vd_end (by decide)
  | x :: l, k, h => by
    obtain ⟨h1, h2, h3, h4, h5, h6, h7⟩ := sc_cons h
    have ha := one_ascii h1 (by rw [h2]; exact h4)
    have hva : vd s x.2.1 = true := by rw [h3]; exact vd_lead h1 ha _ 0 (Nat.le_refl _) (Nat.zero_le _) hv
    have hb := behind h6 h7
    have v1 : vd (s.extract x.2.1 x.2.2) 0 = true := vd_mid h6 hb _ 0 (Nat.le_refl _) (by omega) hva
    show vd (s.extract x.2.1 x.2.2 ++ (⟨#[10]⟩ ++ nlj s l)) 0 = true
    exact vd_both v1 (vd_both vd10 (vd_nlj hv l _ h7))
/-- At the very end of a text a token's kind is the same. -/
theorem kd2_end {s : ByteArray} {k e : Nat} {K : Int} (h1 : one s k = (K, e)) (hk : k < s.size) : kd2 s k (s.size - k) K = K := by
  unfold kd2
  split
  · rename_i h
    exfalso
    have h2 : one s k = (10, k + 1) := by
      unfold one
      rw [if_neg (by rw [h.2.1]; decide), if_pos ⟨h.2.1, .inl (by omega)⟩]
    rw [h1] at h2
    have := congrArg Prod.fst h2
    simp only at this
    omega
  · rfl
def shf (n : Nat) (l : List Tk3) : List Tk3 := l.map fun x => (x.1, n + x.2.1, n + x.2.2)
/-- The second one's tokens, behind something. -/
theorem right_sc (y c : ByteArray) : ∀ (l : List Tk3) (k : Nat), k ≤ c.size → sc c k = some l → sc (y ++ c) (y.size + k) = some (shf y.size l)
  | [], k, hk, h => by
    have := sc_nil h
    rw [sc_end (by rw [ByteArray.size_append]; omega)]; rfl
  | x :: l, k, hk, h => by
    obtain ⟨h1, h2, h3, h4, h5, h6, h7⟩ := sc_cons h
    have hsz : (y ++ c).size = y.size + c.size := ByteArray.size_append
    have hS : Sim c k (y ++ c) (y.size + k) (c.size - k) := by
      refine ⟨fun j _ => ?_, by omega, by omega, .inr ⟨by omega, by omega⟩⟩
      rw [Nat.add_assoc, bt_app_r]
    have o1 := hS.one (e := x.2.2 - k) (K := x.1) (by omega) (by omega) h4 (by rw [h2, show k + (x.2.2 - k) = x.2.2 by omega])
    rw [kd2_end h2 h1, show y.size + k + (x.2.2 - k) = y.size + x.2.2 by omega] at o1
    have hf : fw bl (y ++ c) (y.size + x.2.2) = y.size + fw bl c x.2.2 := by
      have g1 := fw_ge bl c x.2.2
      have g2 := fw_le bl c x.2.2 h6
      refine fw_is (by omega) (by omega) (fun i i1 i2 => ?_) (fun i1 => ?_)
      · rw [show i = y.size + (i - y.size) by omega, bt_app_r]
        exact fw_all bl c x.2.2 _ (by omega) (by omega)
      · rw [bt_app_r]; exact fw_not bl c x.2.2 (by omega)
    rw [sc_go (by omega) (by rw [o1]; exact h4), o1]
    simp only
    rw [hf, right_sc y c l (fw bl c x.2.2) (fw_le bl c x.2.2 h6) h7]
    simp only [shf, List.map_cons, Option.map_some, h3]
/-- TWO TEXTS WITH A NEWLINE BETWEEN. -/
theorem join_sc (a c : ByteArray) (lc : List Tk3) (hc : sc c (fw bl c 0) = some lc) : ∀ (l : List Tk3) (p : Nat), p ≤ a.size → sc a (fw bl a p) = some l → sc ((a ++ ⟨#[10]⟩) ++ c) (fw bl ((a ++ ⟨#[10]⟩) ++ c) p) = some (l ++ shf (a.size + 1) lc) := by
  have h10 : (⟨#[10]⟩ : ByteArray).size = 1 := rfl
  have hya : (a ++ (⟨#[10]⟩ : ByteArray)).size = a.size + 1 := by rw [ByteArray.size_append, h10]
  have hsz : ((a ++ (⟨#[10]⟩ : ByteArray)) ++ c).size = a.size + 1 + c.size := by rw [ByteArray.size_append, hya]
  have hl : ∀ i, i < a.size → bt ((a ++ ⟨#[10]⟩) ++ c) i = bt a i := fun i hi => by rw [bt_app_l _ _ _ (by omega), bt_app_l _ _ _ hi]
  have hm : bt ((a ++ ⟨#[10]⟩) ++ c) a.size = 10 := by rw [bt_app_l _ _ _ (by omega)]; exact bt_one a
  have hr : ∀ i, bt ((a ++ ⟨#[10]⟩) ++ c) (a.size + 1 + i) = bt c i := fun i => by rw [← hya]; exact bt_app_r _ c i
  intro l
  induction l with
  | nil =>
    intro p hp h
    have hn := sc_nil h
    have g0 := fw_le bl a p hp
    have g1 := fw_ge bl c 0
    have g2 := fw_le bl c 0 (Nat.zero_le _)
    have hf : fw bl ((a ++ ⟨#[10]⟩) ++ c) p = a.size + 1 + fw bl c 0 := by
      refine fw_is (by omega) (by omega) (fun i i1 i2 => ?_) (fun i1 => ?_)
      · by_cases c1 : i < a.size
        · rw [hl i c1]; exact fw_all bl a p i i1 (by omega)
        · by_cases c2 : i = a.size
          · rw [c2, hm]; exact bl10
          · rw [show i = a.size + 1 + (i - (a.size + 1)) by omega, hr]
            exact fw_all bl c 0 _ (Nat.zero_le _) (by omega)
      · rw [hr]; exact fw_not bl c 0 (by omega)
    rw [hf]
    have := right_sc (a ++ ⟨#[10]⟩) c lc (fw bl c 0) g2 hc
    rw [hya] at this
    exact this
  | cons x l ih =>
    intro p hp h
    obtain ⟨h1, h2, h3, h4, h5, h6, h7⟩ := sc_cons h
    have hf : fw bl ((a ++ ⟨#[10]⟩) ++ c) p = fw bl a p := by
      refine fw_is (fw_ge bl a p) (by omega) (fun i i1 i2 => ?_) (fun i1 => ?_)
      · rw [hl i (by omega)]; exact fw_all bl a p i i1 i2
      · rw [hl _ h1]; exact fw_not bl a p h1
    obtain ⟨q, hq⟩ : ∃ q, q = fw bl a p := ⟨_, rfl⟩
    rw [hf]
    rw [← hq] at h1 h2 h3 h5 ⊢
    have hS : Sim a q ((a ++ ⟨#[10]⟩) ++ c) q (a.size - q) := by
      refine ⟨fun j hj => (hl (q + j) (by omega)).symm, by omega, by omega, .inl ⟨by omega, ?_⟩⟩
      rw [show q + (a.size - q) = a.size by omega]; exact hm
    have o1 := hS.one (e := x.2.2 - q) (K := x.1) (by omega) (by omega) h4 (by rw [h2, show q + (x.2.2 - q) = x.2.2 by omega])
    rw [kd2_end h2 h1, show q + (x.2.2 - q) = x.2.2 by omega] at o1
    rw [sc_go (by omega) (by rw [o1]; exact h4), o1]
    simp only
    rw [ih x.2.2 h6 h7]
    simp only [Option.map_some, List.cons_append, ← h3]
theorem vd_join {a c : ByteArray} (ha : vd a 0 = true) (hc : vd c 0 = true) : vd ((a ++ ⟨#[10]⟩) ++ c) 0 = true := vd_both (vd_both ha vd10) hc
end Go.Proofs.YtbjgoigdhijbgaaDoor
/- The same by counting down, for texts that are known. -/
namespace Go.Proofs.YtbjgoigdhijbgaaDoor
open Go.RowKit Go.PlainAid

def fwF (p : Int → Bool) (s : ByteArray) : Nat → Nat → Nat
  | 0, k => k
  | m + 1, k => if k < s.size then (if p (bt s k) = true then fwF p s m (k + 1) else k) else k
theorem fw_F (p : Int → Bool) (s : ByteArray) : ∀ m k, s.size - k ≤ m → fw p s k = fwF p s m k
  | 0, k, h => by rw [fw_end (by omega)]; rfl
  | m + 1, k, h => by
    simp only [fwF]
    by_cases hk : k < s.size
    · rw [if_pos hk]
      cases hp : p (bt s k)
      · rw [fw_stop hp, if_neg Bool.false_ne_true]
      · rw [fw_go hk hp, if_pos rfl]; exact fw_F p s m (k + 1) (by omega)
    · rw [fw_end hk, if_neg hk]
def ixF (s : ByteArray) (c : Int) : Nat → Nat → Nat
  | 0, _ => s.size
  | m + 1, k => if k < s.size then (if bt s k = c then k else ixF s c m (k + 1)) else s.size
theorem ix_F (s : ByteArray) (c : Int) : ∀ m k, s.size - k ≤ m → ix s c k = ixF s c m k
  | 0, k, h => by rw [ix, dif_neg (by omega)]; rfl
  | m + 1, k, h => by
    simp only [ixF]
    rw [ix]
    by_cases hk : k < s.size
    · rw [dif_pos hk, if_pos hk, ix_F s c m (k + 1) (by omega)]
    · rw [dif_neg hk, if_neg hk]
def qxF (s : ByteArray) (q : Int) : Nat → Nat → Nat
  | 0, _ => 0
  | m + 1, k =>
    if k < s.size then
      (if bt s k = q then k + 1
       else if bt s k = 92 then (if nc s (k + 1) < 32 ∨ nc s (k + 1) = 127 then 0 else qxF s q m (k + 1 + nl s (k + 1)))
       else if nc s k < 32 ∨ nc s k = 127 then 0 else qxF s q m (k + nl s k))
    else 0
theorem qx_F (s : ByteArray) (q : Int) : ∀ m k, s.size - k ≤ m → qx s q k = qxF s q m k
  | 0, k, h => by rw [qx_end (by omega)]; rfl
  | m + 1, k, h => by
    simp only [qxF]
    have h1 := nl_pos s k
    have h2 := nl_pos s (k + 1)
    rw [qx]
    by_cases hk : k < s.size
    · rw [dif_pos hk, if_pos hk, qx_F s q m (k + 1 + nl s (k + 1)) (by omega), qx_F s q m (k + nl s k) (by omega)]
    · rw [dif_neg hk, if_neg hk]
def ruF (s : ByteArray) (b : Int) (a : Nat) (un : Bool) : Nat → Nat → Nat
  | 0, i => i
  | m + 1, i => if i < s.size then (if okk s b a un i = true then ruF s b a un m (i + 1) else i) else i
theorem ru_F (s : ByteArray) (b : Int) (a : Nat) (un : Bool) : ∀ m i, s.size - i ≤ m → ru s b a un i = ruF s b a un m i
  | 0, i, h => by rw [ru_end (by omega)]; rfl
  | m + 1, i, h => by
    simp only [ruF]
    rw [ru]
    by_cases hk : i < s.size
    · rw [dif_pos hk, if_pos hk, ru_F s b a un m (i + 1) (by omega)]
    · rw [dif_neg hk, if_neg hk]
def vdF (s : ByteArray) : Nat → Nat → Bool
  | 0, _ => true
  | m + 1, k => if k < s.size then (if nc s k < 0 then false else vdF s m (k + nl s k)) else true
theorem vd_F (s : ByteArray) : ∀ m k, s.size - k ≤ m → vd s k = vdF s m k
  | 0, k, h => by rw [vd_end (by omega)]; rfl
  | m + 1, k, h => by
    simp only [vdF]
    have h1 := nl_pos s k
    by_cases hk : k < s.size
    · rw [if_pos hk]
      by_cases hn : nc s k < 0
      · rw [vd_bad hk hn, if_pos hn]
      · rw [vd_go hk hn, if_neg hn, vd_F s m (k + nl s k) (by omega)]
    · rw [vd_end hk, if_neg hk]
def rF (s : ByteArray) (b : Int) (a : Nat) (un : Bool) : Nat := ruF s b a un s.size a
theorem r_F (s : ByteArray) (b : Int) (a : Nat) (un : Bool) : ru s b a un a = rF s b a un := ru_F s b a un s.size a (by omega)
def wheF (s : ByteArray) (a : Nat) : Nat :=
  let m := rF s 10 a false
  let n := rF s 10 a true
  let B := dbe s a (m - a)
  let r := rF s B (m + 1) true
  if (a < m ∧ m < a + 3 ∧ m < s.size ∧ bt s m = 35) ∧ 2 ≤ B ∧ B ≤ 36 ∧ m + 1 < r then r else n
def bkeF (s : ByteArray) (a : Nat) : Nat :=
  let n := rF s 10 a true
  let K := rF s 10 (n + 1) true
  let j := exb s (K + 1)
  let L := rF s 10 j true
  if a < n ∧ n < s.size ∧ bt s n = 46 then (if K = n + 1 then a else if K < s.size ∧ ise (bt s K) = true then (if j < L then L else K) else K) else a
theorem whe_F (s : ByteArray) (a : Nat) : whe s a = wheF s a := by unfold whe wheF; simp only [r_F]
theorem bke_F (s : ByteArray) (a : Nat) : bke s a = bkeF s a := by unfold bke bkeF; simp only [r_F]
def neF (s : ByteArray) (a : Nat) : Nat := if bkeF s a = a then wheF s a else bkeF s a
theorem ne_F (s : ByteArray) (a : Nat) : ne s a = neF s a := by unfold ne neF; simp only [bke_F, whe_F]
def numF (s : ByteArray) (a : Nat) : Int × Nat :=
  if neF s a = a ∨ (neF s a < s.size ∧ inn (bt s (neF s a)) = true) then (0, 0)
  else if bkeF s a = a ∧ neF s a < s.size ∧ bt s (neF s a) = 35 ∧ ¬ ixF s 35 s.size a < neF s a then (0, 0)
  else (if bkeF s a = a then 3 else 4, neF s a)
theorem num_F (s : ByteArray) (a : Nat) : num s a = numF s a := by unfold num numF; simp only [ne_F, bke_F, ix_F s 35 s.size a (by omega)]
def oneF (s : ByteArray) (k : Nat) : Int × Nat :=
  if bt s k = 37 then (11, tr s k (ixF s 10 s.size k))
  else if bt s k = 46 ∧ (k + 1 = s.size ∨ bt s (k + 1) = 37 ∨ k + 1 < fwF bl s s.size (k + 1)) then (10, k + 1)
  else if beg (bt s k) = 3 then numF s k
  else if 0 < beg (bt s k) then (if rs (s.extract k (fwF inn s s.size k)) = true then 8 else beg (bt s k), fwF inn s s.size k)
  else if bt s k = 39 then tk 1 (qxF s 39 s.size (k + 1))
  else if bt s k = 34 then tk 6 (qxF s 34 s.size (k + 1))
  else if bt s k = 36 then tk 5 (che s k)
  else if bt s k = 63 then (if fst (bt s (mcb s k)) = true then (7, fwF inn s s.size (mcb s k)) else (0, 0))
  else if lgL (s.data.toList.drop k) = 0 then (0, 0) else (9, k + lgL (s.data.toList.drop k))
theorem one_F (s : ByteArray) (k : Nat) : one s k = oneF s k := by
  unfold one oneF
  rw [ix_F s 10 s.size k (by omega), fw_F bl s s.size (k + 1) (by omega), num_F, fw_F inn s s.size k (by omega), qx_F s 39 s.size (k + 1) (by omega), qx_F s 34 s.size (k + 1) (by omega), fw_F inn s s.size (mcb s k) (by omega)]
def scF (s : ByteArray) : Nat → Nat → Option (List Tk3)
  | 0, _ => some []
  | m + 1, k => if k < s.size then (if (oneF s k).1 ≠ 0 then (scF s m (fwF bl s s.size (oneF s k).2)).map (fun l => ((oneF s k).1, k, (oneF s k).2) :: l) else none) else some []
theorem sc_F (s : ByteArray) : ∀ m k, s.size - k ≤ m → sc s k = scF s m k
  | 0, k, h => by rw [sc_end (by omega)]; rfl
  | m + 1, k, h => by
    simp only [scF]
    by_cases hk : k < s.size
    · rw [if_pos hk, ← one_F]
      by_cases h0 : (one s k).1 = 0
      · rw [sc_bad hk h0, if_neg (fun g => g h0)]
      · have h1 := one_bd hk h0
        have h2 := fw_ge bl s (one s k).2
        rw [sc_go hk h0, if_pos h0, sc_F s m _ (by omega), fw_F bl s s.size (one s k).2 (by omega)]
    · rw [sc_end hk, if_neg hk]
end Go.Proofs.YtbjgoigdhijbgaaDoor
