/-
  The contracts of the document's own Broken and Float.
-/
import Derived.Test.YtajjhhodpohfpaaDoorRefIntMath
import Derived.Test.YtajjhhodpohfpaaDoorLitFloat
namespace Go.Proofs.YtajjhhodpohfpaaDoor
open Go.RowKit Go.PlainAid

/-- Where the digits behind an exponent's e begin. -/
def exj (s : ByteArray) (k : Nat) : Nat := if bt s k = 43 ∨ bt s k = 45 then k + 1 else k
/-- Where a float ends that stands at the beginning; 0: none. -/
def brk (s : ByteArray) : Nat :=
  if 0 < ru s 10 0 true 0 ∧ ru s 10 0 true 0 < s.size ∧ bt s (ru s 10 0 true 0) = 46 then
    (if ru s 10 (ru s 10 0 true 0 + 1) true (ru s 10 0 true 0 + 1) = ru s 10 0 true 0 + 1 then 0
     else if ru s 10 (ru s 10 0 true 0 + 1) true (ru s 10 0 true 0 + 1) < s.size ∧ isE s (ru s 10 (ru s 10 0 true 0 + 1) true (ru s 10 0 true 0 + 1)) = true then
       (if exj s (ru s 10 (ru s 10 0 true 0 + 1) true (ru s 10 0 true 0 + 1) + 1) < ru s 10 (exj s (ru s 10 (ru s 10 0 true 0 + 1) true (ru s 10 0 true 0 + 1) + 1)) true (exj s (ru s 10 (ru s 10 0 true 0 + 1) true (ru s 10 0 true 0 + 1) + 1))
        then ru s 10 (exj s (ru s 10 (ru s 10 0 true 0 + 1) true (ru s 10 0 true 0 + 1) + 1)) true (exj s (ru s 10 (ru s 10 0 true 0 + 1) true (ru s 10 0 true 0 + 1) + 1))
        else ru s 10 (ru s 10 0 true 0 + 1) true (ru s 10 0 true 0 + 1))
     else ru s 10 (ru s 10 0 true 0 + 1) true (ru s 10 0 true 0 + 1))
  else 0
/-- The same by its pieces. -/
theorem brk_is {s : ByteArray} {n K j L : Nat} (hn : n = ru s 10 0 true 0) (hK : K = ru s 10 (n + 1) true (n + 1)) (hj : j = exj s (K + 1)) (hL : L = ru s 10 j true j) :
    brk s = if 0 < n ∧ n < s.size ∧ bt s n = 46 then (if K = n + 1 then 0 else if K < s.size ∧ isE s K = true then (if j < L then L else K) else K) else 0 := by
  unfold brk
  rw [← hn, ← hK, ← hj, ← hL]
theorem isE_dg {s : ByteArray} {i : Nat} (h : bt s i = 95 ∨ dg (bt s i) < 10) : isE s i = false := by
  cases he : isE s i
  · rfl
  · exfalso
    unfold isE at he
    have h2 : bt s i = 101 ∨ bt s i = 69 := by simpa [or_comm] using he
    have e1 : dg 101 = 14 := by decide
    have e2 : dg 69 = 14 := by decide
    rcases h2 with h2 | h2
    · rw [h2, e1] at h; omega
    · rw [h2, e2] at h; omega
theorem exq_run {s : ByteArray} {k j L : Nat} (hk : k ≤ s.size) (hj : j = exj s k) (hL : L = ru s 10 j true j) : exq s k = true ↔ (j < s.size ∧ L = s.size) := by
  have hjs : j ≤ s.size := by
    rw [hj]
    unfold exj
    split
    · rename_i h
      have : k < s.size := by
        apply Classical.byContradiction
        intro h'
        rw [bt_end s (by omega)] at h
        omega
      omega
    · exact hk
  have he : exq s k = fm s 10 s.size j false := by
    rw [hj]
    unfold exq exj
    by_cases h : bt s k = 43 ∨ bt s k = 45
    · rw [if_pos h, if_pos h]
    · rw [if_neg h, if_neg h]
  rw [he, fm_run (by omega) (Nat.le_refl _) hjs (.inl rfl), hL]
theorem dg_point : ¬ dg 46 < 10 := by decide
/-- What stands behind the point, by its pieces. -/
theorem flr_run {s : ByteArray} {n K j L : Nat} (hn : n < s.size) (hK : K = ru s 10 (n + 1) true (n + 1)) (hj : j = exj s (K + 1)) (hL : L = ru s 10 j true j) :
    flr (s.extract (n + 1) s.size) = true ↔ (n + 1 < K ∧ (K = s.size ∨ (K < s.size ∧ isE s K = true ∧ j < s.size ∧ L = s.size))) := by
  have hz : (s.extract (n + 1) s.size).size = s.size - (n + 1) := size_ext s (n + 1) s.size (Nat.le_refl _)
  have hE : ∀ i, isE (s.extract (n + 1) s.size) i = isE s (n + 1 + i) := fun i => by unfold isE; rw [bt_tail s (n + 1) i (by omega)]
  have hf : ∀ q, q ≤ s.size - (n + 1) → fm (s.extract (n + 1) s.size) 10 q 0 false = fm s 10 (n + 1 + q) (n + 1) false := fun q hq =>
    fm_congr (s := s.extract (n + 1) s.size) (t := s) q 0 (n + 1) false (by omega) (by omega) (fun x _ => by rw [bt_tail s (n + 1) _ (by omega)]; congr 1; omega)
  obtain ⟨R, hR⟩ : ∃ R, R = s.extract (n + 1) s.size := ⟨_, rfl⟩
  obtain ⟨k1, k2⟩ := ru_ge s 10 (n + 1) true s.size (n + 1) (by omega)
  rw [← hK] at k1 k2
  have k3 := k2 (by omega)
  have kd : ∀ i, n + 1 ≤ i → i < K → isE s i = false := fun i h1 h2 => by
    have ho := (ru_spec s 10 (n + 1) true s.size (n + 1) (by omega)).1 i h1 (by rw [← hK]; exact h2)
    apply isE_dg
    by_cases h95 : bt s i = 95
    · exact .inl h95
    · by_cases hd : dg (bt s i) < 10
      · exact .inr hd
      · rw [okk_none (by omega) hd h95] at ho; cases ho
  obtain ⟨x1, x2, x3, x4⟩ := ixe_spec (s.extract (n + 1) s.size) (s.size - (n + 1)) 0 (by omega) (by omega)
  obtain ⟨q, hq⟩ : ∃ q, q = ixe (s.extract (n + 1) s.size) 0 := ⟨_, rfl⟩
  have hfl : flr (s.extract (n + 1) s.size) = if q < s.size - (n + 1) then (fm s 10 (n + 1 + q) (n + 1) false && exq s (n + 1 + q + 1)) else fm s 10 s.size (n + 1) false := by
    unfold flr
    rw [← hq, hz]
    by_cases h : q < s.size - (n + 1)
    · rw [if_pos h, if_pos h, hf q (by omega), exq_tail s (n + 1) (q + 1) (by omega) (by omega)]
      rfl
    · rw [if_neg h, if_neg h, hf _ (Nat.le_refl _), show n + 1 + (s.size - (n + 1)) = s.size by omega]
  rw [← hq, hz] at x2 x4
  rw [← hq] at x3
  rw [hfl]
  clear hR hfl
  have hKq : K ≤ n + 1 + q := by
    apply Classical.byContradiction
    intro h
    have h1 := kd (n + 1 + q) (by omega) (by omega)
    rw [← hE] at h1
    rw [x4 (by omega)] at h1
    cases h1
  by_cases h : q < s.size - (n + 1)
  · rw [if_pos h]
    have hqE : isE s (n + 1 + q) = true := by rw [← hE]; exact x4 h
    have hq2 : bt s (n + 1 + q) = 101 ∨ bt s (n + 1 + q) = 69 := by
      unfold isE at hqE
      simpa [or_comm] using hqE
    have hend : ¬ dg (bt s (n + 1 + q)) < 10 ∧ bt s (n + 1 + q) ≠ 95 := by
      have e1 : dg 101 = 14 := by decide
      have e2 : dg 69 = 14 := by decide
      rcases hq2 with h2 | h2
      · rw [h2, e1]; omega
      · rw [h2, e2]; omega
    have hfr := fm_run (s := s) (b := 10) (a := n + 1) (p := n + 1 + q) (by omega) (by omega) (by omega) (.inr hend)
    rw [← hK] at hfr
    rw [Bool.and_eq_true, hfr]
    constructor
    · rintro ⟨⟨h1, h2⟩, h3⟩
      rw [← h2] at h3 hqE h1
      exact ⟨h1, .inr ⟨by omega, hqE, (exq_run (by omega) hj hL).1 h3⟩⟩
    · rintro ⟨h1, h2⟩
      have hKe : K = n + 1 + q := by
        rcases h2 with h2 | ⟨h2, h3, -⟩
        · omega
        · apply Classical.byContradiction
          intro h'
          have h4 := x3 (K - (n + 1)) (Nat.zero_le _) (by omega)
          rw [hE, show n + 1 + (K - (n + 1)) = K by omega, h3] at h4
          cases h4
      refine ⟨⟨by omega, hKe⟩, ?_⟩
      rw [← hKe]
      rcases h2 with h2 | ⟨h2, h3, h4⟩
      · omega
      · exact (exq_run (by omega) hj hL).2 h4
  · rw [if_neg h]
    have hfr := fm_run (s := s) (b := 10) (a := n + 1) (p := s.size) (by omega) (Nat.le_refl _) (by omega) (.inl rfl)
    rw [← hK] at hfr
    rw [hfr]
    constructor
    · rintro ⟨h1, h2⟩
      exact ⟨by omega, .inl h2⟩
    · rintro ⟨h1, h2⟩
      rcases h2 with h2 | ⟨h2, h3, -⟩
      · exact ⟨by omega, h2⟩
      · exfalso
        have h4 := x3 (K - (n + 1)) (Nat.zero_le _) (by omega)
        rw [hE, show n + 1 + (K - (n + 1)) = K by omega, h3] at h4
        cases h4
/-- A FLOAT, the document's way. -/
theorem flt_brk (s : ByteArray) (h0 : s.size ≠ 0) : flt s = decide (brk s = s.size) := by
  obtain ⟨n, hn⟩ : ∃ n, n = ru s 10 0 true 0 := ⟨_, rfl⟩
  obtain ⟨K, hK⟩ : ∃ K, K = ru s 10 (n + 1) true (n + 1) := ⟨_, rfl⟩
  obtain ⟨j, hj⟩ : ∃ j, j = exj s (K + 1) := ⟨_, rfl⟩
  obtain ⟨L, hL⟩ : ∃ L, L = ru s 10 j true j := ⟨_, rfl⟩
  have hb := brk_is hn hK hj hL
  have hns : n ≤ s.size := by rw [hn]; exact (ru_ge s 10 0 true s.size 0 (by omega)).2 (by omega)
  have hnd : ∀ i, i < n → bt s i ≠ 46 := fun i hi h => by
    have := (ru_spec s 10 0 true s.size 0 (by omega)).1 i (Nat.zero_le _) (by rw [← hn]; exact hi)
    rw [okk_none (by omega) (by rw [h]; exact dg_point) (by omega)] at this
    cases this
  have key : flt s = true ↔ brk s = s.size := by
    by_cases hp : 0 < n ∧ n < s.size ∧ bt s n = 46
    · obtain ⟨p0, p1, p2⟩ := hp
      have hx : ix s 46 0 = n := ix_is (Nat.zero_le _) hns (fun i _ hi => hnd i hi) (fun _ => p2)
      have hff : fm s 10 n 0 false = true := (fm_run (s := s) (b := 10) (a := 0) (p := n) (by omega) hns (Nat.zero_le _) (.inr ⟨by rw [p2]; exact dg_point, by omega⟩)).2 ⟨p0, hn.symm⟩
      have hf : flt s = flr (s.extract (n + 1) s.size) := by
        unfold flt
        rw [hx, if_pos p1, hff, Bool.true_and]
      rw [hf, flr_run p1 hK hj hL, hb, if_pos ⟨p0, p1, p2⟩]
      have hk := (ru_ge s 10 (n + 1) true s.size (n + 1) (by omega)).1
      rw [← hK] at hk
      have hk2 := (ru_ge s 10 (n + 1) true s.size (n + 1) (by omega)).2 (by omega)
      rw [← hK] at hk2
      have hl := ru_ge s 10 j true s.size j (by omega)
      rw [← hL] at hl
      by_cases c1 : K = n + 1
      · rw [if_pos c1]; omega
      · rw [if_neg c1]
        by_cases c2 : K < s.size ∧ isE s K = true
        · rw [if_pos c2]
          by_cases c3 : j < L
          · rw [if_pos c3]
            constructor
            · rintro ⟨-, h | ⟨-, -, -, h⟩⟩
              · omega
              · exact h
            · intro h
              exact ⟨by omega, .inr ⟨c2.1, c2.2, by omega, h⟩⟩
          · rw [if_neg c3]
            constructor
            · rintro ⟨-, h | ⟨-, -, h1, h2⟩⟩
              · omega
              · omega
            · intro h; omega
        · rw [if_neg c2]
          constructor
          · rintro ⟨-, h | ⟨h1, h2, -⟩⟩
            · exact h
            · exact absurd ⟨h1, h2⟩ c2
          · intro h; exact ⟨by omega, .inl h⟩
    · rw [hb, if_neg hp]
      constructor
      · intro hf
        exfalso
        unfold flt at hf
        by_cases hx : ix s 46 0 < s.size
        · rw [if_pos hx, Bool.and_eq_true] at hf
          obtain ⟨x1, x2, x3, x4⟩ := ix_spec s 46 s.size 0 (by omega) (by omega)
          have h46 := x4 hx
          obtain ⟨f1, f2⟩ := (fm_run (s := s) (b := 10) (a := 0) (p := ix s 46 0) (by omega) x2 (Nat.zero_le _) (.inr ⟨by rw [h46]; exact dg_point, by omega⟩)).1 hf.1
          rw [← hn] at f2
          rw [f2] at hp
          exact hp ⟨f1, hx, h46⟩
        · rw [if_neg hx] at hf; cases hf
      · intro h; omega
  cases hf : flt s
  · rw [decide_eq_false (fun h => by rw [key.2 h] at hf; cases hf)]
  · rw [decide_eq_true (key.1 hf)]
end Go.Proofs.YtajjhhodpohfpaaDoor
