/-
  Plain facts on quoted texts: what stands at a byte, how far it goes, the code points that all of it means; where escapes end in a valid text. Nothing of the program stands here.
-/
import Derived.Test.YtbjgoigdhijbgaaDoorMath
import Derived.Test.YtbjgoigdhijbgaaDoorUtfs
set_option linter.all false
namespace Go.Proofs.YtbjgoigdhijbgaaDoor
open Go.RowKit Go.PlainAid

/-- What byte k says within quotes q; -1: what may not stand there. -/
def cell1 (t : ByteArray) (q : Int) (k : Nat) : Int := if bt t k = 92 then (esc t k).1 else if nc t k < 32 ∨ nc t k = q then -1 else nc t k
/-- How far it goes. -/
def step1 (t : ByteArray) (k : Nat) : Nat := if bt t k = 92 then max 1 (esc t k).2 else nl t k
theorem step1_pos (t : ByteArray) (k : Nat) : 1 ≤ step1 t k := by
  unfold step1
  split
  · omega
  · exact nl_pos t k
/-- The code points from byte k on. -/
def qi (t : ByteArray) (q : Int) (k : Nat) : Option (List Int) :=
  if _h : k < t.size then (if cell1 t q k < 0 then none else (qi t q (k + step1 t k)).map (cell1 t q k :: ·)) else some []
termination_by t.size - k
decreasing_by have := step1_pos t k; omega
theorem qi_end {t : ByteArray} {q : Int} {k : Nat} (h : ¬ k < t.size) : qi t q k = some [] := by rw [qi, dif_neg h]
theorem qi_bad {t : ByteArray} {q : Int} {k : Nat} (h : k < t.size) (hc : cell1 t q k < 0) : qi t q k = none := by rw [qi, dif_pos h, if_pos hc]
theorem qi_go {t : ByteArray} {q : Int} {k : Nat} (h : k < t.size) (hc : ¬ cell1 t q k < 0) : qi t q k = (qi t q (k + step1 t k)).map (cell1 t q k :: ·) := by rw [qi, dif_pos h, if_neg hc]

theorem vd_ascii {s : ByteArray} {j : Nat} : ∀ m, (∀ x, x < m → bt s (j + x) < 128) → j + m ≤ s.size → vd s j = vd s (j + m)
  | 0, _, _ => rfl
  | m + 1, h, hm => by
    rw [vd_ascii m (fun x hx => h x (by omega)) (by omega)]
    have := nc_ascii (s := s) (k := j + m) (by omega) (h m (by omega))
    have h0 := bt_nonneg s (j + m)
    rw [vd_go (by omega) (by omega), this.2]
    rfl
theorem rc_dg (s : ByteArray) (b : Int) : ∀ m j x, x < rc s b m j → dg (bt s (j + x)) < b
  | 0, _, _, h => absurd h (Nat.not_lt_zero _)
  | m + 1, j, x, h => by
    simp only [rc] at h
    split at h
    · rename_i hd
      cases x with
      | zero => exact hd
      | succ x =>
        have := rc_dg s b m (j + 1) x (by omega)
        rw [show j + 1 + x = j + (x + 1) by omega] at this
        exact this
    · omega
theorem dg_low {c : Int} (h : dg c < 36) : c < 128 := by
  apply Classical.byContradiction
  intro h'
  rw [dg_high (by omega)] at h
  omega
theorem rc_vd (s : ByteArray) (b : Int) (hb : b ≤ 36) (m j : Nat) (hj : j ≤ s.size) : vd s j = vd s (j + rc s b m j) :=
  vd_ascii _ (fun x hx => dg_low (by have := rc_dg s b m j x hx; omega)) (rc_in s b hb m j hj)
theorem bt_lt {s : ByteArray} {k : Nat} (h : bt s k ≠ 0) : k < s.size := by
  apply Classical.byContradiction
  intro h'
  exact h (bt_end s (by omega))
theorem vd_one {s : ByteArray} {k : Nat} (h : k < s.size) (h1 : bt s k < 128) : vd s k = vd s (k + 1) :=
  vd_ascii 1 (fun x hx => by obtain rfl : x = 0 := by omega
                             exact h1) (by omega)
theorem hxd_vd {s : ByteArray} {j : Nat} (hx : bt s j = 120) (h : (hxd s j).1 ≠ -1) : 1 ≤ (hxd s j).2 ∧ j + (hxd s j).2 ≤ s.size ∧ vd s j = vd s (j + (hxd s j).2) := by
  have hj : j < s.size := bt_lt (by omega)
  rw [vd_one hj (by omega)]
  unfold hxd at h ⊢
  by_cases h1 : bt s (j + 1) = 123
  · have hj1 : j + 1 < s.size := bt_lt (by omega)
    rw [if_pos h1] at h ⊢
    rw [vd_one hj1 (by omega)]
    have hr := rc_vd s 16 (by omega) 6 (j + 2) (by omega)
    have hi := rc_in s 16 (by omega) 6 (j + 2) (by omega)
    by_cases h2 : rc s 16 6 (j + 2) = 0 ∨ bt s (j + 2 + rc s 16 6 (j + 2)) ≠ 125
    · rw [if_pos h2] at h
      exact absurd rfl h
    · rw [if_neg h2]
      have h3 : bt s (j + 2 + rc s 16 6 (j + 2)) = 125 := by
        apply Classical.byContradiction
        intro h'; exact h2 (.inr h')
      have hj2 := bt_lt (s := s) (k := j + 2 + rc s 16 6 (j + 2)) (by omega)
      have hv := vd_one hj2 (by omega)
      refine ⟨by simp only; omega, by simp only; omega, ?_⟩
      simp only
      rw [show j + 1 + 1 = j + 2 by omega, hr, hv]
      congr 1
      omega
  · rw [if_neg h1] at h ⊢
    have hr := rc_vd s 16 (by omega) 2 (j + 1) (by omega)
    have hi := rc_in s 16 (by omega) 2 (j + 1) (by omega)
    have hl := rc_le s 16 2 (j + 1)
    by_cases h2 : rc s 16 2 (j + 1) < 2
    · rw [if_pos h2] at h
      exact absurd rfl h
    · rw [if_neg h2]
      have e : rc s 16 2 (j + 1) = 2 := by omega
      rw [e] at hr hi
      refine ⟨by simp only; omega, by simp only; omega, ?_⟩
      simp only
      rw [hr]
theorem mnt_vd {s : ByteArray} {j : Nat} (h : (mnt s j).1 ≠ -1) : 1 ≤ (mnt s j).2 ∧ j + (mnt s j).2 ≤ s.size ∧ vd s j = vd s (j + (mnt s j).2) := by
  unfold mnt at h ⊢
  by_cases h1 : 0 < rc s 8 3 j
  · rw [if_pos h1]
    have hj : j < s.size := by
      have := rc_dg s 8 3 j 0 h1
      refine bt_lt ?_
      intro h0
      rw [Nat.add_zero, h0, dg_zero] at this
      omega
    exact ⟨h1, rc_in s 8 (by omega) 3 j (by omega), rc_vd s 8 (by omega) 3 j (by omega)⟩
  rw [if_neg h1] at h ⊢
  by_cases h2 : bt s j = 120
  · rw [if_pos h2] at h ⊢
    exact hxd_vd h2 h
  rw [if_neg h2] at h ⊢
  by_cases h3 : bt s j = 94
  · rw [if_pos h3] at h ⊢
    have hj : j < s.size := bt_lt (by omega)
    unfold ctl at h ⊢
    by_cases h4 : (64 ≤ bt s (j + 1) ∧ bt s (j + 1) ≤ 95) ∨ (97 ≤ bt s (j + 1) ∧ bt s (j + 1) ≤ 122)
    · rw [if_pos h4]
      have hj1 : j + 1 < s.size := bt_lt (by omega)
      exact ⟨by simp only; omega, by simp only; omega, by rw [vd_one hj (by omega), vd_one hj1 (by omega)]; rfl⟩
    · rw [if_neg h4] at h
      exact absurd rfl h
  rw [if_neg h3] at h ⊢
  by_cases h4 : s.size ≤ j ∨ nc s j < 32
  · rw [if_pos h4] at h
    exact absurd rfl h
  rw [if_neg h4]
  have hg := vd_go (s := s) (k := j) (by omega) (by omega)
  have hp := nl_pos s j
  have hi := nl_in s j (by omega)
  split
  · exact ⟨hp, hi, hg⟩
  · exact ⟨hp, hi, hg⟩
theorem esc_vd {s : ByteArray} {k : Nat} (h : (esc s k).1 ≠ -1) : k < s.size ∧ bt s k = 92 ∧ 2 ≤ (esc s k).2 ∧ k + (esc s k).2 ≤ s.size ∧ vd s k = vd s (k + (esc s k).2) ∧ isPt (esc s k).1 = true := by
  unfold esc at h ⊢
  by_cases h1 : k < s.size ∧ bt s k = 92
  · rw [if_pos h1] at h ⊢
    by_cases h2 : isPt (mnt s (k + 1)).1 = true
    · rw [if_pos h2] at h ⊢
      obtain ⟨m1, m2, m3⟩ := mnt_vd (s := s) (j := k + 1) h
      refine ⟨h1.1, h1.2, by simp only; omega, by simp only; omega, ?_, h2⟩
      rw [vd_one h1.1 (by omega), m3]
      simp only
      congr 1
      omega
    · rw [if_neg h2] at h
      exact absurd rfl h
  · rw [if_neg h1] at h
    exact absurd rfl h
/-- From one code point's beginning the next ones are not leapt over. -/
theorem vd_jump {s : ByteArray} {p q : Nat} (hp : vd s p = true) (hq : vd s q = true) (h : p < q) (hqs : q ≤ s.size) : p + nl s p ≤ q := by
  have hps : p < s.size := by omega
  by_cases hn : nc s p < 0
  · rw [vd_bad hps hn] at hp; cases hp
  apply Classical.byContradiction
  intro h'
  have hin := nl_in s p hps
  have e : nl s p = ln (bt s p) := by unfold nl; rw [if_neg hn]
  have := okn_all _ (nc_okn hn) (q - p) (by omega) (by omega)
  rw [show p + (q - p) = q by omega] at this
  have hb : nc s q < 0 := by
    unfold nc
    have : ln (bt s q) = 0 := by unfold ln; rw [if_neg (by omega), if_pos (by omega)]
    rw [if_pos (.inl this)]
    omega
  rw [vd_bad (by omega) hb] at hq
  cases hq
/-- One step of reading, in a valid text. -/
theorem step_vd {t : ByteArray} {q : Int} {k : Nat} (h : k < t.size) (hc : ¬ cell1 t q k < 0) : k + step1 t k ≤ t.size ∧ vd t k = vd t (k + step1 t k) := by
  unfold cell1 at hc
  unfold step1
  by_cases h1 : bt t k = 92
  · rw [if_pos h1] at hc ⊢
    have hb := esc_bd t k
    obtain ⟨-, -, e3, e4, e5, -⟩ := esc_vd (s := t) (k := k) (by omega)
    rw [show max 1 (esc t k).2 = (esc t k).2 by omega]
    exact ⟨e4, e5⟩
  · rw [if_neg h1] at hc ⊢
    by_cases h2 : nc t k < 32 ∨ nc t k = q
    · rw [if_pos h2] at hc; omega
    · exact ⟨nl_in t k h, vd_go h (by omega)⟩
/-- What has a meaning is valid. -/
theorem qi_vd {t : ByteArray} {q : Int} : ∀ m k : Nat, t.size - k ≤ m → k ≤ t.size → (qi t q k).isSome = true → vd t k = true := by
  intro m
  induction m with
  | zero => intro k h hk _; exact vd_end (by omega)
  | succ m ih =>
    intro k h hk hs
    by_cases hlt : k < t.size
    · by_cases hc : cell1 t q k < 0
      · rw [qi_bad hlt hc] at hs; cases hs
      · rw [qi_go hlt hc] at hs
        obtain ⟨s1, s2⟩ := step_vd hlt hc
        have := step1_pos t k
        rw [s2]
        exact ih _ (by omega) s1 (by simpa using hs)
    · exact vd_end (by omega)
theorem cell1_bd (t : ByteArray) (q : Int) (k : Nat) : -1 ≤ cell1 t q k ∧ cell1 t q k < 16777216 := by
  have h1 := esc_bd t k
  have h2 := nc_bd t k
  unfold cell1
  split
  · omega
  · split <;> omega
theorem qi_len {t : ByteArray} {q : Int} : ∀ m k : Nat, t.size - k ≤ m → ∀ L, qi t q k = some L → L.length ≤ t.size - k := by
  intro m
  induction m with
  | zero => intro k h L hL; rw [qi_end (by omega)] at hL; obtain rfl := Option.some.inj hL; simp
  | succ m ih =>
    intro k h L hL
    by_cases hlt : k < t.size
    · by_cases hc : cell1 t q k < 0
      · rw [qi_bad hlt hc] at hL; cases hL
      · rw [qi_go hlt hc] at hL
        obtain ⟨M, hM, rfl⟩ := Option.map_eq_some_iff.1 hL
        have := step1_pos t k
        have := ih _ (by omega) M hM
        rw [List.length_cons]
        have := step_vd hlt hc
        omega
    · rw [qi_end hlt] at hL; obtain rfl := Option.some.inj hL; simp
theorem nc_small {s : ByteArray} {k : Nat} {x : Int} (h : nc s k = x) (h0 : 0 ≤ x) (h1 : x < 128) : bt s k = x := by
  obtain ⟨l0, hin⟩ := nc_in (s := s) (k := k) (by omega)
  by_cases hb : bt s k < 128
  · rw [← (nc_ascii (by omega) hb).1, h]
  · exfalso
    have hl : 128 ≤ lstOf (ln (bt s k)) := by
      have h2 : 2 ≤ ln (bt s k) := by
        unfold ln at l0 ⊢
        rw [if_neg hb] at l0 ⊢
        repeat' split
        all_goals simp_all
      have h4 := ln_le (bt s k)
      obtain e | e | e : ln (bt s k) = 2 ∨ ln (bt s k) = 3 ∨ ln (bt s k) = 4 := by omega
      all_goals (rw [e]; simp only [lstOf]; omega)
    unfold nc at h
    rw [if_neg (by omega)] at h
    split at h
    · omega
    · split at h <;> omega
/-- Within a piece whose end stands ahead of an ASCII byte all is as at its place in the whole. -/
theorem nc_ext {s : ByteArray} {a e k : Nat} (he : e < s.size) (hb : bt s e < 128) (hk : a + k < e) : nc (s.extract a e) k = nc s (a + k) ∧ nl (s.extract a e) k = nl s (a + k) := by
  have hz : (s.extract a e).size = e - a := size_ext s a e (by omega)
  have h0 : bt (s.extract a e) k = bt s (a + k) := bt_ext s a e k (by omega) hk
  have hc : nc (s.extract a e) k = nc s (a + k) := by
    by_cases hl : ln (bt s (a + k)) = 0
    · unfold nc
      rw [h0, if_pos (.inl hl), if_pos (.inl hl)]
    by_cases h : a + k + ln (bt s (a + k)) ≤ e
    · exact nc_congr h0 (by omega) (by omega) (fun x hx => by rw [bt_ext s a e (k + x) (by omega) (by omega), Nat.add_assoc])
    · have e1 : nc (s.extract a e) k = -1 := by
        unfold nc
        rw [h0, if_pos (.inr (by omega))]
      rw [e1]
      by_cases hn : nc s (a + k) < 0
      · have := nc_bd s (a + k); omega
      · have := okn_all _ (nc_okn hn) (e - (a + k)) (by omega) (by omega)
        rw [show a + k + (e - (a + k)) = e by omega] at this
        omega
  exact ⟨hc, by unfold nl; rw [hc, h0]⟩
theorem vd_ext {s : ByteArray} {a e : Nat} (he : e < s.size) (hb : bt s e < 128) (hv : vd s e = true) : ∀ m k : Nat, e - (a + k) ≤ m → a + k ≤ e → vd (s.extract a e) k = vd s (a + k) := by
  have hz : (s.extract a e).size = e - a := size_ext s a e (by omega)
  intro m
  induction m with
  | zero =>
    intro k h1 h2
    rw [vd_end (by omega), show a + k = e by omega, hv]
  | succ m ih =>
    intro k h1 h2
    by_cases hlt : a + k < e
    · obtain ⟨n1, n2⟩ := nc_ext (a := a) he hb hlt
      by_cases hn : nc s (a + k) < 0
      · rw [vd_bad (s := s) (by omega) hn, vd_bad (by omega) (by rw [n1]; exact hn)]
      · rw [vd_go (s := s) (by omega) hn, vd_go (by omega) (by rw [n1]; exact hn), n2]
        have hp := nl_pos s (a + k)
        have hi := nl_in (s.extract a e) k (by omega)
        rw [n2] at hi
        rw [ih (k + nl s (a + k)) (by omega) (by omega), Nat.add_assoc]
    · rw [vd_end (by omega), show a + k = e by omega, hv]
/-- A text between quotes is valid just if what is within is. -/
theorem vd_btw {s : ByteArray} (h2 : 2 ≤ s.size) (h0 : bt s 0 < 128) (h1 : bt s (s.size - 1) < 128) : vd s 0 = vd (s.extract 1 (s.size - 1)) 0 := by
  have he : vd s (s.size - 1) = true := by
    rw [vd_one (by omega) h1]
    exact vd_end (by omega)
  rw [vd_ext (a := 1) (e := s.size - 1) (by omega) h1 he _ 0 (Nat.le_refl _) (by omega)]
  exact vd_one (by omega) h0
end Go.Proofs.YtbjgoigdhijbgaaDoor
