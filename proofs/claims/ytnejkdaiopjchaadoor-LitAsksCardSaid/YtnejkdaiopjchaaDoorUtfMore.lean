/-
  More plain facts on valid texts: what none of them holds, and what is cut off.
-/
import Derived.Test.YtnejkdaiopjchaaDoorUtfEnc
namespace Go.Proofs.YtnejkdaiopjchaaDoor
open Go.RowKit Go.PlainAid

theorem nc_okn {s : ByteArray} {k : Nat} (h : ¬ nc s k < 0) : okn s k (ln (bt s k) - 1) = true := by
  apply Classical.byContradiction
  intro ho
  have hv : jv s k (ln (bt s k)) = -1 := by unfold jv; rw [if_neg ho]
  apply h
  unfold nc
  rw [hv]
  split
  · omega
  · split
    · omega
    · split <;> omega
theorem ln_lt {x : Int} (h : ln x ≠ 0) : x < 248 := by
  unfold ln at h
  repeat' split at h
  all_goals omega
/-- No byte of a valid text is 248 or more. -/
theorem vd_no (s : ByteArray) : ∀ m i : Nat, s.size - i ≤ m → vd s i = true → ∀ j, i ≤ j → j < s.size → bt s j < 248 := by
  intro m
  induction m with
  | zero => intro i h _ j h1 h2; omega
  | succ m ih =>
    intro i h hv j h1 h2
    have hlt : i < s.size := by omega
    by_cases hn : nc s i < 0
    · rw [vd_bad hlt hn] at hv; cases hv
    · rw [vd_go hlt hn] at hv
      have hp := nl_pos s i
      have hl : nl s i = ln (bt s i) := by unfold nl; rw [if_neg hn]
      by_cases hj : i + nl s i ≤ j
      · exact ih _ (by omega) hv j hj h2
      · by_cases h0 : j = i
        · subst h0; exact ln_lt (nc_in hn).1
        · have := okn_all _ (nc_okn hn) (j - i) (by omega) (by omega)
          have e : i + (j - i) = j := by omega
          rw [e] at this
          omega
/-- What begins as a valid text is valid just if what is behind that is. -/
theorem vd_pre {a u : ByteArray} (hs : a.size ≤ u.size) (e : ∀ i, i < a.size → bt u i = bt a i) : ∀ m i : Nat, a.size - i ≤ m → i ≤ a.size → vd a i = true → vd u i = vd u a.size := by
  intro m
  induction m with
  | zero =>
    intro i h hi _
    obtain rfl : i = a.size := by omega
    rfl
  | succ m ih =>
    intro i h hi hv
    by_cases hlt : i < a.size
    · by_cases hn : nc a i < 0
      · rw [vd_bad hlt hn] at hv; cases hv
      · rw [vd_go hlt hn] at hv
        obtain ⟨h1, h2⟩ := nc_in hn
        have hc : nc u i = nc a i := nc_congr (e i hlt) (by omega) h2 (fun x hx => e _ (by omega))
        have hl : nl u i = nl a i := by unfold nl; rw [hc, e i hlt]
        rw [vd_go (by omega) (by rw [hc]; exact hn), hl]
        have := nl_pos a i
        exact ih _ (by omega) (nl_in a i hlt) hv
    · obtain rfl : i = a.size := by omega
      rfl
theorem vd_empty : vd ⟨#[]⟩ 0 = true := vd_end (by decide)
/-- A valid text and a code point of some bytes, the last of which is cut off. -/
theorem vd_cut {s0 : ByteArray} {c : Int} (h0 : vd s0 0 = true) (hp : isPt c = true) (hc : 128 ≤ c) : vd ((s0 ++ Utf8.encode c).extract 0 ((s0 ++ Utf8.encode c).size - 1)) 0 = false := by
  obtain ⟨r1, -, -, r4⟩ := reads_enc hp
  have h2 : 2 ≤ lenOf c := by
    unfold lenOf
    rw [if_neg (by omega)]
    repeat' split
    all_goals omega
  have hsz : (s0 ++ Utf8.encode c).size = s0.size + lenOf c := by rw [ByteArray.size_append, r1]
  have hu : ((s0 ++ Utf8.encode c).extract 0 ((s0 ++ Utf8.encode c).size - 1)).size = s0.size + lenOf c - 1 := by rw [size_ext _ _ _ (by omega), hsz]; omega
  have hb : ∀ i, i < s0.size + lenOf c - 1 → bt ((s0 ++ Utf8.encode c).extract 0 ((s0 ++ Utf8.encode c).size - 1)) i = bt (s0 ++ Utf8.encode c) i := fun i hi => by
    rw [bt_ext _ _ _ _ (by omega) (by omega), Nat.zero_add]
  rw [vd_pre (a := s0) (by omega) (fun i hi => by rw [hb i (by omega), bt_app_l _ _ _ hi]) s0.size 0 (by omega) (by omega) h0]
  refine vd_bad (by omega) ?_
  have e0 : bt ((s0 ++ Utf8.encode c).extract 0 ((s0 ++ Utf8.encode c).size - 1)) s0.size = bt (Utf8.encode c) 0 := by
    rw [hb _ (by omega)]
    have := bt_app_r s0 (Utf8.encode c) 0
    rw [Nat.add_zero] at this
    exact this
  unfold nc
  rw [e0, r4, hu, if_pos (.inr (by omega))]
  omega
/-- A byte 255 in the place of byte k. -/
def put255 (s : ByteArray) (k : Nat) : ByteArray := s.extract 0 k ++ ⟨#[255]⟩ ++ s.extract (k + 1) s.size
theorem put255_size {s : ByteArray} {k : Nat} (hk : k < s.size) : (put255 s k).size = s.size := by
  unfold put255
  rw [ByteArray.size_append, ByteArray.size_append, size_ext _ _ _ (by omega), size_ext _ _ _ (by omega)]
  show k - 0 + 1 + (s.size - (k + 1)) = s.size
  omega
theorem put255_at {s : ByteArray} {k : Nat} (hk : k < s.size) : bt (put255 s k) k = 255 := by
  unfold put255
  have e : (s.extract 0 k).size = k := by rw [size_ext _ _ _ (by omega)]; omega
  rw [bt_app_l _ _ _ (by rw [ByteArray.size_append, e]; show k < k + 1; omega)]
  have := bt_app_r (s.extract 0 k) ⟨#[255]⟩ 0
  rw [e, Nat.add_zero] at this
  rw [this]
  rfl
theorem put255_nc {s : ByteArray} {k : Nat} (hk : k < s.size) : nc (put255 s k) k = -1 ∧ nl (put255 s k) k = 1 := by
  have h : nc (put255 s k) k = -1 := by
    unfold nc
    rw [put255_at hk, if_pos (.inl (by decide))]
  exact ⟨h, by unfold nl; rw [h]; rfl⟩
theorem put255_vd {s : ByteArray} {k : Nat} (hk : k < s.size) : vd (put255 s k) 0 = false := by
  apply Classical.byContradiction
  intro h
  have := vd_no (put255 s k) _ 0 (Nat.le_refl _) (by simpa using h) k (by omega) (by rw [put255_size hk]; exact hk)
  rw [put255_at hk] at this
  omega
end Go.Proofs.YtnejkdaiopjchaaDoor
