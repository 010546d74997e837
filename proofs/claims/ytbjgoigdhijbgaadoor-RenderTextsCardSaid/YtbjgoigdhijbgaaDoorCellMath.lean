/-
  Widths, plainly: behind the last byte 10; blanks; what is trimmed; a comment that may be printed.
-/
import Derived.Test.YtbjgoigdhijbgaaDoorScanPure
namespace Go.Proofs.YtbjgoigdhijbgaaDoor
open Go.RowKit Go.PlainAid

/-- Behind the last byte 10 of the first e bytes; 0: none. -/
def lnf (s : ByteArray) : Nat → Nat
  | 0 => 0
  | e + 1 => if bt s e = 10 then e + 1 else lnf s e
theorem lnf_le (s : ByteArray) : ∀ e, lnf s e ≤ e
  | 0 => Nat.le_refl _
  | e + 1 => by
    have := lnf_le s e
    simp only [lnf]
    split <;> omega
theorem lnf_at (s : ByteArray) : ∀ e, 0 < lnf s e → bt s (lnf s e - 1) = 10
  | 0, h => by simp [lnf] at h
  | e + 1, h => by
    simp only [lnf] at h ⊢
    split
    · rename_i h1; rw [Nat.add_sub_cancel]; exact h1
    · rename_i h1; rw [if_neg h1] at h; exact lnf_at s e h
theorem lnf_none (s : ByteArray) : ∀ e, lnf s e = 0 ↔ ∀ i, i < e → bt s i ≠ 10
  | 0 => ⟨fun _ i h => by omega, fun _ => rfl⟩
  | e + 1 => by
    simp only [lnf]
    constructor
    · intro h i hi
      split at h
      · omega
      · rename_i h1
        by_cases he : i = e
        · rw [he]; exact h1
        · exact (lnf_none s e).1 h i (by omega)
    · intro h
      rw [if_neg (h e (by omega))]
      exact (lnf_none s e).2 (fun i hi => h i (by omega))
theorem lnf_app_l (a b : ByteArray) : ∀ e, e ≤ a.size → lnf (a ++ b) e = lnf a e
  | 0, _ => rfl
  | e + 1, h => by
    simp only [lnf]
    rw [bt_app_l a b e (by omega), lnf_app_l a b e (by omega)]
theorem lnf_app_r (a b : ByteArray) : ∀ e, lnf (a ++ b) (a.size + e) = if lnf b e = 0 then lnf a a.size else a.size + lnf b e
  | 0 => by rw [Nat.add_zero, lnf_app_l a b _ (Nat.le_refl _)]; rfl
  | e + 1 => by
    show (if bt (a ++ b) (a.size + e) = 10 then a.size + e + 1 else lnf (a ++ b) (a.size + e)) = _
    rw [bt_app_r, lnf_app_r a b e]
    simp only [lnf]
    split
    · rw [if_neg (by omega)]; omega
    · rfl
/-- The column behind it. -/
def lcol (s : ByteArray) (c : Nat) : Nat := if lnf s s.size = 0 then c + ct s 0 else ct s (lnf s s.size)
theorem lcol_le (s : ByteArray) (c : Nat) : lcol s c ≤ c + s.size := by
  unfold lcol
  have h0 := ct_le s s.size 0 (by omega)
  have h1 := ct_le s s.size (lnf s s.size) (by omega)
  split <;> omega
theorem lcol_app {a : ByteArray} (b : ByteArray) (c : Nat) (ha : vd a 0 = true) : lcol (a ++ b) c = lcol b (lcol a c) := by
  unfold lcol
  rw [ByteArray.size_append, lnf_app_r]
  by_cases hb : lnf b b.size = 0
  · rw [if_pos hb, if_pos hb]
    by_cases h0 : lnf a a.size = 0
    · rw [if_pos h0, if_pos h0, ct_both b ha]; omega
    · have hp := lnf_at a a.size (by omega)
      have hle := lnf_le a a.size
      have hv : vd a (lnf a a.size - 1) = true := vd_lead (by omega) (by rw [hp]; decide) (lnf a a.size) 0 (by omega) (by omega) ha
      rw [vd_one (by omega) (by rw [hp]; decide), show lnf a a.size - 1 + 1 = lnf a a.size by omega] at hv
      rw [if_neg h0, if_neg h0]
      exact ct_app b a.size _ (by omega) hle hv
  · rw [if_neg hb, if_neg hb, if_neg (by omega)]
    exact ct_app_r a b b.size _ (by omega)
theorem ct_tail (s : ByteArray) {p : Nat} (hp : p ≤ s.size) : ct (s.extract p s.size) 0 = ct s p := by
  have h1 : s.extract 0 p ++ s.extract p s.size = s := by
    apply ByteArray.ext
    simp
  have h2 := ct_app_r (s.extract 0 p) (s.extract p s.size) (s.extract p s.size).size 0 (by omega)
  rw [h1, size_ext s 0 p hp, Nat.sub_zero, Nat.add_zero] at h2
  exact h2.symm
/-- So many blanks. -/
def blks (n : Nat) : ByteArray := ⟨(List.replicate n (32 : UInt8)).toArray⟩
def indt (n : Int) : ByteArray := blks (min n.toNat 20000)
theorem blks_size (n : Nat) : (blks n).size = n := by
  show (List.replicate n (32 : UInt8)).toArray.size = n
  simp
theorem bt_blks {n i : Nat} (h : i < n) : bt (blks n) i = 32 := by
  have hh : i < (blks n).size := by rw [blks_size]; exact h
  have he : (blks n)[i] = 32 := by
    rw [ByteArray.getElem_eq_getElem_data]
    simp [blks]
  unfold bt
  rw [dif_pos hh, he]
  rfl
/-- A comment that may be printed. -/
def ntb (s : ByteArray) : Bool := decide (lnf s s.size = 0) && (decide (0 < s.size) && (decide (bt s 0 = 37) && decide (tr s 0 s.size = s.size)))
theorem ct_low {s : ByteArray} : ∀ m k, s.size - k ≤ m → k ≤ s.size → (∀ i, k ≤ i → i < s.size → bt s i < 128) → ct s k = s.size - k := by
  intro m
  induction m with
  | zero => intro k h hk _; rw [ct_end (by omega)]; omega
  | succ m ih =>
    intro k h hk hl
    by_cases hlt : k < s.size
    · have hnl : nl s k = 1 := by
        have := hl k (Nat.le_refl _) hlt
        unfold nl
        split
        · rfl
        · unfold ln; rw [if_pos this]
      rw [ct_go hlt, hnl, ih (k + 1) (by omega) (by omega) (fun i h1 h2 => hl i (by omega) h2)]
      omega
    · rw [ct_end hlt]; omega
theorem ct_blks (n : Nat) : ct (blks n) 0 = n := by
  have := ct_low (s := blks n) (blks n).size 0 (by omega) (by omega) (fun i _ h => by rw [blks_size] at h; rw [bt_blks h]; decide)
  rw [this, blks_size, Nat.sub_zero]
theorem lnf_blks (n : Nat) : lnf (blks n) (blks n).size = 0 := (lnf_none _ _).2 (fun i h => by rw [blks_size] at h; rw [bt_blks h]; decide)
theorem lcol_blks (n c : Nat) : lcol (blks n) c = c + n := by unfold lcol; rw [if_pos (lnf_blks n), ct_blks]
/-- Blanks behind what is none are cut. -/
theorem tr_blank {s : ByteArray} {p : Nat} : ∀ e, p ≤ e → (∀ i, p ≤ i → i < e → tb (bt s i) = true) → (p = 0 ∨ tb (bt s (p - 1)) = false) → tr s 0 e = p
  | 0, h, _, _ => by have : p = 0 := by omega
                     rw [this]; rfl
  | e + 1, h, h1, h2 => by
    by_cases hp : p = e + 1
    · simp only [tr]
      rw [if_neg]
      · exact hp.symm
      · rintro ⟨-, h3⟩
        rcases h2 with h2 | h2
        · omega
        · rw [hp, Nat.add_sub_cancel, h3] at h2; cases h2
    · simp only [tr]
      rw [if_pos ⟨by omega, h1 e (by omega) (by omega)⟩]
      exact tr_blank e (by omega) (fun i h3 h4 => h1 i h3 (by omega)) h2
theorem tr_blks (n : Nat) : tr (blks n) 0 (blks n).size = 0 :=
  tr_blank _ (Nat.zero_le _) (fun i _ h => by rw [blks_size] at h; rw [bt_blks h]; decide) (.inl rfl)
/-- What is trimmed is trimmed; what blanks stand behind are cut. -/
theorem tr_own (s : ByteArray) : (s.extract 0 (tr s 0 s.size)).size = tr s 0 s.size ∧ tr (s.extract 0 (tr s 0 s.size)) 0 (s.extract 0 (tr s 0 s.size)).size = tr s 0 s.size := by
  obtain ⟨h1, -, -, h4⟩ := tr_spec s 0 s.size
  have hz : (s.extract 0 (tr s 0 s.size)).size = tr s 0 s.size := by rw [size_ext s 0 _ h1, Nat.sub_zero]
  refine ⟨hz, tr_blank _ (by rw [hz]; exact Nat.le_refl _) (fun i h3 h5 => by rw [hz] at h5; omega) ?_⟩
  by_cases h0 : tr s 0 s.size = 0
  · exact .inl h0
  · right
    rw [bt_ext s 0 _ _ h1 (by omega), Nat.zero_add]
    exact h4 (by omega)
theorem tr_app (a b : ByteArray) (hb : ∀ i, i < b.size → tb (bt b i) = true) : tr (a ++ b) 0 (a ++ b).size = tr a 0 a.size := by
  obtain ⟨h1, -, h3, h4⟩ := tr_spec a 0 a.size
  refine tr_blank _ (by rw [ByteArray.size_append]; omega) (fun i h5 h6 => ?_) ?_
  · by_cases hi : i < a.size
    · rw [bt_app_l a b i hi]; exact h3 i h5 hi
    · rw [ByteArray.size_append] at h6
      rw [show i = a.size + (i - a.size) by omega, bt_app_r]
      exact hb _ (by omega)
  · by_cases h0 : tr a 0 a.size = 0
    · exact .inl h0
    · right
      rw [bt_app_l a b _ (by omega)]
      exact h4 (by omega)
end Go.Proofs.YtbjgoigdhijbgaaDoor
