/-
  Plain facts: where the document's own runs of digits end, and what has the form of digits; the document's own Whole.
-/
import Derived.Test.YtbjgoigdhijbgaaDoorRunMath
import Derived.Test.YtbjgoigdhijbgaaDoorLitInts
set_option linter.all false
namespace Go.Proofs.YtbjgoigdhijbgaaDoor
open Go.RowKit Go.PlainAid

theorem ru_spec (s : ByteArray) (b : Int) (a : Nat) (un : Bool) : ∀ m i, s.size - i ≤ m → (∀ x, i ≤ x → x < ru s b a un i → okk s b a un x = true) ∧ (ru s b a un i < s.size → okk s b a un (ru s b a un i) = false) := by
  intro m
  induction m with
  | zero => intro i h; rw [ru_end (by omega)]; exact ⟨fun x h1 h2 => by omega, fun h1 => by omega⟩
  | succ m ih =>
    intro i h
    by_cases hi : i < s.size
    · cases ho : okk s b a un i
      · rw [ru_stop ho]; exact ⟨fun x h1 h2 => by omega, fun _ => ho⟩
      · rw [ru_go hi ho]
        obtain ⟨h1, h2⟩ := ih (i + 1) (by omega)
        refine ⟨fun x hx1 hx2 => ?_, h2⟩
        by_cases hx : x = i
        · rw [hx]; exact ho
        · exact h1 x (by omega) hx2
    · rw [ru_end hi]; exact ⟨fun x h1 h2 => by omega, fun h1 => by omega⟩
theorem ru_is {s : ByteArray} {b : Int} {a : Nat} {un : Bool} {i p : Nat} (hi : i ≤ p) (hp : p ≤ s.size) (h : ∀ x, i ≤ x → x < p → okk s b a un x = true) (he : p < s.size → okk s b a un p = false) : ru s b a un i = p := by
  obtain ⟨h1, h2⟩ := ru_spec s b a un s.size i (by omega)
  obtain ⟨g1, g2⟩ := ru_ge s b a un s.size i (by omega)
  have g3 := g2 (by omega)
  by_cases c1 : ru s b a un i < p
  · have := h _ g1 c1
    rw [h2 (by omega)] at this; cases this
  · by_cases c2 : p < ru s b a un i
    · have := h1 p hi c2
      rw [he (by omega)] at this; cases this
    · omega
theorem okk_digit {s : ByteArray} {b : Int} {a i : Nat} {un : Bool} (hb : b ≤ 36) (h : dg (bt s i) < b) : okk s b a un i = true := by
  unfold okk
  rw [decide_eq_true ((vlr_pos hb).2 h)]; rfl
theorem okk_plain {s : ByteArray} {b : Int} {a i : Nat} (hb : b ≤ 36) : okk s b a false i = decide (dg (bt s i) < b) := by
  unfold okk
  by_cases h : dg (bt s i) < b
  · rw [decide_eq_true ((vlr_pos hb).2 h), decide_eq_true h]; rfl
  · rw [decide_eq_false (fun h' => h ((vlr_pos hb).1 h')), decide_eq_false h]; rfl
theorem okk_none {s : ByteArray} {b : Int} {a i : Nat} {un : Bool} (hb : b ≤ 36) (h : ¬ dg (bt s i) < b) (h95 : bt s i ≠ 95) : okk s b a un i = false := by
  unfold okk
  rw [decide_eq_false (fun h' => h ((vlr_pos hb).1 h')), beq_false_of_ne h95]
  simp
theorem okk_under {s : ByteArray} {b : Int} {a i : Nat} (hb : b ≤ 36) (h95 : bt s i = 95) : okk s b a true i = (decide (a < i) && (bt s (i - 1) != 95) && decide (i + 1 < s.size) && decide (dg (bt s (i + 1)) < b)) := by
  have hn : ¬ dg (bt s i) < b := by rw [h95, dg_under]; omega
  unfold okk
  rw [decide_eq_false (fun h' => hn ((vlr_pos hb).1 h')), h95]
  by_cases h : dg (bt s (i + 1)) < b
  · rw [decide_eq_true ((vlr_pos hb).2 h), decide_eq_true h]; simp
  · rw [decide_eq_false (fun h' => h ((vlr_pos hb).1 h')), decide_eq_false h]; simp
/-- THE FORM OF DIGITS is that each byte may stand in the run, up to a byte that is no digit. -/
theorem fm_okk {s : ByteArray} {b : Int} {a p : Nat} (hb : b ≤ 36) (hps : p ≤ s.size) (hend : p = s.size ∨ ¬ dg (bt s p) < b) : ∀ m k h, p - k ≤ m → a ≤ k → k ≤ p → (h = true ↔ (a < k ∧ bt s (k - 1) ≠ 95)) →
    (fm s b p k h = true ↔ ((∀ x, k ≤ x → x < p → okk s b a true x = true) ∧ (k = p → h = true))) := by
  intro m
  induction m with
  | zero =>
    intro k h hm hak hkp hh
    obtain rfl : k = p := by omega
    rw [fm_end (by omega)]
    exact ⟨fun h' => ⟨fun x h1 h2 => by omega, fun _ => h'⟩, fun h' => h'.2 rfl⟩
  | succ m ih =>
    intro k h hm hak hkp hh
    by_cases hlt : k < p
    · by_cases h95 : bt s k = 95
      · cases h
        · have hno : ¬ (a < k ∧ bt s (k - 1) ≠ 95) := fun h' => by have := hh.2 h'; cases this
          have hok : okk s b a true k = false := by
            rw [okk_under hb h95]
            by_cases c1 : a < k
            · have c2 : bt s (k - 1) = 95 := Classical.byContradiction fun c2 => hno ⟨c1, c2⟩
              rw [c2]; simp
            · rw [decide_eq_false c1]; simp
          rw [fm_bad hlt (by rintro ⟨-, h'⟩; cases h') (by rw [h95, dg_under]; omega)]
          refine ⟨fun h' => (by cases h'), fun h' => ?_⟩
          have := h'.1 k (Nat.le_refl _) hlt
          rw [hok] at this; cases this
        · obtain ⟨c1, c2⟩ := hh.1 rfl
          have hok : okk s b a true k = (decide (k + 1 < s.size) && decide (dg (bt s (k + 1)) < b)) := by
            rw [okk_under hb h95, decide_eq_true c1]
            have : (bt s (k - 1) != 95) = true := by simpa using c2
            rw [this]; rfl
          have ih' := ih (k + 1) false (by omega) (by omega) hlt (by
            constructor
            · intro h'; cases h'
            · rintro ⟨-, h'⟩
              rw [Nat.add_sub_cancel] at h'
              exact absurd h95 h')
          rw [fm_under hlt h95, ih']
          constructor
          · rintro ⟨h1, h2⟩
            have hk1 : k + 1 < p := by
              apply Classical.byContradiction
              intro h'
              have := h2 (by omega)
              cases this
            refine ⟨fun x hx1 hx2 => ?_, fun h' => by omega⟩
            by_cases hx : x = k
            · rw [hx, hok, decide_eq_true (show k + 1 < s.size by omega)]
              have ho := h1 (k + 1) (Nat.le_refl _) hk1
              by_cases hd : dg (bt s (k + 1)) < b
              · rw [decide_eq_true hd]; rfl
              · exfalso
                by_cases h95' : bt s (k + 1) = 95
                · rw [okk_under hb h95', Nat.add_sub_cancel, h95] at ho
                  simp at ho
                · rw [okk_none hb hd h95'] at ho; cases ho
            · exact h1 x (by omega) hx2
          · rintro ⟨h1, -⟩
            refine ⟨fun x hx1 hx2 => h1 x (by omega) hx2, fun h' => ?_⟩
            exfalso
            have ho := h1 k (Nat.le_refl _) hlt
            rw [hok] at ho
            simp only [Bool.and_eq_true, decide_eq_true_eq] at ho
            rw [h'] at ho
            rcases hend with h'' | h''
            · omega
            · exact h'' ho.2
      · by_cases hd : dg (bt s k) < b
        · have ih' := ih (k + 1) true (by omega) (by omega) hlt (by
            constructor
            · intro _; exact ⟨by omega, by rw [Nat.add_sub_cancel]; exact h95⟩
            · intro _; rfl)
          rw [fm_digit hlt hb hd, ih']
          constructor
          · rintro ⟨h1, -⟩
            refine ⟨fun x hx1 hx2 => ?_, fun h' => by omega⟩
            by_cases hx : x = k
            · rw [hx]; exact okk_digit hb hd
            · exact h1 x (by omega) hx2
          · rintro ⟨h1, -⟩
            exact ⟨fun x hx1 hx2 => h1 x (by omega) hx2, fun _ => rfl⟩
        · rw [fm_bad hlt (fun h' => h95 h'.1) hd]
          refine ⟨fun h' => (by cases h'), fun h' => ?_⟩
          have := h'.1 k (Nat.le_refl _) hlt
          rw [okk_none hb hd h95] at this; cases this
    · obtain rfl : k = p := by omega
      rw [fm_end (by omega)]
      exact ⟨fun h' => ⟨fun x h1 h2 => by omega, fun _ => h'⟩, fun h' => h'.2 rfl⟩
/-- From the place where the run begins: it goes as far as that byte. -/
theorem fm_run {s : ByteArray} {b : Int} {a p : Nat} (hb : b ≤ 36) (hps : p ≤ s.size) (hap : a ≤ p) (hend : p = s.size ∨ (¬ dg (bt s p) < b ∧ bt s p ≠ 95)) : fm s b p a false = true ↔ (a < p ∧ ru s b a true a = p) := by
  have h := fm_okk (s := s) (b := b) (a := a) (p := p) hb hps (hend.imp id (·.1)) (p - a) a false (Nat.le_refl _) (Nat.le_refl _) hap (by
    constructor
    · intro h'; cases h'
    · rintro ⟨h', -⟩; omega)
  rw [h]
  constructor
  · rintro ⟨h1, h2⟩
    have hlt : a < p := by
      apply Classical.byContradiction
      intro h'
      have := h2 (by omega)
      cases this
    refine ⟨hlt, ru_is hap hps h1 (fun hp => ?_)⟩
    rcases hend with h' | ⟨h', h''⟩
    · omega
    · exact okk_none hb h' h''
  · rintro ⟨h1, h2⟩
    have := (ru_spec s b a true s.size a (by omega)).1
    rw [h2] at this
    exact ⟨this, fun h' => by omega⟩
/-- What has the form of digits is digits and _. -/
theorem fm_els {s : ByteArray} {b : Int} {e : Nat} : ∀ m k h, e - k ≤ m → fm s b e k h = true → ∀ x, k ≤ x → x < e → bt s x = 95 ∨ dg (bt s x) < b := by
  intro m
  induction m with
  | zero => intro k h hm _ x h1 h2; omega
  | succ m ih =>
    intro k h hm hf x h1 h2
    by_cases hk : k < e
    · by_cases hu : bt s k = 95 ∧ h = true
      · obtain ⟨hu1, rfl⟩ := hu
        rw [fm_under hk hu1] at hf
        by_cases hx : x = k
        · rw [hx]; exact .inl hu1
        · exact ih _ _ (by omega) hf x (by omega) h2
      · by_cases hd : dg (bt s k) < b
        · by_cases hx : x = k
          · rw [hx]; exact .inr hd
          · rw [fm, dif_pos hk, if_neg hu, if_pos hd] at hf
            exact ih _ _ (by omega) hf x (by omega) h2
        · rw [fm_bad hk hu hd] at hf; cases hf
    · omega
/-- The number of the first i bytes, read as decimal digits. -/
def db (s : ByteArray) : Nat → Int
  | 0 => 0
  | i + 1 => db s i * 10 + (bt s i - 48)
theorem dg_ten {c : Int} (h : dg c < 10) : 48 ≤ c ∧ c ≤ 57 ∧ dg c = c - 48 := by
  unfold dg at h ⊢
  split at h
  · rename_i h'; rw [if_pos h']; exact ⟨h'.1, h'.2, rfl⟩
  · split at h
    · omega
    · split at h
      · omega
      · omega
theorem db_bd {s : ByteArray} {m : Nat} (hd : ∀ i, i < m → dg (bt s i) < 10) : ∀ i, i ≤ m → 0 ≤ db s i ∧ db s i < 10 ^ i := by
  intro i
  induction i with
  | zero => intro _; simp [db]
  | succ i ih =>
    intro hi
    obtain ⟨h1, h2⟩ := ih (by omega)
    obtain ⟨d1, d2, -⟩ := dg_ten (hd i (by omega))
    simp only [db]
    rw [Int.pow_succ]
    omega
/-- The document's Whole at the beginning of a text. -/
def whl (s : ByteArray) : Nat :=
  if (0 < ru s 10 0 false 0 ∧ ru s 10 0 false 0 < 3 ∧ ru s 10 0 false 0 < s.size ∧ bt s (ru s 10 0 false 0) = 35) ∧ 2 ≤ db s (ru s 10 0 false 0) ∧ db s (ru s 10 0 false 0) ≤ 36 ∧ ru s 10 0 false 0 + 1 < ru s (db s (ru s 10 0 false 0)) (ru s 10 0 false 0 + 1) true (ru s 10 0 false 0 + 1)
  then ru s (db s (ru s 10 0 false 0)) (ru s 10 0 false 0 + 1) true (ru s 10 0 false 0 + 1) else ru s 10 0 true 0
theorem run_digits {s : ByteArray} {i : Nat} (hi : i < ru s 10 0 false 0) : dg (bt s i) < 10 := by
  have := (ru_spec s 10 0 false s.size 0 (by omega)).1 i (Nat.zero_le _) hi
  rw [okk_plain (by omega)] at this
  exact of_decide_eq_true this
/-- Two digits, or one: their form and value. -/
theorem nm_short {s : ByteArray} {p : Nat} (h0 : 0 < p) (h2 : p ≤ 2) (hd : ∀ i, i < p → dg (bt s i) < 10) : nm s 10 p 0 = (db s p, 0) := by
  have e0 := dg_ten (hd 0 h0)
  have n0 : bt s 0 ≠ 95 := by omega
  have f0 : fm s 10 p 0 false = fm s 10 p (0 + 1) true := fm_digit h0 (by omega) (hd 0 h0)
  have v0 : vn s 10 p 0 0 = vn s 10 p (0 + 1) (0 * 10 + (dg (bt s 0)).toNat) := vn_digit h0 n0
  by_cases h1 : p = 1
  · subst h1
    unfold nm
    rw [show ((10 : Nat) : Int) = 10 from rfl, f0, v0, fm_end (by omega), vn_end (by omega), if_pos rfl, if_pos (by omega)]
    simp only [db]
    congr 1
    omega
  · obtain rfl : p = 2 := by omega
    have e1 := dg_ten (hd 1 (by omega))
    have n1 : bt s (0 + 1) ≠ 95 := by simp only [Nat.zero_add]; omega
    have f1 : fm s 10 2 (0 + 1) true = fm s 10 2 (0 + 1 + 1) true := fm_digit (by omega) (by omega) (hd (0 + 1) (by omega))
    have v1 : ∀ v, vn s 10 2 (0 + 1) v = vn s 10 2 (0 + 1 + 1) (v * 10 + (dg (bt s (0 + 1))).toNat) := fun v => vn_digit (by omega) n1
    unfold nm
    rw [show ((10 : Nat) : Int) = 10 from rfl, f0, v0, f1, v1, fm_end (by omega), vn_end (by omega), if_pos rfl, if_pos (by simp only [Nat.zero_add]; omega)]
    simp only [db, Nat.zero_add]
    congr 1
    omega
/-- THE FORM OF AN INTEGER, the document's way: with its base, and where its digits begin. -/
theorem igr_whl (s : ByteArray) : ((s.size ≠ 0 ∧ whl s = s.size) → (igr s = nm s 10 s.size 0 ∧ fm s 10 s.size 0 false = true ∧ ∀ i, i < s.size → bt s i ≠ 35) ∨
      (∃ p, 0 < p ∧ p ≤ 2 ∧ p + 1 < s.size ∧ bt s p = 35 ∧ (∀ i, i < p → dg (bt s i) < 10) ∧ 2 ≤ db s p ∧ db s p ≤ 36 ∧ igr s = nm s (db s p).toNat s.size (p + 1) ∧ fm s (db s p) s.size (p + 1) false = true ∧ ∀ i, p < i → i < s.size → bt s i ≠ 35)) ∧
    (¬ (s.size ≠ 0 ∧ whl s = s.size) → igr s = (0, 8)) := by
  obtain ⟨x1, x2, x3, x4⟩ := ix_spec s 35 s.size 0 (by omega) (by omega)
  have hn35 : ¬ dg 35 < 36 := by decide
  have d35 : dg 35 = 36 := by decide
  have hd35 : ∀ (b : Int) (i : Nat), b ≤ 36 → (bt s i = 95 ∨ dg (bt s i) < b) → bt s i ≠ 35 := fun b i hb h e => by
    rcases h with h | h
    · omega
    · rw [e, d35] at h; omega
  obtain ⟨m, hm⟩ : ∃ m, m = ru s 10 0 false 0 := ⟨_, rfl⟩
  obtain ⟨n, hn⟩ : ∃ n, n = ru s 10 0 true 0 := ⟨_, rfl⟩
  have hms : m ≤ s.size := by rw [hm]; exact (ru_ge s 10 0 false s.size 0 (by omega)).2 (by omega)
  have hns : n ≤ s.size := by rw [hn]; exact (ru_ge s 10 0 true s.size 0 (by omega)).2 (by omega)
  have hmd : ∀ i, i < m → dg (bt s i) < 10 := fun i hi => run_digits (by rw [← hm]; exact hi)
  have hme : m < s.size → ¬ dg (bt s m) < 10 := fun h h' => by
    have := (ru_spec s 10 0 false s.size 0 (by omega)).2
    rw [← hm, okk_plain (by omega)] at this
    have h2 := this h
    rw [decide_eq_true h'] at h2; cases h2
  have hw : whl s = if (0 < m ∧ m < 3 ∧ m < s.size ∧ bt s m = 35) ∧ 2 ≤ db s m ∧ db s m ≤ 36 ∧ m + 1 < ru s (db s m) (m + 1) true (m + 1) then ru s (db s m) (m + 1) true (m + 1) else n := by
    unfold whl; rw [← hm, ← hn]
  obtain ⟨p, hp⟩ : ∃ p, p = ix s 35 0 := ⟨_, rfl⟩
  have hi : igr s = if p < s.size then (if (nm s 10 p 0).2 = 0 ∧ p ≤ 2 ∧ 2 ≤ (nm s 10 p 0).1 ∧ (nm s 10 p 0).1 ≤ 36 then nm s (nm s 10 p 0).1.toNat s.size (p + 1) else (0, 8)) else nm s 10 s.size 0 := by
    unfold igr; rw [← hp]
  rw [← hp] at x2 x3 x4
  by_cases hps : p < s.size
  · have hp35 := x4 hps
    rw [if_pos hps] at hi
    have hnp : n ≤ p := by
      apply Classical.byContradiction
      intro h
      have := (ru_spec s 10 0 true s.size 0 (by omega)).1 p (Nat.zero_le _) (by rw [← hn]; omega)
      rw [okk_none (by omega) (by rw [hp35, d35]; omega) (by omega)] at this
      cases this
    have hmp : m ≤ p := by
      apply Classical.byContradiction
      intro h
      have := hmd p (by omega)
      rw [hp35, d35] at this
      omega
    by_cases hmp' : m = p
    · subst hmp'
      by_cases h0 : 0 < m ∧ m ≤ 2
      · have hs := nm_short h0.1 h0.2 hmd
        by_cases hB : 2 ≤ db s m ∧ db s m ≤ 36
        · have hc : (nm s 10 m 0).2 = 0 ∧ m ≤ 2 ∧ 2 ≤ (nm s 10 m 0).1 ∧ (nm s 10 m 0).1 ≤ 36 := by rw [hs]; exact ⟨rfl, h0.2, hB.1, hB.2⟩
          rw [if_pos hc, hs] at hi
          have hfr := fm_run (s := s) (b := db s m) (a := m + 1) (p := s.size) hB.2 (Nat.le_refl _) (by omega) (.inl rfl)
          have eB : ((db s m).toNat : Int) = db s m := Int.toNat_of_nonneg (by omega)
          constructor
          · rintro ⟨-, h⟩
            right
            have hk : m + 1 < ru s (db s m) (m + 1) true (m + 1) := by
              apply Classical.byContradiction
              intro h'
              rw [hw, if_neg (by rintro ⟨-, -, -, h''⟩; exact h' h'')] at h
              omega
            rw [hw, if_pos ⟨⟨h0.1, by omega, hps, hp35⟩, hB.1, hB.2, hk⟩] at h
            have hf := hfr.2 ⟨by omega, h⟩
            refine ⟨m, h0.1, h0.2, by omega, hp35, hmd, hB.1, hB.2, hi, hf, fun i hi1 hi2 => hd35 (db s m) i hB.2 (fm_els _ _ _ (Nat.le_refl _) hf i (by omega) hi2)⟩
          · intro h
            rw [hi]
            show nm s (db s m).toNat s.size (m + 1) = (0, 8)
            unfold nm
            rw [eB]
            have hf : fm s (db s m) s.size (m + 1) false = false := by
              cases hf : fm s (db s m) s.size (m + 1) false
              · rfl
              · exfalso
                obtain ⟨h1, h2⟩ := hfr.1 hf
                refine h ⟨by omega, ?_⟩
                rw [hw, if_pos ⟨⟨h0.1, by omega, hps, hp35⟩, hB.1, hB.2, by omega⟩, h2]
            rw [hf]; rfl
        · rw [if_neg (by rw [hs]; rintro ⟨-, -, h1, h2⟩; exact hB ⟨h1, h2⟩)] at hi
          refine ⟨?_, fun _ => hi⟩
          rintro ⟨-, h⟩
          rw [hw, if_neg (by rintro ⟨-, h1, h2, -⟩; exact hB ⟨h1, h2⟩)] at h
          omega
      · have hz : ¬ ((nm s 10 m 0).2 = 0 ∧ m ≤ 2 ∧ 2 ≤ (nm s 10 m 0).1 ∧ (nm s 10 m 0).1 ≤ 36) := by
          rintro ⟨h1, h2, -, -⟩
          obtain rfl : m = 0 := by omega
          unfold nm at h1
          rw [fm_end (by omega)] at h1
          simp at h1
        rw [if_neg hz] at hi
        refine ⟨?_, fun _ => hi⟩
        rintro ⟨-, h⟩
        rw [hw, if_neg (by rintro ⟨⟨h1, h2, -, -⟩, -⟩; exact h0 ⟨h1, by omega⟩)] at h
        omega
    · have hm35 : bt s m ≠ 35 := x3 m (Nat.zero_le _) (by omega)
      have hz : ¬ ((nm s 10 p 0).2 = 0 ∧ p ≤ 2 ∧ 2 ≤ (nm s 10 p 0).1 ∧ (nm s 10 p 0).1 ≤ 36) := by
        rintro ⟨h1, h2, -, -⟩
        have hf : fm s 10 p 0 false = true := by
          have := nm_form s 10 p 0
          rw [h1] at this
          rw [show (10 : Int) = ((10 : Nat) : Int) from rfl, ← this]; rfl
        have hme' := hme (by omega)
        have hnd : ∀ x, x < p → okk s 10 0 true x = true := fun x hx =>
          ((fm_okk (s := s) (b := 10) (a := 0) (p := p) (by omega) (by omega) (.inr (by rw [hp35, d35]; omega)) p 0 false (by omega) (by omega) (by omega) (by
            constructor
            · intro h'; cases h'
            · rintro ⟨h', -⟩; omega)).1 hf).1 x (Nat.zero_le _) hx
        have ho := hnd m (by omega)
        by_cases h95 : bt s m = 95
        · rw [okk_under (by omega) h95] at ho
          simp only [Bool.and_eq_true, decide_eq_true_eq] at ho
          obtain ⟨⟨⟨o1, -⟩, -⟩, o4⟩ := ho
          have e : m + 1 = p := by omega
          rw [e, hp35, d35] at o4
          omega
        · rw [okk_none (by omega) hme' h95] at ho; cases ho
      rw [if_neg hz] at hi
      refine ⟨?_, fun _ => hi⟩
      rintro ⟨-, h⟩
      rw [hw, if_neg (by rintro ⟨⟨-, -, -, h4⟩, -⟩; exact hm35 h4)] at h
      omega
  · rw [if_neg hps] at hi
    have hno : ∀ i, i < s.size → bt s i ≠ 35 := fun i hi => x3 i (Nat.zero_le _) (by omega)
    have hfr := fm_run (s := s) (b := 10) (a := 0) (p := s.size) (by omega) (Nat.le_refl _) (by omega) (.inl rfl)
    rw [if_neg (by rintro ⟨⟨-, -, h3, h4⟩, -⟩; exact hno m h3 h4)] at hw
    rw [hw]
    constructor
    · rintro ⟨h1, h2⟩
      exact .inl ⟨hi, hfr.2 ⟨by omega, by rw [← hn]; exact h2⟩, hno⟩
    · intro h
      rw [hi]
      unfold nm
      have hf : fm s 10 s.size 0 false = false := by
        cases hf : fm s 10 s.size 0 false
        · rfl
        · exfalso
          obtain ⟨h1, h2⟩ := hfr.1 hf
          exact h ⟨by omega, by rw [hn]; exact h2⟩
      rw [show ((10 : Nat) : Int) = 10 from rfl, hf]; rfl
end Go.Proofs.YtbjgoigdhijbgaaDoor
