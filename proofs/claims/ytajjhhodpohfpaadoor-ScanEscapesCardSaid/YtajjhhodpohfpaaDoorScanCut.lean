/-
  A number's token, the program's way: as far as bytes of names run, and then all of it has the form, or there is none.
-/
import Derived.Test.YtajjhhodpohfpaaDoorScanPure
import Derived.Test.YtajjhhodpohfpaaDoorRefFloat
namespace Go.Proofs.YtajjhhodpohfpaaDoor
open Go.RowKit Go.PlainAid

theorem dg_inn {c : Int} (h : dg c < 36) : inn c = true := by
  unfold dg at h
  unfold inn beg
  split at h
  · rename_i h1
    rw [if_neg (by omega), if_neg (by omega), if_pos h1]; rfl
  · split at h
    · rename_i h1
      rw [if_neg (by omega), if_pos (.inl h1)]; rfl
    · split at h
      · rename_i h1
        rw [if_pos h1]; rfl
      · omega
theorem not_inn {c : Int} (h : inn c = false) {B : Int} (hB : B ≤ 36) : ¬ dg c < B ∧ c ≠ 95 := by
  refine ⟨fun h' => ?_, fun h' => ?_⟩
  · rw [dg_inn (by omega)] at h; cases h
  · rw [h'] at h; exact absurd h (by decide)
theorem inn_35 : inn 35 = false := by decide
theorem inn_46 : inn 46 = false := by decide
/-- A run within a name's bytes: cut off behind them, it is the same. -/
theorem ru_cut {s : ByteArray} {a T : Nat} (hT : T ≤ s.size) (hi : T < s.size → inn (bt s T) = false) {B : Int} (hB : B ≤ 36) (un : Bool) {i : Nat} (h : a + i ≤ T) :
    a + ru (s.extract a T) B i un i = ru s B (a + i) un (a + i) ∧ ru s B (a + i) un (a + i) ≤ T := by
  have hz := size_ext s a T hT
  obtain ⟨e, he⟩ : ∃ e, e = ru s B (a + i) un (a + i) := ⟨_, rfl⟩
  have h1 := ru_lo s B (a + i) un
  have h2 := ru_hi s B (a + i) un (by omega : a + i ≤ s.size)
  have hall := ru_all s B (a + i) un
  have hnot := ru_not s B (a + i) un
  rw [← he] at h1 h2 hall hnot ⊢
  have heT : e ≤ T := by
    apply Classical.byContradiction
    intro h'
    have h3 := hall T h (by omega)
    obtain ⟨n1, n2⟩ := not_inn (hi (by omega)) hB
    rw [okk_iff hB] at h3
    rcases h3 with h3 | ⟨-, h3, -⟩
    · exact n1 h3
    · exact n2 h3
  have key : ∀ x, i ≤ x → a + x < T → okk (s.extract a T) B i un x = okk s B (a + i) un (a + x) := fun x x1 x2 => by
    have b0 := bt_ext s a T x hT x2
    have hT0 : ¬ dg (bt s T) < B := by
      by_cases c : T < s.size
      · exact (not_inn (hi c) hB).1
      · rw [bt_end s (by omega)]; exact not0 hB
    have : okk (s.extract a T) B i un x = true ↔ okk s B (a + i) un (a + x) = true := by
      rw [okk_iff hB, okk_iff hB, b0, hz]
      by_cases cx : i < x
      · have b1 := bt_ext s a T (x - 1) hT (by omega)
        rw [show a + (x - 1) = a + x - 1 by omega] at b1
        rw [b1]
        by_cases cn : a + x + 1 < T
        · have b2 := bt_ext s a T (x + 1) hT (by omega)
          rw [show a + (x + 1) = a + x + 1 by omega] at b2
          rw [b2]
          constructor
          · rintro (h | ⟨g1, g2, g3, g4, g5, g6⟩)
            · exact .inl h
            · exact .inr ⟨g1, g2, by omega, g4, by omega, g6⟩
          · rintro (h | ⟨g1, g2, g3, g4, g5, g6⟩)
            · exact .inl h
            · exact .inr ⟨g1, g2, by omega, g4, by omega, g6⟩
        · have eT : a + x + 1 = T := by omega
          rw [eT]
          constructor
          · rintro (h | ⟨g1, g2, g3, g4, g5, g6⟩)
            · exact .inl h
            · omega
          · rintro (h | ⟨g1, g2, g3, g4, g5, g6⟩)
            · exact .inl h
            · exact absurd g6 hT0
      · constructor
        · rintro (h | ⟨g1, g2, g3, -⟩)
          · exact .inl h
          · omega
        · rintro (h | ⟨g1, g2, g3, -⟩)
          · exact .inl h
          · omega
    cases o1 : okk (s.extract a T) B i un x <;> cases o2 : okk s B (a + i) un (a + x) <;> simp_all
  have hr : ru (s.extract a T) B i un i = e - a := by
    refine ru_is (by omega) (by omega) (fun x x1 x2 => ?_) (fun hlt => ?_)
    · rw [key x x1 (by omega)]
      exact hall (a + x) (by omega) (by omega)
    · rw [key (e - a) (by omega) (by omega), show a + (e - a) = e by omega]
      exact hnot (by omega)
  exact ⟨by omega, heT⟩
theorem db_dbe (x : ByteArray) : ∀ n, db x n = dbe x 0 n
  | 0 => rfl
  | n + 1 => by simp only [db, dbe, Nat.zero_add]; rw [db_dbe x n]
theorem db_cut {s : ByteArray} {a T : Nat} (hT : T ≤ s.size) {n : Nat} (h : a + n ≤ T) : db (s.extract a T) n = dbe s a n := by
  rw [db_dbe]
  exact (dbe_eq (s := s) (t := s.extract a T) (k := a) (b := 0) (M := T - a) (fun j hj => by rw [Nat.zero_add, bt_ext s a T j hT (by omega)]) n (by omega)).symm
/-- Whole, cut off. -/
theorem whl_cut {s : ByteArray} {a T : Nat} (haT : a ≤ T) (hT : T ≤ s.size) (hi : T < s.size → inn (bt s T) = false) (h35 : ru s 10 a false a = T → T < s.size → bt s T ≠ 35) : a + whl (s.extract a T) = whe s a ∧ whe s a ≤ T := by
  have hz := size_ext s a T hT
  have c0 : ∀ un, a + ru (s.extract a T) 10 0 un 0 = ru s 10 a un a ∧ ru s 10 a un a ≤ T := fun un => ru_cut (i := 0) hT hi (by omega) un (by omega)
  obtain ⟨m1, m2⟩ := c0 false
  obtain ⟨n1, n2⟩ := c0 true
  obtain ⟨M, hM⟩ : ∃ M, M = ru (s.extract a T) 10 0 false 0 := ⟨_, rfl⟩
  obtain ⟨N, hN⟩ : ∃ N, N = ru (s.extract a T) 10 0 true 0 := ⟨_, rfl⟩
  have hB := db_cut (s := s) (a := a) (T := T) hT (n := M) (by omega)
  unfold whl whe
  simp only
  rw [← hM] at m1 ⊢
  rw [← hN] at n1 ⊢
  rw [← m1, ← n1, show a + M - a = M by omega, ← hB]
  obtain ⟨B, hBB⟩ : ∃ B, B = db (s.extract a T) M := ⟨_, rfl⟩
  rw [← hBB, hz]
  by_cases hMT : a + M < T
  · rw [bt_ext s a T M hT hMT]
    by_cases hB36 : B ≤ 36
    · obtain ⟨r1, r2⟩ := ru_cut (a := a) (i := M + 1) hT hi hB36 true (by omega : a + (M + 1) ≤ T)
      rw [← Nat.add_assoc] at r1 r2
      rw [← r1]
      by_cases g : (0 < M ∧ M < 3 ∧ M < T - a ∧ bt s (a + M) = 35) ∧ 2 ≤ B ∧ B ≤ 36 ∧ M + 1 < ru (s.extract a T) B (M + 1) true (M + 1)
      · rw [if_pos g, if_pos ⟨⟨by omega, by omega, by omega, g.1.2.2.2⟩, g.2.1, g.2.2.1, by omega⟩]
        exact ⟨rfl, by omega⟩
      · rw [if_neg g, if_neg (fun f => g ⟨⟨by omega, by omega, by omega, f.1.2.2.2⟩, f.2.1, f.2.2.1, by omega⟩)]
        exact ⟨rfl, by omega⟩
    · rw [if_neg (fun f => hB36 f.2.2.1), if_neg (fun f => hB36 f.2.2.1)]
      exact ⟨rfl, by omega⟩
  · rw [if_neg (fun f => by omega), if_neg (fun f => h35 (by omega) (by omega) (by rw [show T = a + M by omega]; exact f.1.2.2.2))]
    exact ⟨rfl, by omega⟩
theorem isE_ise {s : ByteArray} {k : Nat} : isE s k = ise (bt s k) := rfl
theorem ise_inn {c : Int} (h : ise c = true) : inn c = true ∧ ¬ dg c < 10 ∧ c ≠ 95 := by
  unfold ise at h
  have h2 : c = 69 ∨ c = 101 := by simpa using h
  rcases h2 with rfl | rfl <;> decide
theorem ise_35 : ise 35 = false := by decide
theorem ise_46 : ise 46 = false := by decide
/-- Broken, cut off. -/
theorem brk_cut {s : ByteArray} {a T : Nat} (haT : a < T) (hT : T ≤ s.size) (hi : T < s.size → inn (bt s T) = false) (h46 : ru s 10 a true a = T → T < s.size → bt s T ≠ 46)
    (hsg : ise (bt s (T - 1)) = true → ru s 10 (ru s 10 a true a + 1) true (ru s 10 a true a + 1) + 1 = T → T < s.size → ¬ (bt s T = 43 ∨ bt s T = 45)) :
    (bke s a = a ∧ brk (s.extract a T) = 0) ∨ (bke s a ≠ a ∧ a + brk (s.extract a T) = bke s a ∧ bke s a ≤ T) := by
  have hz := size_ext s a T hT
  obtain ⟨n1, n2⟩ := ru_cut (i := 0) hT hi (B := 10) (by omega) true (by omega : a + 0 ≤ T)
  rw [Nat.add_zero] at n1 n2
  obtain ⟨N, hN⟩ : ∃ N, N = ru (s.extract a T) 10 0 true 0 := ⟨_, rfl⟩
  rw [← hN] at n1
  obtain ⟨K, hK⟩ : ∃ K, K = ru (s.extract a T) 10 (N + 1) true (N + 1) := ⟨_, rfl⟩
  obtain ⟨j, hj⟩ : ∃ j, j = exj (s.extract a T) (K + 1) := ⟨_, rfl⟩
  obtain ⟨L, hL⟩ : ∃ L, L = ru (s.extract a T) 10 j true j := ⟨_, rfl⟩
  have hb := brk_is hN hK hj hL
  rw [hz] at hb
  obtain ⟨K', hK'⟩ : ∃ K', K' = ru s 10 (a + N + 1) true (a + N + 1) := ⟨_, rfl⟩
  obtain ⟨j', hj'⟩ : ∃ j', j' = exb s (K' + 1) := ⟨_, rfl⟩
  obtain ⟨L', hL'⟩ : ∃ L', L' = ru s 10 j' true j' := ⟨_, rfl⟩
  have hb' := bke_is (s := s) (a := a) (n := a + N) n1 (by rw [hK']) hj' hL'
  by_cases g : a < a + N ∧ a + N < s.size ∧ bt s (a + N) = 46
  · obtain ⟨g1, g2, g3⟩ := g
    have hNT : a + N < T := by
      apply Classical.byContradiction
      intro h'
      have e : a + N = T := by omega
      exact h46 (by omega) (by omega) (by rw [← e]; exact g3)
    rw [if_pos ⟨g1, g2, g3⟩] at hb'
    rw [if_pos ⟨by omega, by omega, by rw [bt_ext s a T N hT hNT]; exact g3⟩] at hb
    obtain ⟨k1, k2⟩ := ru_cut (i := N + 1) hT hi (B := 10) (by omega) true (by omega : a + (N + 1) ≤ T)
    rw [← Nat.add_assoc, ← hK, ← hK'] at k1
    rw [← Nat.add_assoc, ← hK'] at k2
    by_cases c1 : K = N + 1
    · rw [if_pos c1] at hb
      rw [if_pos (by omega)] at hb'
      exact .inl ⟨hb', hb⟩
    · have k3 := ru_lo (s.extract a T) 10 (N + 1) true
      rw [← hK] at k3
      rw [if_neg c1] at hb
      rw [if_neg (by omega)] at hb'
      by_cases c2 : K' < T
      · have bk := bt_ext s a T K hT (by omega)
        rw [k1] at bk
        rw [isE_ise, bk] at hb
        by_cases c3 : ise (bt s K') = true
        · rw [if_pos ⟨by omega, c3⟩] at hb
          rw [if_pos ⟨by omega, c3⟩] at hb'
          have hjj : a + j = j' ∧ j' ≤ T := by
            rw [hj, hj']
            unfold exj exb
            by_cases c4 : K' + 1 < T
            · have bk1 := bt_ext s a T (K + 1) hT (by omega)
              rw [← Nat.add_assoc, k1] at bk1
              rw [bk1]
              split <;> omega
            · have e : K' + 1 = T := by omega
              have e0 : bt (s.extract a T) (K + 1) = 0 := bt_end _ (by omega)
              rw [e0, if_neg (by omega)]
              rw [if_neg (fun h => ?_)]
              · omega
              · by_cases c5 : T < s.size
                · rw [e] at h
                  refine hsg (by rw [show T - 1 = K' by omega]; exact c3) ?_ c5 h
                  rw [← n1, ← hK']; exact e
                · rw [bt_end s (by omega)] at h; omega
          obtain ⟨l1, l2⟩ := ru_cut (i := j) hT hi (B := 10) (by omega) true (by omega : a + j ≤ T)
          rw [← hL, hjj.1, ← hL'] at l1
          rw [hjj.1, ← hL'] at l2
          by_cases c6 : j < L
          · rw [if_pos c6] at hb
            rw [if_pos (by omega)] at hb'
            exact .inr ⟨by omega, by omega, by omega⟩
          · rw [if_neg c6] at hb
            rw [if_neg (by omega)] at hb'
            exact .inr ⟨by omega, by omega, by omega⟩
        · rw [if_neg (fun h => c3 h.2)] at hb
          rw [if_neg (fun h => c3 h.2)] at hb'
          exact .inr ⟨by omega, by omega, by omega⟩
      · have e : K' = T := by omega
        rw [if_neg (fun h => by omega)] at hb
        rw [if_neg (fun h => ?_)] at hb'
        · exact .inr ⟨by omega, by omega, by omega⟩
        · rw [e] at h
          have := (ise_inn h.2).1
          rw [hi h.1] at this; cases this
  · rw [if_neg g] at hb'
    rw [if_neg (fun h => g ⟨by omega, by omega, by rw [← bt_ext s a T N hT (by omega)]; exact h.2.2⟩)] at hb
    exact .inl ⟨hb', hb⟩
/-- Does the sign of an exponent stand at byte k? -/
def sgd (s : ByteArray) (k : Nat) : Bool := decide (bt s k = 43 ∨ bt s k = 45) && ise (bt s (k - 1))
/-- Has it the form of an integer? -/
def iok (s : ByteArray) (a e : Nat) : Bool := (igr (s.extract a e)).2 != 8
def pE (s : ByteArray) (a : Nat) : Nat := if sgd s a = true then fw inn s (a + 1) else a
/-- A number's token, the program's way: its kind and end; no end, no token. -/
def pnum (s : ByteArray) (a : Nat) : Int × Nat :=
  if bt s (fw inn s a) = 35 then (if iok s a (fw inn s (fw inn s a + 1)) = true then (3, fw inn s (fw inn s a + 1)) else (0, a))
  else if bt s (fw inn s a) = 46 ∧ beg (bt s (fw inn s a + 1)) = 3 then
    (if flt (s.extract a (pE s (fw inn s (fw inn s a + 1)))) = true then (4, pE s (fw inn s (fw inn s a + 1))) else (0, a))
  else (if iok s a (fw inn s a) = true then (3, fw inn s a) else (0, a))
theorem iok_whe {s : ByteArray} {a T : Nat} (haT : a < T) (hT : T ≤ s.size) (hi : T < s.size → inn (bt s T) = false) (h35 : ru s 10 a false a = T → T < s.size → bt s T ≠ 35) : iok s a T = decide (whe s a = T) := by
  have hz := size_ext s a T hT
  obtain ⟨h1, h2⟩ := whl_cut (by omega) hT hi h35
  obtain ⟨g1, g2⟩ := igr_whl (s.extract a T)
  rw [hz] at g1 g2
  unfold iok
  by_cases h : whe s a = T
  · rw [decide_eq_true h]
    rcases g1 ⟨by omega, by omega⟩ with ⟨i1, i2, -⟩ | ⟨p, -, -, -, -, -, p6, -, i1, i2, -⟩
    · rw [i1, nm_form]; exact i2
    · rw [i1, nm_form, show ((db (s.extract a T) p).toNat : Int) = db (s.extract a T) p from Int.toNat_of_nonneg (by omega)]; exact i2
  · rw [decide_eq_false h, g2 (fun g => h (by omega))]
    rfl
theorem fw_inn_end {s : ByteArray} {k : Nat} : fw inn s k < s.size → inn (bt s (fw inn s k)) = false := fw_not inn s k
theorem sgd_not {s : ByteArray} {k : Nat} (h : sgd s k = true) : (bt s k = 43 ∨ bt s k = 45) ∧ ise (bt s (k - 1)) = true := by
  unfold sgd at h
  rw [Bool.and_eq_true] at h
  exact ⟨of_decide_eq_true h.1, h.2⟩
theorem ru_okd {s : ByteArray} {a x : Nat} (h1 : a ≤ x) (h2 : x < ru s 10 a true a) : dg (bt s x) < 10 ∨ bt s x = 95 := by
  have := ru_all s 10 a true x h1 h2
  rw [okk_iff (by omega)] at this
  rcases this with h | ⟨-, h, -⟩
  · exact .inl h
  · exact .inr h
theorem ru_inn {s : ByteArray} {a : Nat} (_ha : a ≤ s.size) {T : Nat} (hT : T ≤ s.size) (haT : a ≤ T) (hi : T < s.size → inn (bt s T) = false) : ru s 10 a true a ≤ T := (ru_cut (a := a) (i := 0) hT hi (by omega) true (by omega)).2
theorem beg_dg {c : Int} (h : beg c = 3) : dg c < 10 := by
  have := beg_digit c
  rw [h] at this
  have h2 : (decide (48 ≤ c) && decide (c ≤ 57)) = true := by rw [← this]; rfl
  rw [Bool.and_eq_true] at h2
  have h3 := of_decide_eq_true h2.1
  have h4 := of_decide_eq_true h2.2
  unfold dg
  rw [if_pos ⟨h3, h4⟩]; omega
theorem dg_beg {c : Int} (h : dg c < 10) : beg c = 3 := by
  obtain ⟨h1, h2, -⟩ := dg_ten h
  unfold beg
  rw [if_neg (by omega), if_neg (by omega), if_pos ⟨h1, h2⟩]
theorem ru_ten_first {s : ByteArray} {a : Nat} (ha : a < s.size) (h : dg (bt s a) < 10) (un : Bool) : a < ru s 10 a un a := by
  rw [ru_go ha (okk_digit (by omega) h)]
  have := (ru_ge s 10 a un s.size (a + 1) (by omega)).1
  omega
theorem lt_of_bt {s : ByteArray} {k : Nat} (h : 0 < bt s k) : k < s.size := by
  apply Classical.byContradiction
  intro h'
  rw [bt_end s (by omega)] at h; omega
theorem ix_first {s : ByteArray} {a T : Nat} {c : Int} (h1 : a ≤ T) (h2 : T < s.size) (hc : bt s T = c) (hn : ∀ i, a ≤ i → i < T → bt s i ≠ c) : ix s c a = T := ix_is h1 (by omega) hn (fun _ => hc)
/-- IT IS THE DOCUMENT's. -/
theorem pnum_num {s : ByteArray} {a : Nat} (ha : a < s.size) (hd : beg (bt s a) = 3) : ((num s a).1 = 0 → (pnum s a).2 = a) ∧ ((num s a).1 ≠ 0 → pnum s a = num s a) := by
  obtain ⟨T, hT⟩ : ∃ T, T = fw inn s a := ⟨_, rfl⟩
  have t1 : a < T := by
    have h1 := fw_ge inn s (a + 1)
    rw [hT, fw_go ha (inn_of_beg (by omega))]
    omega
  have t2 : T ≤ s.size := by rw [hT]; exact fw_le inn s a (by omega)
  have t3 : T < s.size → inn (bt s T) = false := by rw [hT]; exact fw_inn_end
  have t4 : ∀ i, a ≤ i → i < T → inn (bt s i) = true := fun i h1 h2 => fw_all inn s a i h1 (by omega)
  have hdg := beg_dg hd
  have hn0 := ru_ten_first ha hdg true
  obtain ⟨n, hn⟩ : ∃ n, n = ru s 10 a true a := ⟨_, rfl⟩
  have hnT : n ≤ T := by rw [hn]; exact ru_inn (by omega) t2 (by omega) t3
  rw [← hn] at hn0
  have hm := ru_mono s a
  rw [← hn] at hm
  have n35 : ∀ i, a ≤ i → i < T → bt s i ≠ 35 := fun i h1 h2 e => by have := t4 i h1 h2; rw [e, inn_35] at this; cases this
  have n46 : ∀ i, a ≤ i → i < T → bt s i ≠ 46 := fun i h1 h2 e => by have := t4 i h1 h2; rw [e, inn_46] at this; cases this
  have hwn := whe_n s a
  rw [← hn] at hwn
  unfold pnum
  rw [← hT]
  by_cases c35 : bt s T = 35
  · -- a base
    have hTs : T < s.size := lt_of_bt (by omega)
    rw [if_pos c35]
    obtain ⟨E, hE⟩ : ∃ E, E = fw inn s (T + 1) := ⟨_, rfl⟩
    rw [← hE]
    have e1 : T + 1 ≤ E := by rw [hE]; exact fw_ge inn s (T + 1)
    have e2 : E ≤ s.size := by rw [hE]; exact fw_le inn s (T + 1) hTs
    have e3 : E < s.size → inn (bt s E) = false := by rw [hE]; exact fw_inn_end
    have e4 : ∀ i, T + 1 ≤ i → i < E → inn (bt s i) = true := fun i h1 h2 => fw_all inn s (T + 1) i h1 (by omega)
    have hbk : bke s a = a := by
      rw [bke_is hn rfl rfl rfl, if_neg]
      rintro ⟨-, h2, h3⟩
      by_cases h : n = T
      · rw [h, c35] at h3; omega
      · exact n46 n (by omega) (by omega) h3
    have hne : ne s a = whe s a := by unfold ne; rw [if_pos hbk]
    have hio := iok_whe (s := s) (a := a) (T := E) (by omega) e2 e3 (fun h _ => by omega)
    have hwE := (whl_cut (s := s) (a := a) (T := E) (by omega) e2 e3 (fun h _ => by omega)).2
    have hx : ix s 35 a = T := ix_first (by omega) hTs c35 n35
    rw [hio]
    by_cases hw : whe s a = E
    · rw [decide_eq_true hw, if_pos rfl]
      have : num s a = (3, E) := by
        unfold num
        rw [hne, hw, hbk, if_neg, if_neg, if_pos rfl]
        · rintro ⟨-, h2, -, h4⟩
          rw [hx] at h4; omega
        · rintro (h | ⟨h1, h2⟩)
          · omega
          · rw [e3 h1] at h2; cases h2
      rw [this]
      exact ⟨fun h => (by cases h), fun _ => rfl⟩
    · rw [decide_eq_false hw, if_neg (by decide)]
      have : (num s a).1 = 0 := by
        unfold num
        rw [hne]
        by_cases hin : inn (bt s (whe s a)) = true
        · rw [if_pos (.inr ⟨by omega, hin⟩)]
        · have hwT : whe s a = T := by
            apply Classical.byContradiction
            intro h'
            by_cases h1 : whe s a < T
            · exact hin (t4 _ (by omega) h1)
            · exact hin (e4 _ (by omega) (by omega))
          rw [hwT, hbk]
          split
          · rfl
          · rw [if_pos ⟨rfl, hTs, c35, by rw [hx]; omega⟩]
      exact ⟨fun _ => rfl, fun h => absurd this h⟩
  · rw [if_neg c35]
    by_cases c46 : bt s T = 46 ∧ beg (bt s (T + 1)) = 3
    · -- a point
      obtain ⟨c46, cd⟩ := c46
      have hTs : T < s.size := lt_of_bt (by omega)
      rw [if_pos ⟨c46, cd⟩]
      obtain ⟨E, hE⟩ : ∃ E, E = fw inn s (T + 1) := ⟨_, rfl⟩
      rw [← hE]
      have cdg := beg_dg cd
      have hT1 : T + 1 < s.size := by
        apply Classical.byContradiction
        intro h'
        rw [bt_end s (by omega)] at cdg
        exact not0 (B := 10) (by omega) cdg
      have e1 : T + 1 < E := by
        have h1 := fw_ge inn s (T + 1 + 1)
        rw [hE, fw_go hT1 (inn_of_beg (by omega))]
        omega
      have e2 : E ≤ s.size := by rw [hE]; exact fw_le inn s (T + 1) hTs
      have e3 : E < s.size → inn (bt s E) = false := by rw [hE]; exact fw_inn_end
      have e4 : ∀ i, T + 1 ≤ i → i < E → inn (bt s i) = true := fun i h1 h2 => fw_all inn s (T + 1) i h1 (by omega)
      obtain ⟨F, hF⟩ : ∃ F, F = pE s E := ⟨_, rfl⟩
      rw [← hF]
      have f0 : (sgd s E = true ∧ E < s.size ∧ E + 1 ≤ F ∧ F = fw inn s (E + 1)) ∨ (sgd s E = false ∧ F = E) := by
        unfold pE at hF
        cases hg : sgd s E
        · rw [hg] at hF; exact .inr ⟨rfl, by simpa using hF⟩
        · rw [hg, if_pos rfl] at hF
          obtain ⟨g1, -⟩ := sgd_not hg
          exact .inl ⟨rfl, lt_of_bt (by omega), by rw [hF]; exact fw_ge inn s (E + 1), hF⟩
      have f1 : E ≤ F := by rcases f0 with ⟨-, -, h, -⟩ | ⟨-, h⟩ <;> omega
      have f2 : F ≤ s.size := by
        rcases f0 with ⟨-, h1, -, h⟩ | ⟨-, h⟩
        · rw [h]; exact fw_le inn s (E + 1) h1
        · omega
      have f3 : F < s.size → inn (bt s F) = false := by
        rcases f0 with ⟨-, -, -, h⟩ | ⟨-, h⟩
        · rw [h]; exact fw_inn_end
        · rw [h]; exact e3
      have f4 : ∀ i, E + 1 ≤ i → i < F → inn (bt s i) = true := fun i h1 h2 => by
        rcases f0 with ⟨-, -, -, h⟩ | ⟨-, h⟩
        · exact fw_all inn s (E + 1) i h1 (by omega)
        · omega
      obtain ⟨K, hK⟩ : ∃ K, K = ru s 10 (n + 1) true (n + 1) := ⟨_, rfl⟩
      have hKE : n = T → T + 1 < K ∧ K ≤ E := fun h => by
        rw [hK, h]
        exact ⟨ru_ten_first hT1 cdg true, ru_inn (by omega) e2 (by omega) e3⟩
      have hbrk := brk_cut (s := s) (a := a) (T := F) (by omega) f2 f3 (fun h => by rw [← hn] at h; omega) (fun h1 h2 h3 h4 => by
        rw [← hn, ← hK] at h2
        rcases f0 with ⟨g1, g2, g3, g4⟩ | ⟨g1, g2⟩
        · by_cases hnt : n = T
          · have h7 := hKE hnt
            have h8 : F - 1 = E := by omega
            rw [h8] at h1
            rcases (sgd_not g1).1 with h9 | h9
            · rw [h9] at h1; exact absurd h1 (by decide)
            · rw [h9] at h1; exact absurd h1 (by decide)
          · -- n < T: the run from n + 1 on stays within T
            have h5 : K ≤ T := by rw [hK]; exact ru_inn (by omega) t2 (by omega) t3
            omega
        · rw [g2] at h1 h4
          unfold sgd at g1
          rw [decide_eq_true h4, h1] at g1
          cases g1)
      have hz := size_ext s a F f2
      rw [flt_brk _ (by omega), hz]
      have hx35 : bke s a ≠ a → ne s a = bke s a := fun h => by unfold ne; rw [if_neg h]
      by_cases hw : bke s a = F
      · have hbf : brk (s.extract a F) = F - a := by rcases hbrk with ⟨h, -⟩ | ⟨-, h, -⟩ <;> omega
        rw [decide_eq_true hbf, if_pos rfl]
        have hba : bke s a ≠ a := by omega
        have : num s a = (4, F) := by
          unfold num
          rw [hx35 hba, hw, if_neg, if_neg, if_neg (by omega)]
          · rintro ⟨h1, -⟩; omega
          · rintro (h | ⟨h1, h2⟩)
            · omega
            · rw [f3 h1] at h2; cases h2
        rw [this]
        exact ⟨fun h => (by cases h), fun _ => rfl⟩
      · have hbf : ¬ brk (s.extract a F) = F - a := by rcases hbrk with ⟨h, h'⟩ | ⟨-, h, -⟩ <;> omega
        rw [decide_eq_false hbf, if_neg (by decide)]
        have : (num s a).1 = 0 := by
          rcases hbrk with ⟨h1, -⟩ | ⟨h1, h2, h3⟩
          · -- no float: the run stops ahead of the point
            have hnT' : n < T := by
              apply Classical.byContradiction
              intro h'
              obtain rfl : n = T := by omega
              have hk := hKE rfl
              have hxj : K + 1 ≤ exb s (K + 1) := by unfold exb; split <;> omega
              rw [bke_is hn hK rfl rfl, if_pos ⟨by omega, hTs, c46⟩, if_neg (by omega)] at h1
              split at h1
              · split at h1 <;> omega
              · omega
            have hwT : whe s a = n := by
              rcases whe_cases s a with ⟨m, B, r, hm', -, -, -, -, q1, q2, -⟩ | ⟨q, -⟩
              · rw [hm'] at q2; exact absurd q2 (n35 _ (by have := ru_lo s 10 a false; omega) (by omega))
              · rw [q, hn]
            unfold num ne
            rw [if_pos h1, hwT, if_pos (.inr ⟨by omega, t4 n (by omega) hnT'⟩)]
          · have hin : inn (bt s (bke s a)) = true := by
              have hb := bke_is (s := s) (a := a) hn hK rfl rfl
              by_cases g : a < n ∧ n < s.size ∧ bt s n = 46
              · have hnt : n = T := by
                  apply Classical.byContradiction
                  intro h'
                  exact n46 n (by omega) (by omega) g.2.2
                obtain ⟨k1, k2⟩ := hKE hnt
                rw [if_pos g, if_neg (by omega)] at hb
                have kd : dg (bt s (K - 1)) < 10 ∨ bt s (K - 1) = 95 := ru_okd (a := n + 1) (x := K - 1) (by omega) (by omega)
                have kF : K = E → F = E := fun he => by
                  rcases f0 with ⟨g1, -⟩ | ⟨-, g2⟩
                  · have := ise_inn (sgd_not g1).2
                    rw [← he] at this
                    rcases kd with h | h
                    · exact absurd h this.2.1
                    · exact absurd h this.2.2
                  · exact g2
                split at hb
                · rename_i c
                  have kne : K < E := by
                    apply Classical.byContradiction
                    intro h'
                    have e : K = E := by omega
                    rw [e] at c
                    have := (ise_inn c.2).1
                    rw [e3 c.1] at this; cases this
                  split at hb
                  · rename_i cL
                    obtain ⟨j, hj⟩ : ∃ j, j = exb s (K + 1) := ⟨_, rfl⟩
                    rw [← hj] at hb cL
                    have hjd : dg (bt s (ru s 10 j true j - 1)) < 10 ∨ bt s (ru s 10 j true j - 1) = 95 := ru_okd (a := j) (x := ru s 10 j true j - 1) (by omega) (by omega)
                    obtain ⟨L, hL⟩ : ∃ L, L = ru s 10 j true j := ⟨_, rfl⟩
                    rw [← hL] at hb cL hjd
                    have hjK : K + 1 ≤ j := by rw [hj]; unfold exb; split <;> omega
                    by_cases l1 : L < E
                    · rw [hb]; exact e4 L (by omega) l1
                    · by_cases l2 : L = E
                      · exfalso
                        rcases f0 with ⟨g1, -⟩ | ⟨-, g2⟩
                        · have := ise_inn (sgd_not g1).2
                          rw [← l2] at this
                          rcases hjd with h | h
                          · exact absurd h this.2.1
                          · exact absurd h this.2.2
                        · omega
                      · rw [hb]; exact f4 L (by omega) (by omega)
                  · rw [hb]; exact (ise_inn c.2).1
                · rename_i c
                  have kne : K < E := by
                    apply Classical.byContradiction
                    intro h'
                    have e : K = E := by omega
                    have := kF e
                    omega
                  rw [hb]; exact e4 K (by omega) kne
              · rw [if_neg g] at hb; exact absurd hb h1
            unfold num
            rw [hx35 h1, if_pos (.inr ⟨by omega, hin⟩)]
        exact ⟨fun _ => rfl, fun h => absurd this h⟩
    · rw [if_neg c46]
      -- neither
      have hbk : bke s a = a := by
        rw [bke_is hn rfl rfl rfl]
        split
        · rename_i g
          have hnt : n = T := by
            apply Classical.byContradiction
            intro h'
            exact n46 n (by omega) (by omega) g.2.2
          rw [if_pos]
          refine ru_stop ?_
          cases ho : okk s 10 (n + 1) true (n + 1)
          · rfl
          · rw [okk_iff (by omega)] at ho
            rcases ho with h | ⟨-, -, h, -⟩
            · exact absurd ⟨by rw [← hnt]; exact g.2.2, by rw [← hnt]; exact dg_beg h⟩ c46
            · omega
        · rfl
      have hne : ne s a = whe s a := by unfold ne; rw [if_pos hbk]
      have hio := iok_whe (s := s) (a := a) (T := T) t1 t2 t3 (fun _ _ => c35)
      have hwT := (whl_cut (s := s) (a := a) (T := T) (by omega) t2 t3 (fun _ _ => c35)).2
      rw [hio]
      by_cases hw : whe s a = T
      · rw [decide_eq_true hw, if_pos rfl]
        have : num s a = (3, T) := by
          unfold num
          rw [hne, hw, hbk, if_neg, if_neg, if_pos rfl]
          · rintro ⟨-, -, h3, -⟩; exact c35 h3
          · rintro (h | ⟨h1, h2⟩)
            · omega
            · rw [t3 h1] at h2; cases h2
        rw [this]
        exact ⟨fun h => (by cases h), fun _ => rfl⟩
      · rw [decide_eq_false hw, if_neg (by decide)]
        have : (num s a).1 = 0 := by
          unfold num
          rw [hne, if_pos (.inr ⟨by omega, t4 _ (by omega) (by omega)⟩)]
        exact ⟨fun _ => rfl, fun h => absurd this h⟩
end Go.Proofs.YtajjhhodpohfpaaDoor
