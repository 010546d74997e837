/-
  The document's own Broken and Whole at any byte.
-/
import Derived.Test.YtaaijenbcfjdlaaRefInt
import Derived.Test.YtaaijenbcfjdlaaRefScanC
import Derived.Test.YtaaijenbcfjdlaaScanPure
/- The document's own Broken at any byte: none, or one without an exponent. -/
namespace Go.Proofs.Ytaaijenbcfjdlaa
open Go.RowKit Go.PlainAid

theorem run_lA (s : ByteArray) (a : Nat) (b : Int) (un : Bool) (ha : a ≤ s.size) (hs : s.size ≤ 1048576) (hb : 0 ≤ b) : ∃ l : Nat, ru s b a un a = a + l ∧ a + l ≤ s.size ∧ RunAt s (a : Nat) b un l := by
  have hg := ru_ge s b a un s.size a (by omega)
  refine ⟨ru s b a un a - a, by omega, by omega, fun W => ?_⟩
  have h := rRun_any s a b un ha hs hb W
  rw [show ((ru s b a un a - a : Nat) : Int) = (ru s b a un a : Int) - a by omega]
  exact h
def isEA (s : ByteArray) (k : Nat) : Bool := bt s k == 69 || bt s k == 101
def BrkAtA (s : ByteArray) (a : Nat) (r : Int) : Prop := ∀ W, Calls Try.prog 39 #[.string s, .int .i64 a] W fun e w' => e = .returned (.int .i64 r) ∧ ∃ q, w' = W.drewN q
theorem brkA_no (s : ByteArray) (a : Nat) (l1 : Int) (n : Nat) (hs : s.size ≤ 1048576) (hn : n ≤ s.size) (han : a ≤ n) (H1 : Hid (RunAt s (a : Nat) 10 true l1)) (eL : (a : Int) + l1 = (n : Int)) (h : ¬ (a < n ∧ n < s.size ∧ bt s n = 46)) : BrkAtA s a 0 := by
  intro w
  by_cases h0 : a < n
  · have g0 : ((n : Int) == (a : Int)) = false := beq_false_of_ne (by omega)
    by_cases h1 : n < s.size
    · have gx := get_bt s n h1
      have g1 : (bt s n != 46) = true := by
        have : bt s n ≠ 46 := fun h' => h ⟨h0, h1, h'⟩
        simpa using this
      obtain ⟨c, hc⟩ : ∃ c, c = bt s n := ⟨_, rfl⟩
      rw [← hc] at gx g1
      clear hc h
      go_enter Try.func39, Try.ntmps39
      go_wp2_with fail
      refine (H1.out _).mono ?_
      rintro e w' ⟨rfl, q1, rfl⟩
      go_wp2_with fail
      go_ret
      exact ⟨rfl, _, rfl⟩
    · have g1 : (s.size : Int) ≤ (n : Int) := by omega
      clear h
      go_enter Try.func39, Try.ntmps39
      go_wp2_with fail
      refine (H1.out _).mono ?_
      rintro e w' ⟨rfl, q1, rfl⟩
      go_wp2_with fail
      go_ret
      exact ⟨rfl, _, rfl⟩
  · obtain rfl : n = a := by omega
    clear h
    go_enter Try.func39, Try.ntmps39
    go_wp2_with fail
    refine (H1.out _).mono ?_
    rintro e w' ⟨rfl, q1, rfl⟩
    go_wp2_with fail
    go_ret
    exact ⟨rfl, _, rfl⟩
theorem brkA_end (s : ByteArray) (a : Nat) (l1 : Int) (n z : Nat) (R : Int) (hs : s.size ≤ 1048576) (h0 : a < n) (h1 : n < s.size) (h46 : bt s n = 46) (hz : n + 1 + z ≤ s.size) (H1 : Hid (RunAt s (a : Nat) 10 true l1)) (eL : (a : Int) + l1 = (n : Int)) (H2 : Hid (RunAt s ((n : Int) + 1) 10 true z)) (hR : Hid ((z = 0 → R = 0) ∧ (0 < z → R = (n : Int) + 1 + z - a)))
    (h : z = 0 ∨ (0 < z ∧ n + 1 + z = s.size) ∨ (0 < z ∧ n + 1 + z < s.size ∧ isEA s (n + 1 + z) = false)) : BrkAtA s a R := by
  intro w
  have g0 : ((n : Int) == (a : Int)) = false := beq_false_of_ne (by omega)
  have gx := get_bt s n h1
  rw [h46] at gx
  clear h46
  rcases h with h | ⟨hz0, h⟩ | ⟨hz0, h, he⟩
  · subst h
    have HF := Lib.hid (hR.out.1 rfl)
    go_enter Try.func39, Try.ntmps39
    go_wp2_with fail
    refine (H1.out _).mono ?_
    rintro e w' ⟨rfl, q1, rfl⟩
    go_wp2_with fail
    refine (H2.out _).mono ?_
    rintro e w' ⟨rfl, q2, rfl⟩
    go_wp2_with fail
    go_ret
    exact ⟨retI HF.out.symm, _, rfl⟩
  · have HF := Lib.hid (hR.out.2 hz0)
    have g1 : ((z : Int) == 0) = false := beq_false_of_ne (by omega)
    go_enter Try.func39, Try.ntmps39
    go_wp2_with fail
    refine (H1.out _).mono ?_
    rintro e w' ⟨rfl, q1, rfl⟩
    go_wp2_with fail
    refine (H2.out _).mono ?_
    rintro e w' ⟨rfl, q2, rfl⟩
    go_wp2_with fail
    go_ret
    exact ⟨retI (by have := HF.out; omega), _, rfl⟩
  · have HF := Lib.hid (hR.out.2 hz0)
    have g1 : ((z : Int) == 0) = false := beq_false_of_ne (by omega)
    have gy := get_bt s (n + 1 + z) h
    unfold isEA at he
    obtain ⟨c, hc⟩ : ∃ c, c = bt s (n + 1 + z) := ⟨_, rfl⟩
    rw [← hc] at gy he
    clear hc
    rw [Bool.or_eq_false_iff] at he
    obtain ⟨e1, e2⟩ := he
    go_enter Try.func39, Try.ntmps39
    go_wp2_with fail
    refine (H1.out _).mono ?_
    rintro e w' ⟨rfl, q1, rfl⟩
    go_wp2_with fail
    refine (H2.out _).mono ?_
    rintro e w' ⟨rfl, q2, rfl⟩
    go_wp2_with fail
    go_ret
    exact ⟨retI (by have := HF.out; omega), _, rfl⟩
end Go.Proofs.Ytaaijenbcfjdlaa
/- The document's own Whole at any byte. -/
namespace Go.Proofs.Ytaaijenbcfjdlaa
open Go.RowKit Go.PlainAid

theorem dbe_bd {s : ByteArray} {a m : Nat} (hd : ∀ i, a ≤ i → i < m → dg (bt s i) < 10) : ∀ n, a + n ≤ m → 0 ≤ dbe s a n ∧ dbe s a n < 10 ^ n
  | 0, _ => ⟨Int.le_refl _, by show (0 : Int) < 10 ^ 0; decide⟩
  | n + 1, h => by
    obtain ⟨h1, h2⟩ := dbe_bd hd n (by omega)
    obtain ⟨d1, d2, -⟩ := dg_ten (hd (a + n) (by omega) (by omega))
    simp only [dbe]
    rw [Int.pow_succ]
    omega
set_option maxRecDepth 100000 in
set_option maxHeartbeats 4000000 in
/-- WHOLE, where a base may stand. -/
theorem wholeA_based (s : ByteArray) (a : Nat) (n l2 : Int) (m : Nat) (K : Int) (R : Int) (hs : s.size ≤ 1048576) (H1 : Hid (RunAt s (a : Nat) 10 true n)) (H2 : Hid (RunAt s (a : Nat) 10 false l2)) (eL : (a : Int) + l2 = (m : Int)) (h0 : a < m) (h3 : m < a + 3) (hlt : m < s.size) (h35 : bt s m = 35)
    (hd : Hid (∀ i, a ≤ i → i < m → dg (bt s i) < 10)) (H3 : Hid (RunAt s ((m : Int) + 1) (dbe s a (m - a)) true (K - ((m : Int) + 1)))) (hK : (m : Int) + 1 ≤ K) (hK' : K ≤ s.size) (hgo : Hid (2 ≤ dbe s a (m - a) ∧ dbe s a (m - a) ≤ 36 ∧ (m : Int) + 1 < K → R = K - a)) (hno : Hid (¬ (2 ≤ dbe s a (m - a) ∧ dbe s a (m - a) ≤ 36 ∧ (m : Int) + 1 < K) → R = n)) (w : World) :
    Calls Try.prog 40 #[.string s, .int .i64 a] w fun e w' => e = .returned (.int .i64 R) ∧ ∃ n, w' = w.drewN n := by
  have gx := get_bt s m hlt
  rw [h35] at gx
  clear h35
  have HG := Lib.hid (get_bt s)
  have g0 : (0 : Int) < l2 := by omega
  have g3 : l2 < 3 := by omega
  have g4 : (m : Int) < (s.size : Int) := by omega
  obtain ⟨B, hB⟩ : ∃ B, B = dbe s a (m - a) := ⟨_, rfl⟩
  rw [← hB] at H3 hgo hno
  have HB := Lib.hid hB
  have hB0 : 0 ≤ B := by rw [hB]; exact (dbe_bd hd.out (m - a) (by omega)).1
  clear hB
  obtain ⟨Z, hZ⟩ : ∃ Z : Int, Z = K - ((m : Int) + 1) := ⟨_, rfl⟩
  rw [← hZ] at H3
  go_enter Try.func40, Try.ntmps40
  go_wp2_with fail
  refine (H1.out _).mono ?_
  rintro e w' ⟨rfl, q1, rfl⟩
  go_wp2_with fail
  refine (H2.out _).mono ?_
  rintro e w' ⟨rfl, q2, rfl⟩
  go_wp2_with fail
  go_loopg [7, 8] (m - a) (fun gn v i wr => ∃ (k : Nat) (x : Int), gn = m - k ∧ a ≤ k ∧ k ≤ m ∧ v = .int .i64 x ∧ i = .int .i64 k ∧ 0 ≤ x ∧ x < 100 ∧ Hid (x = dbe s a (k - a)) ∧ Hid (∃ q, wr = w.drewN q))
  case atStart => exact ⟨a, 0, rfl, Nat.le_refl _, by omega, rfl, rfl, Int.le_refl _, by omega, Lib.hid (by rw [Nat.sub_self]; rfl), Lib.hid ⟨_, rfl⟩⟩
  case round =>
    obtain ⟨k, x, hgn, hak, hk, rfl, rfl, x0, x1, HX, HW⟩ := hrel
    obtain ⟨q0, rfl⟩ := HW.out
    by_cases hkm : k < m
    · have g1 : (k : Int) < (m : Int) := by omega
      have gk := HG.out k (by omega)
      obtain ⟨d1, d2, -⟩ := dg_ten (hd.out k hak hkm)
      have hdb : dbe s a (k + 1 - a) = dbe s a (k - a) * 10 + (bt s k - 48) := by
        rw [show k + 1 - a = (k - a) + 1 by omega]
        simp only [dbe]
        rw [show a + (k - a) = k by omega]
      have HN := Lib.hid (show x * 10 + (bt s k - 48) = dbe s a (k + 1 - a) by rw [HX.out, hdb])
      have hb := dbe_bd (s := s) (m := m) hd.out (k + 1 - a) (by omega)
      have hp : (10 : Int) ^ (k + 1 - a) ≤ 100 := by
        have h1 := pow_bd 10 (by omega) (k + 1 - a) 2 (by omega)
        have h2 : (10 : Int) ^ 2 = 100 := by decide
        omega
      have hb1 : x * 10 + (bt s k - 48) < 100 := by rw [HN.out]; omega
      obtain ⟨c, hc⟩ : ∃ c, c = bt s k := ⟨_, rfl⟩
      rw [← hc] at gk d1 d2 HN hb1
      clear hc hb hp hdb
      have wc : IntKind.u8.wrap (c - 48) = c - 48 := by rw [IntKind.wrap_u8]; omega
      go_wp2_with fail
      go_roundg (m - (k + 1))
      case measure => omega
      case rel => exact ⟨k + 1, x * 10 + (c - 48), rfl, by omega, by omega, rfl, by go_num, by omega, hb1, HN, Lib.hid ⟨_, rfl⟩⟩
    · obtain rfl : k = m := by omega
      have hxB : x = B := by rw [HX.out, HB.out]
      subst hxB
      go_wp2_with fail
      refine (H3.out _).mono ?_
      rintro e w' ⟨rfl, q1, rfl⟩
      by_cases c1 : 2 ≤ x
      · by_cases c2 : x ≤ 36
        · by_cases c3 : 0 < Z
          · have HF := Lib.hid (hgo.out ⟨c1, c2, by omega⟩)
            go_wp2_with fail
            go_ret
            exact ⟨retI (by have := HF.out; omega), _, rfl⟩
          · have HF := Lib.hid (hno.out (by omega))
            go_wp2_with fail
            go_ret
            exact ⟨retI HF.out.symm, _, rfl⟩
        · have HF := Lib.hid (hno.out (by omega))
          go_wp2_with fail
          go_ret
          exact ⟨retI HF.out.symm, _, rfl⟩
      · have HF := Lib.hid (hno.out (by omega))
        go_wp2_with fail
        go_ret
        exact ⟨retI HF.out.symm, _, rfl⟩
theorem wholeA_plain (s : ByteArray) (a : Nat) (n l2 : Int) (m : Nat) (R : Int) (hs : s.size ≤ 1048576) (H1 : Hid (RunAt s (a : Nat) 10 true n)) (H2 : Hid (RunAt s (a : Nat) 10 false l2)) (eL : (a : Int) + l2 = (m : Int)) (h : m = a ∨ (a < m ∧ a + 3 ≤ m) ∨ (a < m ∧ m < a + 3 ∧ m = s.size) ∨ (a < m ∧ m < a + 3 ∧ m < s.size ∧ bt s m ≠ 35)) (hR : Hid (n = R)) (w : World) :
    Calls Try.prog 40 #[.string s, .int .i64 a] w fun e w' => e = .returned (.int .i64 R) ∧ ∃ n, w' = w.drewN n := by
  rcases h with h | ⟨h0, h⟩ | ⟨h0, h1, h⟩ | ⟨h0, h1, h2, h⟩
  · have g0 : ¬ (0 : Int) < l2 := by omega
    go_enter Try.func40, Try.ntmps40
    go_wp2_with fail
    refine (H1.out _).mono ?_
    rintro e w' ⟨rfl, q1, rfl⟩
    go_wp2_with fail
    refine (H2.out _).mono ?_
    rintro e w' ⟨rfl, q2, rfl⟩
    go_wp2_with fail
    go_ret
    exact ⟨retI hR.out, _, rfl⟩
  · have g0 : (0 : Int) < l2 := by omega
    have g1 : ¬ l2 < 3 := by omega
    go_enter Try.func40, Try.ntmps40
    go_wp2_with fail
    refine (H1.out _).mono ?_
    rintro e w' ⟨rfl, q1, rfl⟩
    go_wp2_with fail
    refine (H2.out _).mono ?_
    rintro e w' ⟨rfl, q2, rfl⟩
    go_wp2_with fail
    go_ret
    exact ⟨retI hR.out, _, rfl⟩
  · have g0 : (0 : Int) < l2 := by omega
    have g1 : l2 < 3 := by omega
    have g2 : ¬ (m : Int) < (s.size : Int) := by omega
    go_enter Try.func40, Try.ntmps40
    go_wp2_with fail
    refine (H1.out _).mono ?_
    rintro e w' ⟨rfl, q1, rfl⟩
    go_wp2_with fail
    refine (H2.out _).mono ?_
    rintro e w' ⟨rfl, q2, rfl⟩
    go_wp2_with fail
    go_ret
    exact ⟨retI hR.out, _, rfl⟩
  · have g0 : (0 : Int) < l2 := by omega
    have g1 : l2 < 3 := by omega
    have g2 : (m : Int) < (s.size : Int) := by omega
    have gx := get_bt s m h2
    have g3 : (bt s m == 35) = false := beq_false_of_ne h
    obtain ⟨c, hc⟩ : ∃ c, c = bt s m := ⟨_, rfl⟩
    rw [← hc] at gx g3
    clear hc h
    go_enter Try.func40, Try.ntmps40
    go_wp2_with fail
    refine (H1.out _).mono ?_
    rintro e w' ⟨rfl, q1, rfl⟩
    go_wp2_with fail
    refine (H2.out _).mono ?_
    rintro e w' ⟨rfl, q2, rfl⟩
    go_wp2_with fail
    go_ret
    exact ⟨retI hR.out, _, rfl⟩
/-- WHOLE. -/
theorem rWholeA_any (s : ByteArray) (a : Nat) (ha : a ≤ s.size) (hs : s.size ≤ 1048576) (w : World) :
    Calls Try.prog 40 #[.string s, .int .i64 a] w fun e w' => e = .returned (.int .i64 ((whe s a : Int) - a)) ∧ ∃ n, w' = w.drewN n := by
  obtain ⟨n, hn, hns, H1⟩ := run_lA s a 10 true ha hs (by omega)
  obtain ⟨l2, hm, hms, H2⟩ := run_lA s a 10 false ha hs (by omega)
  have hmd : ∀ i, a ≤ i → i < a + l2 → dg (bt s i) < 10 := fun i h1 h2 => by
    have := ru_all s 10 a false i h1 (by omega)
    rw [okk_iff (by omega)] at this
    rcases this with h | ⟨h, -⟩
    · exact h
    · cases h
  have hw : whe s a = if (a < a + l2 ∧ a + l2 < a + 3 ∧ a + l2 < s.size ∧ bt s (a + l2) = 35) ∧ 2 ≤ dbe s a l2 ∧ dbe s a l2 ≤ 36 ∧ a + l2 + 1 < ru s (dbe s a l2) (a + l2 + 1) true (a + l2 + 1) then ru s (dbe s a l2) (a + l2 + 1) true (a + l2 + 1) else a + n := by
    unfold whe; simp only; rw [hn, hm, show a + l2 - a = l2 by omega]
  by_cases h : a < a + l2 ∧ a + l2 < a + 3 ∧ a + l2 < s.size ∧ bt s (a + l2) = 35
  · obtain ⟨h0, h3, hlt, h35⟩ := h
    have hd0 := (dbe_bd hmd l2 (Nat.le_refl _)).1
    have H3 := run_at1 s (a + l2) (dbe s a l2) true hlt hs hd0
    have hg := ru_ge s (dbe s a l2) (a + l2 + 1) true s.size (a + l2 + 1) (by omega)
    have hg2 := hg.2 (by omega)
    refine wholeA_based s a n l2 (a + l2) (ru s (dbe s a l2) (a + l2 + 1) true (a + l2 + 1) : Nat) _ hs (Lib.hid H1) (Lib.hid H2) (by omega) h0 h3 hlt h35 (Lib.hid hmd) (Lib.hid (by rw [show a + l2 - a = l2 by omega]; exact H3)) (by omega) (by omega) (Lib.hid fun h => ?_) (Lib.hid fun h => ?_) w
    · rw [show a + l2 - a = l2 by omega] at h
      rw [hw, if_pos ⟨⟨h0, h3, hlt, h35⟩, h.1, h.2.1, by omega⟩]
    · rw [show a + l2 - a = l2 by omega] at h
      rw [hw, if_neg (by rintro ⟨-, h1, h2, h3⟩; exact h ⟨h1, h2, by omega⟩)]; omega
  · refine wholeA_plain s a n l2 (a + l2) _ hs (Lib.hid H1) (Lib.hid H2) (by omega) (by omega) (Lib.hid (by rw [hw, if_neg (fun h' => h h'.1)]; omega)) w
end Go.Proofs.Ytaaijenbcfjdlaa
/- The document's own Broken at any byte: with an exponent. -/
namespace Go.Proofs.Ytaaijenbcfjdlaa
open Go.RowKit Go.PlainAid

set_option maxRecDepth 100000 in
set_option maxHeartbeats 4000000 in
theorem brkA_exp (s : ByteArray) (a : Nat) (l1 : Int) (n z l : Nat) (R : Int) (hs : s.size ≤ 1048576) (h0 : a < n) (h1 : n < s.size) (h46 : bt s n = 46) (hz0 : 0 < z) (hz : n + 1 + z < s.size) (H1 : Hid (RunAt s (a : Nat) 10 true l1)) (eL : (a : Int) + l1 = (n : Int)) (H2 : Hid (RunAt s ((n : Int) + 1) 10 true z))
    (hE : isEA s (n + 1 + z) = true) (hl : n + 1 + z + 2 + l ≤ s.size + 2)
    (h : (RunAt s ((n : Int) + 1 + z + 1) 10 true l ∧ (n + 1 + z + 1 = s.size ∨ (n + 1 + z + 1 < s.size ∧ ¬ (bt s (n + 1 + z + 1) = 43 ∨ bt s (n + 1 + z + 1) = 45))) ∧ (0 < l → R = (n : Int) + 1 + z + 1 + l - a) ∧ (l = 0 → R = (n : Int) + 1 + z - a)) ∨
      (RunAt s ((n : Int) + 1 + z + 1 + 1) 10 true l ∧ n + 1 + z + 1 < s.size ∧ (bt s (n + 1 + z + 1) = 43 ∨ bt s (n + 1 + z + 1) = 45) ∧ (0 < l → R = (n : Int) + 1 + z + 1 + 1 + l - a) ∧ (l = 0 → R = (n : Int) + 1 + z - a))) : BrkAtA s a R := by
  intro w
  have g0 : ((n : Int) == (a : Int)) = false := beq_false_of_ne (by omega)
  have gx := get_bt s n h1
  rw [h46] at gx
  clear h46
  have g1 : ((z : Int) == 0) = false := beq_false_of_ne (by omega)
  have gy := get_bt s (n + 1 + z) hz
  obtain ⟨c, hc⟩ : ∃ c, c = bt s (n + 1 + z) := ⟨_, rfl⟩
  have hE2 : (c == 101) = true ∨ ((c == 101) = false ∧ (c == 69) = true) := by
    unfold isEA at hE
    rw [← hc] at hE
    cases h1 : (c == 101)
    · rw [h1, Bool.or_false] at hE; exact .inr ⟨rfl, hE⟩
    · exact .inl rfl
  rw [← hc] at gy
  clear hc hE
  rcases h with ⟨H3, hs2, hR1, hR2⟩ | ⟨H3, hs2, hsg, hR1, hR2⟩
  · have H3 := Lib.hid H3
    have hR1 := Lib.hid hR1
    have hR2 := Lib.hid hR2
    rcases hs2 with hs2 | ⟨hs2, hsg⟩
    · rcases hE2 with e1 | ⟨e1, e2⟩
      all_goals
        by_cases hl0 : 0 < l
        · have HF := Lib.hid (hR1.out hl0)
          go_enter Try.func39, Try.ntmps39
          go_wp2_with fail
          refine (H1.out _).mono ?_
          rintro e w' ⟨rfl, q1, rfl⟩
          go_wp2_with fail
          refine (H2.out _).mono ?_
          rintro e w' ⟨rfl, q2, rfl⟩
          go_wp2_with fail
          refine (H3.out _).mono ?_
          rintro e w' ⟨rfl, q3, rfl⟩
          go_wp2_with fail
          go_ret
          exact ⟨retI (by have := HF.out; omega), _, rfl⟩
        · obtain rfl : l = 0 := by omega
          have HF := Lib.hid (hR2.out rfl)
          go_enter Try.func39, Try.ntmps39
          go_wp2_with fail
          refine (H1.out _).mono ?_
          rintro e w' ⟨rfl, q1, rfl⟩
          go_wp2_with fail
          refine (H2.out _).mono ?_
          rintro e w' ⟨rfl, q2, rfl⟩
          go_wp2_with fail
          refine (H3.out _).mono ?_
          rintro e w' ⟨rfl, q3, rfl⟩
          go_wp2_with fail
          go_ret
          exact ⟨retI (by have := HF.out; omega), _, rfl⟩
    · have gd := get_bt s (n + 1 + z + 1) hs2
      have s1 : (bt s (n + 1 + z + 1) == 43) = false := beq_false_of_ne (fun h => hsg (.inl h))
      have s2 : (bt s (n + 1 + z + 1) == 45) = false := beq_false_of_ne (fun h => hsg (.inr h))
      obtain ⟨d, hd⟩ : ∃ d, d = bt s (n + 1 + z + 1) := ⟨_, rfl⟩
      rw [← hd] at gd s1 s2
      clear hd hsg
      rcases hE2 with e1 | ⟨e1, e2⟩
      all_goals
        by_cases hl0 : 0 < l
        · have HF := Lib.hid (hR1.out hl0)
          go_enter Try.func39, Try.ntmps39
          go_wp2_with fail
          refine (H1.out _).mono ?_
          rintro e w' ⟨rfl, q1, rfl⟩
          go_wp2_with fail
          refine (H2.out _).mono ?_
          rintro e w' ⟨rfl, q2, rfl⟩
          go_wp2_with fail
          refine (H3.out _).mono ?_
          rintro e w' ⟨rfl, q3, rfl⟩
          go_wp2_with fail
          go_ret
          exact ⟨retI (by have := HF.out; omega), _, rfl⟩
        · obtain rfl : l = 0 := by omega
          have HF := Lib.hid (hR2.out rfl)
          go_enter Try.func39, Try.ntmps39
          go_wp2_with fail
          refine (H1.out _).mono ?_
          rintro e w' ⟨rfl, q1, rfl⟩
          go_wp2_with fail
          refine (H2.out _).mono ?_
          rintro e w' ⟨rfl, q2, rfl⟩
          go_wp2_with fail
          refine (H3.out _).mono ?_
          rintro e w' ⟨rfl, q3, rfl⟩
          go_wp2_with fail
          go_ret
          exact ⟨retI (by have := HF.out; omega), _, rfl⟩
  · have H3 := Lib.hid H3
    have hR1 := Lib.hid hR1
    have hR2 := Lib.hid hR2
    have gd := get_bt s (n + 1 + z + 1) hs2
    obtain ⟨d, hd⟩ : ∃ d, d = bt s (n + 1 + z + 1) := ⟨_, rfl⟩
    have hS : (d == 43) = true ∨ ((d == 43) = false ∧ (d == 45) = true) := by
      rw [← hd] at hsg
      rcases hsg with h | h
      · rw [h]; exact .inl rfl
      · rw [h]; exact .inr ⟨rfl, rfl⟩
    rw [← hd] at gd
    clear hd hsg
    rcases hE2 with e1 | ⟨e1, e2⟩
    all_goals
      rcases hS with s1 | ⟨s1, s2⟩
      all_goals
        by_cases hl0 : 0 < l
        · have HF := Lib.hid (hR1.out hl0)
          go_enter Try.func39, Try.ntmps39
          go_wp2_with fail
          refine (H1.out _).mono ?_
          rintro e w' ⟨rfl, q1, rfl⟩
          go_wp2_with fail
          refine (H2.out _).mono ?_
          rintro e w' ⟨rfl, q2, rfl⟩
          go_wp2_with fail
          refine (H3.out _).mono ?_
          rintro e w' ⟨rfl, q3, rfl⟩
          go_wp2_with fail
          go_ret
          exact ⟨retI (by have := HF.out; omega), _, rfl⟩
        · obtain rfl : l = 0 := by omega
          have HF := Lib.hid (hR2.out rfl)
          go_enter Try.func39, Try.ntmps39
          go_wp2_with fail
          refine (H1.out _).mono ?_
          rintro e w' ⟨rfl, q1, rfl⟩
          go_wp2_with fail
          refine (H2.out _).mono ?_
          rintro e w' ⟨rfl, q2, rfl⟩
          go_wp2_with fail
          refine (H3.out _).mono ?_
          rintro e w' ⟨rfl, q3, rfl⟩
          go_wp2_with fail
          go_ret
          exact ⟨retI (by have := HF.out; omega), _, rfl⟩
end Go.Proofs.Ytaaijenbcfjdlaa
