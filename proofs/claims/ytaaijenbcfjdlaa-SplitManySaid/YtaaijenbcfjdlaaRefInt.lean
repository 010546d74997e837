/-
  The contracts of the document's own Whole and Integer.
-/
import Derived.Test.YtaaijenbcfjdlaaRefIntMath
import Derived.Test.YtaaijenbcfjdlaaRefRun
namespace Go.Proofs.Ytaaijenbcfjdlaa
open Go.RowKit Go.PlainAid

/-- What Run answers at byte a. -/
def RunAt (s : ByteArray) (a : Int) (b : Int) (un : Bool) (r : Int) : Prop := ∀ W, Calls Try.prog 44 #[.string s, .int .i64 a, .int .i64 b, .bool un] W fun e w' => e = .returned (.int .i64 r) ∧ ∃ n, w' = W.drewN n
theorem run_at0 (s : ByteArray) (b : Int) (un : Bool) (hs : s.size ≤ 1048576) (hb : 0 ≤ b) : RunAt s 0 b un (ru s b 0 un 0 : Nat) := fun W => by
  have h := rRun_any s 0 b un (Nat.zero_le _) hs hb W
  rw [show ((0 : Nat) : Int) = 0 from rfl, Int.sub_zero] at h
  exact h
theorem run_at1 (s : ByteArray) (a : Nat) (b : Int) (un : Bool) (ha : a < s.size) (hs : s.size ≤ 1048576) (hb : 0 ≤ b) : RunAt s ((a : Int) + 1) b un ((ru s b (a + 1) un (a + 1) : Nat) - ((a : Int) + 1)) := fun W => by
  have h := rRun_any s (a + 1) b un ha hs hb W
  rw [show ((a + 1 : Nat) : Int) = (a : Int) + 1 from rfl] at h
  exact h
set_option maxRecDepth 100000 in
set_option maxHeartbeats 4000000 in
/-- WHOLE, where a base may stand. -/
theorem whole_based (s : ByteArray) (n m : Nat) (K : Int) (R : Nat) (hs : s.size ≤ 1048576) (H1 : Hid (RunAt s 0 10 true n)) (H2 : Hid (RunAt s 0 10 false m)) (h0 : 0 < m) (h3 : m < 3) (hlt : m < s.size) (h35 : bt s m = 35)
    (hd : Hid (∀ i, i < m → dg (bt s i) < 10)) (H3 : Hid (RunAt s ((m : Int) + 1) (db s m) true (K - ((m : Int) + 1)))) (hK : (m : Int) + 1 ≤ K) (hK' : K ≤ s.size) (hR : Hid (whl s = R)) (hgo : Hid (2 ≤ db s m ∧ db s m ≤ 36 ∧ (m : Int) + 1 < K → (R : Int) = K)) (hno : Hid (¬ (2 ≤ db s m ∧ db s m ≤ 36 ∧ (m : Int) + 1 < K) → R = n)) (w : World) :
    Calls Try.prog 40 #[.string s, .int .i64 0] w fun e w' => e = .returned (.int .i64 (whl s : Nat)) ∧ ∃ n, w' = w.drewN n := by
  have gx := get_bt s m hlt
  rw [h35] at gx
  clear h35
  have HG := Lib.hid (get_bt s)
  rw [hR.out]
  have g0 : (0 : Int) < (m : Int) := by omega
  have g3 : (m : Int) < 3 := by omega
  have g4 : (m : Int) < (s.size : Int) := by omega
  obtain ⟨B, hB⟩ : ∃ B, B = db s m := ⟨_, rfl⟩
  rw [← hB] at H3 hgo hno
  have HB := Lib.hid hB
  have hB0 : 0 ≤ B := by rw [hB]; exact (db_bd hd.out m (Nat.le_refl _)).1
  clear hB
  obtain ⟨Z, hZ⟩ : ∃ Z : Int, Z = K - ((m : Int) + 1) := ⟨_, rfl⟩
  rw [← hZ] at H3
  go_enter Try.func40, Try.ntmps40
  go_wp2_with fail
  refine (H1.out _).mono ?_
  rintro e w' ⟨rfl, q1, rfl⟩
  go_wp2_with fail
  refine (H2.out _).mono ?_
  rintro e w' ⟨rfl, q2, rfl⟩
  go_wp2_with fail
  go_loopg [7, 8] m (fun gn v i wr => ∃ (k : Nat) (x : Int), gn = m - k ∧ k ≤ m ∧ v = .int .i64 x ∧ i = .int .i64 k ∧ 0 ≤ x ∧ x < 100 ∧ Hid (x = db s k) ∧ Hid (∃ q, wr = w.drewN q))
  case atStart => exact ⟨0, 0, rfl, Nat.zero_le _, rfl, rfl, Int.le_refl _, by omega, Lib.hid rfl, Lib.hid ⟨_, rfl⟩⟩
  case round =>
    obtain ⟨k, x, hgn, hk, rfl, rfl, x0, x1, HX, HW⟩ := hrel
    obtain ⟨q0, rfl⟩ := HW.out
    by_cases hkm : k < m
    · have g1 : (k : Int) < (m : Int) := by omega
      have gk := HG.out k (by omega)
      obtain ⟨d1, d2, -⟩ := dg_ten (hd.out k hkm)
      have HN := Lib.hid (show x * 10 + (bt s k - 48) = db s (k + 1) by rw [HX.out]; rfl)
      have hb := db_bd (s := s) (m := m) hd.out (k + 1) (by omega)
      have hp : (10 : Int) ^ (k + 1) ≤ 100 := by
        have h1 := pow_bd 10 (by omega) (k + 1) 2 (by omega)
        have h2 : (10 : Int) ^ 2 = 100 := by decide
        omega
      have hb1 : x * 10 + (bt s k - 48) < 100 := by rw [HN.out]; omega
      obtain ⟨c, hc⟩ : ∃ c, c = bt s k := ⟨_, rfl⟩
      rw [← hc] at gk d1 d2 HN hb1
      clear hc hb hp
      have wc : IntKind.u8.wrap (c - 48) = c - 48 := by rw [IntKind.wrap_u8]; omega
      go_wp2_with fail
      go_roundg (m - (k + 1))
      case measure => omega
      case rel => exact ⟨k + 1, x * 10 + (c - 48), rfl, by omega, rfl, by go_num, by omega, hb1, HN, Lib.hid ⟨_, rfl⟩⟩
    · obtain rfl : k = m := by omega
      have hxB : x = B := by rw [HX.out, HB.out]
      subst hxB
      go_wp2_with fail
      refine (H3.out _).mono ?_
      rintro e w' ⟨rfl, q1, rfl⟩
      by_cases c1 : 2 ≤ x
      · by_cases c2 : x ≤ 36
        · by_cases c3 : 0 < Z
          · have HF := Lib.hid (hgo.out ⟨c1, c2, by omega⟩)
            go_wp2_with fail
            go_ret
            exact ⟨ret_int (by rw [HF.out]; omega), _, rfl⟩
          · have HF := Lib.hid (hno.out (by omega))
            go_wp2_with fail
            go_ret
            exact ⟨ret_int (by rw [HF.out]), _, rfl⟩
        · have HF := Lib.hid (hno.out (by omega))
          go_wp2_with fail
          go_ret
          exact ⟨ret_int (by rw [HF.out]), _, rfl⟩
      · have HF := Lib.hid (hno.out (by omega))
        go_wp2_with fail
        go_ret
        exact ⟨ret_int (by rw [HF.out]), _, rfl⟩
theorem whole_plain (s : ByteArray) (n m : Nat) (H1 : Hid (RunAt s 0 10 true n)) (H2 : Hid (RunAt s 0 10 false m)) (h : m = 0 ∨ (0 < m ∧ 3 ≤ m) ∨ (0 < m ∧ m < 3 ∧ m = s.size) ∨ (0 < m ∧ m < 3 ∧ m < s.size ∧ bt s m ≠ 35)) (hR : Hid (whl s = n)) (w : World) :
    Calls Try.prog 40 #[.string s, .int .i64 0] w fun e w' => e = .returned (.int .i64 (whl s : Nat)) ∧ ∃ n, w' = w.drewN n := by
  rw [hR.out]
  rcases h with h | ⟨h0, h⟩ | ⟨h0, h1, h⟩ | ⟨h0, h1, h2, h⟩
  · have g0 : ¬ (0 : Int) < (m : Int) := by omega
    go_enter Try.func40, Try.ntmps40
    go_wp2_with fail
    refine (H1.out _).mono ?_
    rintro e w' ⟨rfl, q1, rfl⟩
    go_wp2_with fail
    refine (H2.out _).mono ?_
    rintro e w' ⟨rfl, q2, rfl⟩
    go_wp2_with fail
    go_ret
    exact ⟨rfl, _, rfl⟩
  · have g0 : (0 : Int) < (m : Int) := by omega
    have g1 : ¬ (m : Int) < 3 := by omega
    go_enter Try.func40, Try.ntmps40
    go_wp2_with fail
    refine (H1.out _).mono ?_
    rintro e w' ⟨rfl, q1, rfl⟩
    go_wp2_with fail
    refine (H2.out _).mono ?_
    rintro e w' ⟨rfl, q2, rfl⟩
    go_wp2_with fail
    go_ret
    exact ⟨rfl, _, rfl⟩
  · have g0 : (0 : Int) < (m : Int) := by omega
    have g1 : (m : Int) < 3 := by omega
    have g2 : ¬ (m : Int) < (s.size : Int) := by omega
    go_enter Try.func40, Try.ntmps40
    go_wp2_with fail
    refine (H1.out _).mono ?_
    rintro e w' ⟨rfl, q1, rfl⟩
    go_wp2_with fail
    refine (H2.out _).mono ?_
    rintro e w' ⟨rfl, q2, rfl⟩
    go_wp2_with fail
    go_ret
    exact ⟨rfl, _, rfl⟩
  · have g0 : (0 : Int) < (m : Int) := by omega
    have g1 : (m : Int) < 3 := by omega
    have g2 : (m : Int) < (s.size : Int) := by omega
    have gx := get_bt s m h2
    have g3 : (bt s m == 35) = false := beq_false_of_ne h
    obtain ⟨c, hc⟩ : ∃ c, c = bt s m := ⟨_, rfl⟩
    rw [← hc] at gx g3
    clear hc h
    go_enter Try.func40, Try.ntmps40
    go_wp2_with fail
    refine (H1.out _).mono ?_
    rintro e w' ⟨rfl, q1, rfl⟩
    go_wp2_with fail
    refine (H2.out _).mono ?_
    rintro e w' ⟨rfl, q2, rfl⟩
    go_wp2_with fail
    go_ret
    exact ⟨rfl, _, rfl⟩
/-- WHOLE. -/
theorem rWhole_any (s : ByteArray) (hs : s.size ≤ 1048576) (w : World) :
    Calls Try.prog 40 #[.string s, .int .i64 0] w fun e w' => e = .returned (.int .i64 (whl s : Nat)) ∧ ∃ n, w' = w.drewN n := by
  have H1 := Lib.hid (run_at0 s 10 true hs (by omega))
  have H2 := Lib.hid (run_at0 s 10 false hs (by omega))
  obtain ⟨m, hm⟩ : ∃ m, m = ru s 10 0 false 0 := ⟨_, rfl⟩
  obtain ⟨n, hn⟩ : ∃ n, n = ru s 10 0 true 0 := ⟨_, rfl⟩
  have hms : m ≤ s.size := by rw [hm]; exact (ru_ge s 10 0 false s.size 0 (by omega)).2 (by omega)
  have hmd : ∀ i, i < m → dg (bt s i) < 10 := fun i hi => run_digits (by rw [← hm]; exact hi)
  have hw : whl s = if (0 < m ∧ m < 3 ∧ m < s.size ∧ bt s m = 35) ∧ 2 ≤ db s m ∧ db s m ≤ 36 ∧ m + 1 < ru s (db s m) (m + 1) true (m + 1) then ru s (db s m) (m + 1) true (m + 1) else n := by
    unfold whl; rw [← hm, ← hn]
  rw [← hn] at H1
  rw [← hm] at H2
  by_cases h : 0 < m ∧ m < 3 ∧ m < s.size ∧ bt s m = 35
  · obtain ⟨h0, h3, hlt, h35⟩ := h
    have H3 := Lib.hid (run_at1 s m (db s m) true hlt hs (db_bd hmd m (Nat.le_refl _)).1)
    have hg := ru_ge s (db s m) (m + 1) true s.size (m + 1) (by omega)
    have hg2 := hg.2 (by omega)
    refine whole_based s n m (ru s (db s m) (m + 1) true (m + 1) : Nat) (whl s) hs H1 H2 h0 h3 hlt h35 hmd H3 (by omega) (by omega) rfl (fun h => ?_) (fun h => ?_) w
    · rw [hw, if_pos ⟨⟨h0, h3, hlt, h35⟩, h.1, h.2.1, by omega⟩]
    · rw [hw, if_neg (by rintro ⟨-, h1, h2, h3⟩; exact h ⟨h1, h2, by omega⟩)]
  · refine whole_plain s n m H1 H2 (by omega) (Lib.hid (by rw [hw, if_neg (fun h' => h h'.1)])) w
end Go.Proofs.Ytaaijenbcfjdlaa
