/-
  The walks through the document's own Broken and Float.
-/
import Derived.Test.YtnejkdaiopjchaaDoorRefFloat
namespace Go.Proofs.YtnejkdaiopjchaaDoor
open Go.RowKit Go.PlainAid

theorem run_l (s : ByteArray) (a : Nat) (b : Int) (un : Bool) (ha : a ≤ s.size) (hs : s.size ≤ 1048576) (hb : 0 ≤ b) : ∃ l : Nat, ru s b a un a = a + l ∧ a + l ≤ s.size ∧ RunAt s (a : Nat) b un l := by
  have hg := ru_ge s b a un s.size a (by omega)
  refine ⟨ru s b a un a - a, by omega, by omega, fun W => ?_⟩
  have h := rRun_any s a b un ha hs hb W
  rw [show ((ru s b a un a - a : Nat) : Int) = (ru s b a un a : Int) - a by omega]
  exact h
def BrkAt (s : ByteArray) (r : Int) : Prop := ∀ W, Calls Tryd.prog 39 #[.string s, .int .i64 0] W fun e w' => e = .returned (.int .i64 r) ∧ ∃ q, w' = W.drewN q
theorem brk_no (s : ByteArray) (n : Nat) (hs : s.size ≤ 1048576) (hn : n ≤ s.size) (H1 : Hid (RunAt s 0 10 true n)) (h : ¬ (0 < n ∧ n < s.size ∧ bt s n = 46)) : BrkAt s 0 := by
  intro w
  by_cases h0 : 0 < n
  · have g0 : ((n : Int) == 0) = false := beq_false_of_ne (by omega)
    by_cases h1 : n < s.size
    · have gx := get_bt s n h1
      have g1 : (bt s n != 46) = true := by
        have : bt s n ≠ 46 := fun h' => h ⟨h0, h1, h'⟩
        simpa using this
      obtain ⟨c, hc⟩ : ∃ c, c = bt s n := ⟨_, rfl⟩
      rw [← hc] at gx g1
      clear hc h
      go_enter Tryd.func39, Tryd.ntmps39
      go_wp2_with fail
      refine (H1.out _).mono ?_
      rintro e w' ⟨rfl, q1, rfl⟩
      go_wp2_with fail
      go_ret
      exact ⟨rfl, _, rfl⟩
    · have g1 : (s.size : Int) ≤ (n : Int) := by omega
      clear h
      go_enter Tryd.func39, Tryd.ntmps39
      go_wp2_with fail
      refine (H1.out _).mono ?_
      rintro e w' ⟨rfl, q1, rfl⟩
      go_wp2_with fail
      go_ret
      exact ⟨rfl, _, rfl⟩
  · obtain rfl : n = 0 := by omega
    clear h
    go_enter Tryd.func39, Tryd.ntmps39
    go_wp2_with fail
    refine (H1.out _).mono ?_
    rintro e w' ⟨rfl, q1, rfl⟩
    go_wp2_with fail
    go_ret
    exact ⟨rfl, _, rfl⟩
theorem brk_end (s : ByteArray) (n z : Nat) (R : Int) (hs : s.size ≤ 1048576) (h0 : 0 < n) (h1 : n < s.size) (h46 : bt s n = 46) (hz : n + 1 + z ≤ s.size) (H1 : Hid (RunAt s 0 10 true n)) (H2 : Hid (RunAt s ((n : Int) + 1) 10 true z)) (hR : Hid ((z = 0 → R = 0) ∧ (0 < z → R = n + 1 + z)))
    (h : z = 0 ∨ (0 < z ∧ n + 1 + z = s.size) ∨ (0 < z ∧ n + 1 + z < s.size ∧ isE s (n + 1 + z) = false)) : BrkAt s R := by
  intro w
  have g0 : ((n : Int) == 0) = false := beq_false_of_ne (by omega)
  have gx := get_bt s n h1
  rw [h46] at gx
  clear h46
  rcases h with h | ⟨hz0, h⟩ | ⟨hz0, h, he⟩
  · subst h
    have HF := Lib.hid (hR.out.1 rfl)
    go_enter Tryd.func39, Tryd.ntmps39
    go_wp2_with fail
    refine (H1.out _).mono ?_
    rintro e w' ⟨rfl, q1, rfl⟩
    go_wp2_with fail
    refine (H2.out _).mono ?_
    rintro e w' ⟨rfl, q2, rfl⟩
    go_wp2_with fail
    go_ret
    exact ⟨ret_int HF.out.symm, _, rfl⟩
  · have HF := Lib.hid (hR.out.2 hz0)
    have g1 : ((z : Int) == 0) = false := beq_false_of_ne (by omega)
    go_enter Tryd.func39, Tryd.ntmps39
    go_wp2_with fail
    refine (H1.out _).mono ?_
    rintro e w' ⟨rfl, q1, rfl⟩
    go_wp2_with fail
    refine (H2.out _).mono ?_
    rintro e w' ⟨rfl, q2, rfl⟩
    go_wp2_with fail
    go_ret
    exact ⟨ret_int (by rw [HF.out]), _, rfl⟩
  · have HF := Lib.hid (hR.out.2 hz0)
    have g1 : ((z : Int) == 0) = false := beq_false_of_ne (by omega)
    have gy := get_bt s (n + 1 + z) h
    unfold isE at he
    obtain ⟨c, hc⟩ : ∃ c, c = bt s (n + 1 + z) := ⟨_, rfl⟩
    rw [← hc] at gy he
    clear hc
    rw [Bool.or_eq_false_iff] at he
    obtain ⟨e1, e2⟩ := he
    go_enter Tryd.func39, Tryd.ntmps39
    go_wp2_with fail
    refine (H1.out _).mono ?_
    rintro e w' ⟨rfl, q1, rfl⟩
    go_wp2_with fail
    refine (H2.out _).mono ?_
    rintro e w' ⟨rfl, q2, rfl⟩
    go_wp2_with fail
    go_ret
    exact ⟨ret_int (by rw [HF.out]), _, rfl⟩
set_option maxRecDepth 100000 in
set_option maxHeartbeats 4000000 in
theorem brk_exp (s : ByteArray) (n z l : Nat) (R : Int) (hs : s.size ≤ 1048576) (h0 : 0 < n) (h1 : n < s.size) (h46 : bt s n = 46) (hz0 : 0 < z) (hz : n + 1 + z < s.size) (H1 : Hid (RunAt s 0 10 true n)) (H2 : Hid (RunAt s ((n : Int) + 1) 10 true z))
    (hE : isE s (n + 1 + z) = true) (hl : n + 1 + z + 2 + l ≤ s.size + 2)
    (h : (RunAt s ((n : Int) + 1 + z + 1) 10 true l ∧ (n + 1 + z + 1 = s.size ∨ (n + 1 + z + 1 < s.size ∧ ¬ (bt s (n + 1 + z + 1) = 43 ∨ bt s (n + 1 + z + 1) = 45))) ∧ (0 < l → R = n + 1 + z + 1 + l) ∧ (l = 0 → R = n + 1 + z)) ∨
      (RunAt s ((n : Int) + 1 + z + 1 + 1) 10 true l ∧ n + 1 + z + 1 < s.size ∧ (bt s (n + 1 + z + 1) = 43 ∨ bt s (n + 1 + z + 1) = 45) ∧ (0 < l → R = n + 1 + z + 1 + 1 + l) ∧ (l = 0 → R = n + 1 + z))) : BrkAt s R := by
  intro w
  have g0 : ((n : Int) == 0) = false := beq_false_of_ne (by omega)
  have gx := get_bt s n h1
  rw [h46] at gx
  clear h46
  have g1 : ((z : Int) == 0) = false := beq_false_of_ne (by omega)
  have gy := get_bt s (n + 1 + z) hz
  obtain ⟨c, hc⟩ : ∃ c, c = bt s (n + 1 + z) := ⟨_, rfl⟩
  have hE2 : (c == 101) = true ∨ ((c == 101) = false ∧ (c == 69) = true) := by
    unfold isE at hE
    rw [← hc] at hE
    cases h1 : (c == 101)
    · rw [h1, Bool.or_false] at hE; exact .inr ⟨rfl, hE⟩
    · exact .inl rfl
  rw [← hc] at gy
  clear hc hE
  rcases h with ⟨H3, hs2, hR1, hR2⟩ | ⟨H3, hs2, hsg, hR1, hR2⟩
  · have H3 := Lib.hid H3
    have hR1 := Lib.hid hR1
    have hR2 := Lib.hid hR2
    rcases hs2 with hs2 | ⟨hs2, hsg⟩
    · rcases hE2 with e1 | ⟨e1, e2⟩
      all_goals
        by_cases hl0 : 0 < l
        · have HF := Lib.hid (hR1.out hl0)
          go_enter Tryd.func39, Tryd.ntmps39
          go_wp2_with fail
          refine (H1.out _).mono ?_
          rintro e w' ⟨rfl, q1, rfl⟩
          go_wp2_with fail
          refine (H2.out _).mono ?_
          rintro e w' ⟨rfl, q2, rfl⟩
          go_wp2_with fail
          refine (H3.out _).mono ?_
          rintro e w' ⟨rfl, q3, rfl⟩
          go_wp2_with fail
          go_ret
          exact ⟨ret_int (by rw [HF.out]), _, rfl⟩
        · obtain rfl : l = 0 := by omega
          have HF := Lib.hid (hR2.out rfl)
          go_enter Tryd.func39, Tryd.ntmps39
          go_wp2_with fail
          refine (H1.out _).mono ?_
          rintro e w' ⟨rfl, q1, rfl⟩
          go_wp2_with fail
          refine (H2.out _).mono ?_
          rintro e w' ⟨rfl, q2, rfl⟩
          go_wp2_with fail
          refine (H3.out _).mono ?_
          rintro e w' ⟨rfl, q3, rfl⟩
          go_wp2_with fail
          go_ret
          exact ⟨ret_int (by rw [HF.out]), _, rfl⟩
    · have gd := get_bt s (n + 1 + z + 1) hs2
      have s1 : (bt s (n + 1 + z + 1) == 43) = false := beq_false_of_ne (fun h => hsg (.inl h))
      have s2 : (bt s (n + 1 + z + 1) == 45) = false := beq_false_of_ne (fun h => hsg (.inr h))
      obtain ⟨d, hd⟩ : ∃ d, d = bt s (n + 1 + z + 1) := ⟨_, rfl⟩
      rw [← hd] at gd s1 s2
      clear hd hsg
      rcases hE2 with e1 | ⟨e1, e2⟩
      all_goals
        by_cases hl0 : 0 < l
        · have HF := Lib.hid (hR1.out hl0)
          go_enter Tryd.func39, Tryd.ntmps39
          go_wp2_with fail
          refine (H1.out _).mono ?_
          rintro e w' ⟨rfl, q1, rfl⟩
          go_wp2_with fail
          refine (H2.out _).mono ?_
          rintro e w' ⟨rfl, q2, rfl⟩
          go_wp2_with fail
          refine (H3.out _).mono ?_
          rintro e w' ⟨rfl, q3, rfl⟩
          go_wp2_with fail
          go_ret
          exact ⟨ret_int (by rw [HF.out]), _, rfl⟩
        · obtain rfl : l = 0 := by omega
          have HF := Lib.hid (hR2.out rfl)
          go_enter Tryd.func39, Tryd.ntmps39
          go_wp2_with fail
          refine (H1.out _).mono ?_
          rintro e w' ⟨rfl, q1, rfl⟩
          go_wp2_with fail
          refine (H2.out _).mono ?_
          rintro e w' ⟨rfl, q2, rfl⟩
          go_wp2_with fail
          refine (H3.out _).mono ?_
          rintro e w' ⟨rfl, q3, rfl⟩
          go_wp2_with fail
          go_ret
          exact ⟨ret_int (by rw [HF.out]), _, rfl⟩
  · have H3 := Lib.hid H3
    have hR1 := Lib.hid hR1
    have hR2 := Lib.hid hR2
    have gd := get_bt s (n + 1 + z + 1) hs2
    obtain ⟨d, hd⟩ : ∃ d, d = bt s (n + 1 + z + 1) := ⟨_, rfl⟩
    have hS : (d == 43) = true ∨ ((d == 43) = false ∧ (d == 45) = true) := by
      rw [← hd] at hsg
      rcases hsg with h | h
      · rw [h]; exact .inl rfl
      · rw [h]; exact .inr ⟨rfl, rfl⟩
    rw [← hd] at gd
    clear hd hsg
    rcases hE2 with e1 | ⟨e1, e2⟩
    all_goals
      rcases hS with s1 | ⟨s1, s2⟩
      all_goals
        by_cases hl0 : 0 < l
        · have HF := Lib.hid (hR1.out hl0)
          go_enter Tryd.func39, Tryd.ntmps39
          go_wp2_with fail
          refine (H1.out _).mono ?_
          rintro e w' ⟨rfl, q1, rfl⟩
          go_wp2_with fail
          refine (H2.out _).mono ?_
          rintro e w' ⟨rfl, q2, rfl⟩
          go_wp2_with fail
          refine (H3.out _).mono ?_
          rintro e w' ⟨rfl, q3, rfl⟩
          go_wp2_with fail
          go_ret
          exact ⟨ret_int (by rw [HF.out]), _, rfl⟩
        · obtain rfl : l = 0 := by omega
          have HF := Lib.hid (hR2.out rfl)
          go_enter Tryd.func39, Tryd.ntmps39
          go_wp2_with fail
          refine (H1.out _).mono ?_
          rintro e w' ⟨rfl, q1, rfl⟩
          go_wp2_with fail
          refine (H2.out _).mono ?_
          rintro e w' ⟨rfl, q2, rfl⟩
          go_wp2_with fail
          refine (H3.out _).mono ?_
          rintro e w' ⟨rfl, q3, rfl⟩
          go_wp2_with fail
          go_ret
          exact ⟨ret_int (by rw [HF.out]), _, rfl⟩
/-- BROKEN. -/
theorem rBroken_any (s : ByteArray) (hs : s.size ≤ 1048576) : BrkAt s (brk s : Nat) := by
  obtain ⟨n, hn⟩ : ∃ n, n = ru s 10 0 true 0 := ⟨_, rfl⟩
  obtain ⟨K, hK⟩ : ∃ K, K = ru s 10 (n + 1) true (n + 1) := ⟨_, rfl⟩
  obtain ⟨j, hj⟩ : ∃ j, j = exj s (K + 1) := ⟨_, rfl⟩
  obtain ⟨L, hL⟩ : ∃ L, L = ru s 10 j true j := ⟨_, rfl⟩
  have hb := brk_is hn hK hj hL
  have hns : n ≤ s.size := by rw [hn]; exact (ru_ge s 10 0 true s.size 0 (by omega)).2 (by omega)
  have H1 := run_at0 s 10 true hs (by omega)
  rw [← hn] at H1
  by_cases hp : 0 < n ∧ n < s.size ∧ bt s n = 46
  · rw [if_pos hp] at hb
    obtain ⟨p0, p1, p2⟩ := hp
    obtain ⟨z, hz1, hz2, H2⟩ := run_l s (n + 1) 10 true p1 hs (by omega)
    rw [← hK] at hz1
    rw [show ((n + 1 : Nat) : Int) = (n : Int) + 1 from rfl] at H2
    by_cases c2 : K < s.size ∧ isE s K = true
    · by_cases hz0 : z = 0
      · rw [if_pos (by omega)] at hb
        exact brk_end s n z _ hs p0 p1 p2 hz2 H1 H2 ⟨fun _ => by rw [hb]; rfl, fun h => by omega⟩ (.inl hz0)
      · rw [if_neg (by omega), if_pos c2] at hb
        obtain ⟨c3, c4⟩ := c2
        have hjs : j = K + 1 ∨ j = K + 1 + 1 := by rw [hj]; unfold exj; split <;> simp
        rw [hz1] at c3 c4 hb
        by_cases hsg : bt s (n + 1 + z + 1) = 43 ∨ bt s (n + 1 + z + 1) = 45
        · have hj2 : j = n + 1 + z + 1 + 1 := by rw [hj, hz1]; unfold exj; rw [if_pos hsg]
          have hlt : n + 1 + z + 1 < s.size := by
            apply Classical.byContradiction
            intro h'
            rw [bt_end s (by omega)] at hsg
            omega
          obtain ⟨l, hl1, hl2, H3⟩ := run_l s j 10 true (by omega) hs (by omega)
          rw [← hL] at hl1
          have ej : ((j : Nat) : Int) = (n : Int) + 1 + z + 1 + 1 := by omega
          rw [ej] at H3
          refine brk_exp s n z l _ hs p0 p1 p2 (by omega) c3 H1 H2 c4 (by omega) (.inr ⟨H3, hlt, hsg, fun h => ?_, fun h => ?_⟩)
          · rw [hb, if_pos (by omega)]; omega
          · rw [hb, if_neg (by omega)]; omega
        · have hj2 : j = n + 1 + z + 1 := by rw [hj, hz1]; unfold exj; rw [if_neg hsg]
          obtain ⟨l, hl1, hl2, H3⟩ := run_l s j 10 true (by omega) hs (by omega)
          rw [← hL] at hl1
          have ej : ((j : Nat) : Int) = (n : Int) + 1 + z + 1 := by omega
          rw [ej] at H3
          refine brk_exp s n z l _ hs p0 p1 p2 (by omega) c3 H1 H2 c4 (by omega) (.inl ⟨H3, ?_, fun h => ?_, fun h => ?_⟩)
          · by_cases h : n + 1 + z + 1 < s.size
            · exact .inr ⟨h, hsg⟩
            · exact .inl (by omega)
          · rw [hb, if_pos (by omega)]; omega
          · rw [hb, if_neg (by omega)]; omega
    · refine brk_end s n z _ hs p0 p1 p2 hz2 H1 H2 ⟨fun h => ?_, fun h => ?_⟩ ?_
      · rw [hb, if_pos (by omega)]; rfl
      · rw [hb, if_neg (by omega), if_neg c2]; omega
      · by_cases h : z = 0
        · exact .inl h
        · by_cases h' : n + 1 + z < s.size
          · refine .inr (.inr ⟨by omega, h', ?_⟩)
            cases he : isE s (n + 1 + z)
            · rfl
            · exact absurd ⟨by omega, by rw [hz1]; exact he⟩ c2
          · exact .inr (.inl ⟨by omega, by omega⟩)
  · rw [if_neg hp] at hb
    rw [hb]
    exact brk_no s n hs hns H1 hp
/-- FLOAT, the document's way: the same. -/
theorem rFloat_any (s : ByteArray) (hs : s.size ≤ 1048576) (w : World) :
    Calls Tryd.prog 18 #[.string s] w fun e w' => e = .returned (.bool (flt s)) ∧ ∃ q, w' = w.drewN q := by
  by_cases h0 : s.size = 0
  · obtain rfl := empty_of h0
    have e : flt ⟨#[]⟩ = false := by decide +kernel
    rw [e]
    clear e h0 hs
    go_enter Tryd.func18, Tryd.ntmps18
    go_wp2_with fail
    go_ret
    exact ⟨rfl, 0, rfl⟩
  · have g0 := ne_empty h0
    have HB := Lib.hid (rBroken_any s hs)
    rw [flt_brk s h0]
    obtain ⟨b, hb⟩ : ∃ b, b = brk s := ⟨_, rfl⟩
    rw [← hb] at HB ⊢
    clear hb h0
    by_cases h : b = s.size
    · subst h
      rw [decide_eq_true rfl]
      go_enter Tryd.func18, Tryd.ntmps18
      go_wp2_with fail
      refine (HB.out _).mono ?_
      rintro e w' ⟨rfl, q1, rfl⟩
      go_wp2_with fail
      go_ret
      exact ⟨rfl, _, rfl⟩
    · have g1 : ((b : Int) == (s.size : Int)) = false := beq_false_of_ne (by omega)
      rw [decide_eq_false h]
      go_enter Tryd.func18, Tryd.ntmps18
      go_wp2_with fail
      refine (HB.out _).mono ?_
      rintro e w' ⟨rfl, q1, rfl⟩
      go_wp2_with fail
      go_ret
      exact ⟨rfl, _, rfl⟩
end Go.Proofs.YtnejkdaiopjchaaDoor
