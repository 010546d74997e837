/-
  The contracts of package lit's Char and between.
-/
import Derived.Test.YtnejkdaiopjchaaDoorLitMeant
namespace Go.Proofs.YtnejkdaiopjchaaDoor
open Go.RowKit Go.PlainAid

/-- What a char means, and what is told of what is none. -/
def chr (s : ByteArray) : Int × Int :=
  if bt s 0 = 36 then
    (if (esc s 1).1 = -1 then
      (if s.size ≤ 1 ∨ nc s 1 ≤ 32 ∨ nc s 1 = 92 ∨ nc s 1 = 127 then (0, 8) else if 1 + nl s 1 = s.size then (nc s 1, 0) else (0, 8))
    else if 1 + (esc s 1).2 = s.size then ((esc s 1).1, 0) else (0, 8))
  else (0, 8)
def HpAt (s : ByteArray) (v : Bool) : Prop := ∀ W, Calls Tryd.prog 27 #[.string s, .string { data := #[36] }] W fun e w' => e = .returned (.bool v) ∧ W = w'
def EscAt (s : ByteArray) (k : Nat) (c : Int) (n : Nat) : Prop := ∀ W, LTabs W → Calls Tryd.prog 13 #[.string s, .int .i64 k] W fun e w' => e = .returned (.tuple #[.int .i64 c, .int .i64 n]) ∧ Below W.heap.size W w'
def NextAt (s : ByteArray) (k : Nat) (c : Int) (n : Nat) : Prop := ∀ W, LTabs W → Calls Tryd.prog 28 #[.string s, .int .i64 k] W fun e w' => e = .returned (.tuple #[.int .i64 c, .int .i64 n]) ∧ ∃ m, w' = W.drewN m
theorem char_0 (s : ByteArray) (HP : Hid (HpAt s false)) (w : World) :
    Calls Tryd.prog 11 #[.string s] w fun e w' => e = .returned (.tuple #[.int .i64 0, .int .i64 8]) ∧ Below w.heap.size w w' := by
  go_enter Tryd.func11, Tryd.ntmps11
  go_wp2_with fail
  refine (HP.out _).mono ?_
  rintro e w' ⟨rfl, rfl⟩
  go_wp2_with fail
  go_ret2
  exact ⟨rfl, Below.refl _ _⟩
theorem char_esc (s : ByteArray) (c : Int) (n : Nat) (hn : n ≤ 10) (g : (c == -1) = false) (ge : (1 + (n : Int) != (s.size : Int)) = false) (HP : Hid (HpAt s true)) (HE : Hid (EscAt s 1 c n)) (w : World) (HT : Hid (LTabs w)) :
    Calls Tryd.prog 11 #[.string s] w fun e w' => e = .returned (.tuple #[.int .i64 c, .int .i64 0]) ∧ Below w.heap.size w w' := by
  go_enter Tryd.func11, Tryd.ntmps11
  go_wp2_with fail
  refine (HP.out _).mono ?_
  rintro e w' ⟨rfl, rfl⟩
  go_wp2_with fail
  refine (HE.out _ HT.out).mono ?_
  rintro e w1 ⟨rfl, hb1⟩
  have HB1 := Lib.hid hb1
  clear hb1
  go_wp2_with fail
  go_ret2
  exact ⟨rfl, HB1.out⟩
theorem char_esc_no (s : ByteArray) (c : Int) (n : Nat) (hn : n ≤ 10) (g : (c == -1) = false) (ge : (1 + (n : Int) != (s.size : Int)) = true) (HP : Hid (HpAt s true)) (HE : Hid (EscAt s 1 c n)) (w : World) (HT : Hid (LTabs w)) :
    Calls Tryd.prog 11 #[.string s] w fun e w' => e = .returned (.tuple #[.int .i64 0, .int .i64 8]) ∧ Below w.heap.size w w' := by
  go_enter Tryd.func11, Tryd.ntmps11
  go_wp2_with fail
  refine (HP.out _).mono ?_
  rintro e w' ⟨rfl, rfl⟩
  go_wp2_with fail
  refine (HE.out _ HT.out).mono ?_
  rintro e w1 ⟨rfl, hb1⟩
  have HB1 := Lib.hid hb1
  clear hb1
  go_wp2_with fail
  go_ret2
  exact ⟨rfl, HB1.out⟩
theorem char_bad (s : ByteArray) (n : Nat) (c : Int) (l : Nat) (g : c ≤ 32 ∨ (32 < c ∧ (c == 92) = true) ∨ (32 < c ∧ (c == 92) = false ∧ (c == 127) = true)) (HP : Hid (HpAt s true)) (HE : Hid (EscAt s 1 (-1) n)) (HN : Hid (NextAt s 1 c l)) (w : World) (HT : Hid (LTabs w)) :
    Calls Tryd.prog 11 #[.string s] w fun e w' => e = .returned (.tuple #[.int .i64 0, .int .i64 8]) ∧ Below w.heap.size w w' := by
  rcases g with g | ⟨g0, g⟩ | ⟨g0, g, g'⟩
  all_goals
    go_enter Tryd.func11, Tryd.ntmps11
    go_wp2_with fail
    refine (HP.out _).mono ?_
    rintro e w' ⟨rfl, rfl⟩
    go_wp2_with fail
    refine (HE.out _ HT.out).mono ?_
    rintro e w1 ⟨rfl, hb1⟩
    have HB1 := Lib.hid hb1
    clear hb1
    go_wp2_with fail
    refine (HN.out _ (HT.out.below HB1.out)).mono ?_
    rintro e w' ⟨rfl, m, rfl⟩
    go_wp2_with fail
    go_ret2
    exact ⟨rfl, HB1.out.trans ((Below.ofDrewN _ _).mono HB1.out.size)⟩
theorem char_is (s : ByteArray) (n : Nat) (c : Int) (l : Nat) (hl : l ≤ 4) (g0 : 32 < c) (g : (c == 92) = false) (g' : (c == 127) = false) (ge : (1 + (l : Int) != (s.size : Int)) = false) (HP : Hid (HpAt s true)) (HE : Hid (EscAt s 1 (-1) n)) (HN : Hid (NextAt s 1 c l)) (w : World) (HT : Hid (LTabs w)) :
    Calls Tryd.prog 11 #[.string s] w fun e w' => e = .returned (.tuple #[.int .i64 c, .int .i64 0]) ∧ Below w.heap.size w w' := by
  go_enter Tryd.func11, Tryd.ntmps11
  go_wp2_with fail
  refine (HP.out _).mono ?_
  rintro e w' ⟨rfl, rfl⟩
  go_wp2_with fail
  refine (HE.out _ HT.out).mono ?_
  rintro e w1 ⟨rfl, hb1⟩
  have HB1 := Lib.hid hb1
  clear hb1
  go_wp2_with fail
  refine (HN.out _ (HT.out.below HB1.out)).mono ?_
  rintro e w' ⟨rfl, m, rfl⟩
  go_wp2_with fail
  go_ret2
  exact ⟨rfl, HB1.out.trans ((Below.ofDrewN _ _).mono HB1.out.size)⟩
theorem char_isnt (s : ByteArray) (n : Nat) (c : Int) (l : Nat) (hl : l ≤ 4) (g0 : 32 < c) (g : (c == 92) = false) (g' : (c == 127) = false) (ge : (1 + (l : Int) != (s.size : Int)) = true) (HP : Hid (HpAt s true)) (HE : Hid (EscAt s 1 (-1) n)) (HN : Hid (NextAt s 1 c l)) (w : World) (HT : Hid (LTabs w)) :
    Calls Tryd.prog 11 #[.string s] w fun e w' => e = .returned (.tuple #[.int .i64 0, .int .i64 8]) ∧ Below w.heap.size w w' := by
  go_enter Tryd.func11, Tryd.ntmps11
  go_wp2_with fail
  refine (HP.out _).mono ?_
  rintro e w' ⟨rfl, rfl⟩
  go_wp2_with fail
  refine (HE.out _ HT.out).mono ?_
  rintro e w1 ⟨rfl, hb1⟩
  have HB1 := Lib.hid hb1
  clear hb1
  go_wp2_with fail
  refine (HN.out _ (HT.out.below HB1.out)).mono ?_
  rintro e w' ⟨rfl, m, rfl⟩
  go_wp2_with fail
  go_ret2
  exact ⟨rfl, HB1.out.trans ((Below.ofDrewN _ _).mono HB1.out.size)⟩
/-- CHAR. -/
theorem char_any (s : ByteArray) (hs : s.size ≤ maxLen) (w : World) (ht : LTabs w) :
    Calls Tryd.prog 11 #[.string s] w fun e w' => e = .returned (.tuple #[.int .i64 (chr s).1, .int .i64 (chr s).2]) ∧ Below w.heap.size w w' := by
  have HP : HpAt s (decide (bt s 0 = 36)) := fun W => hp_is s 36 _ (by decide) hs rfl W
  by_cases h0 : bt s 0 = 36
  · rw [decide_eq_true h0] at HP
    have HE : EscAt s 1 (esc s 1).1 (esc s 1).2 := fun W hT => escape_any s 1 hs W hT
    have eb := esc_bd s 1
    unfold chr
    rw [if_pos h0]
    by_cases h1 : (esc s 1).1 = -1
    · rw [h1] at HE
      rw [if_pos h1]
      by_cases h2 : s.size ≤ 1
      · rw [if_pos (.inl h2)]
        exact char_bad s _ 0 0 (.inl (by omega)) HP HE (fun W _ => next_out s 1 W (.inr (by omega))) w ht
      · have HN : NextAt s 1 (nc s 1) (nl s 1) := fun W hT => next_in s 1 W hT.1 (by omega) hs
        have hl := nl_le s 1
        by_cases h3 : nc s 1 ≤ 32
        · rw [if_pos (.inr (.inl h3))]
          exact char_bad s _ _ _ (.inl h3) HP HE HN w ht
        by_cases h4 : nc s 1 = 92
        · rw [if_pos (.inr (.inr (.inl h4)))]
          exact char_bad s _ _ _ (.inr (.inl ⟨by omega, by rw [h4]; rfl⟩)) HP HE HN w ht
        by_cases h5 : nc s 1 = 127
        · rw [if_pos (.inr (.inr (.inr h5)))]
          exact char_bad s _ _ _ (.inr (.inr ⟨by omega, by rw [h5]; rfl, by rw [h5]; rfl⟩)) HP HE HN w ht
        rw [if_neg (by omega)]
        by_cases h6 : 1 + nl s 1 = s.size
        · rw [if_pos h6]
          exact char_is s _ _ _ hl (by omega) (beq_false_of_ne h4) (beq_false_of_ne h5) (by simp; omega) HP HE HN w ht
        · rw [if_neg h6]
          exact char_isnt s _ _ _ hl (by omega) (beq_false_of_ne h4) (beq_false_of_ne h5) (by simp; omega) HP HE HN w ht
    · rw [if_neg h1]
      by_cases h6 : 1 + (esc s 1).2 = s.size
      · rw [if_pos h6]
        exact char_esc s _ _ eb.2.2 (beq_false_of_ne h1) (by simp; omega) HP HE w ht
      · rw [if_neg h6]
        exact char_esc_no s _ _ eb.2.2 (beq_false_of_ne h1) (by simp; omega) HP HE w ht
  · rw [decide_eq_false h0] at HP
    unfold chr
    rw [if_neg h0]
    exact char_0 s HP w
/-- Does a text stand between two of one of the quotes? -/
def btw (s : ByteArray) : Bool := decide (2 ≤ s.size) && (bt s 0 == bt s (s.size - 1)) && (bt s 0 == 34 || bt s 0 == 39)
/-- BETWEEN. -/
theorem between_any (s : ByteArray) (hs : s.size ≤ maxLen) (w : World) :
    Calls Tryd.prog 35 #[.string s] w fun e w' => e = .returned (.bool (btw s)) ∧ ∃ n, w' = w.drewN n := by
  unfold maxLen at hs
  unfold btw
  have gb := get_bt s
  by_cases h : 2 ≤ s.size
  · rw [decide_eq_true h]
    have h1 : decide ((s.size : Int) < 2) = false := decide_eq_false (by omega)
    have h2 : (0 : Int) < (s.size : Int) := by omega
    have h3 : (0 : Int) ≤ (s.size : Int) - 1 := by omega
    have h4 : (s.size : Int) - 1 < (s.size : Int) := by omega
    have e1 : ((s.size : Int) - 1).toNat = s.size - 1 := by omega
    obtain ⟨a, ha⟩ : ∃ a, a = bt s 0 := ⟨_, rfl⟩
    obtain ⟨b, hb⟩ : ∃ b, b = bt s (s.size - 1) := ⟨_, rfl⟩
    have g0 := gb 0 (by omega)
    have g1 := gb (s.size - 1) (by omega)
    rw [← ha] at g0
    rw [← hb] at g1
    rw [← ha, ← hb]
    clear gb ha hb
    cases he : (a == b)
    · have hne : (a != b) = true := by simpa using he
      clear he
      go_enter Tryd.func35, Tryd.ntmps35
      go_wp2_with fail
      go_quiet (fail)
      go_wp2_with fail
      go_ret
      exact ⟨rfl, _, rfl⟩
    · have hne : (a != b) = false := by simpa using he
      clear he
      cases h34 : (a == 34)
      · cases h39 : (a == 39)
        · go_enter Tryd.func35, Tryd.ntmps35
          go_wp2_with fail
          go_quiet (fail)
          go_wp2_with fail
          go_ret
          exact ⟨rfl, _, rfl⟩
        · go_enter Tryd.func35, Tryd.ntmps35
          go_wp2_with fail
          go_quiet (fail)
          go_wp2_with fail
          go_ret
          exact ⟨rfl, _, rfl⟩
      · go_enter Tryd.func35, Tryd.ntmps35
        go_wp2_with fail
        go_quiet (fail)
        go_wp2_with fail
        go_ret
        exact ⟨rfl, _, rfl⟩
  · rw [decide_eq_false h]
    have h1 : decide ((s.size : Int) < 2) = true := decide_eq_true (by omega)
    clear gb h
    go_enter Tryd.func35, Tryd.ntmps35
    go_wp2_with fail
    go_quiet (fail)
    go_wp2_with fail
    go_ret
    exact ⟨rfl, _, rfl⟩
end Go.Proofs.YtnejkdaiopjchaaDoor
