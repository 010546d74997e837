/-
  The contract of the document's own Char.
-/
import Derived.Test.YtnejkdaiopjchaaDoorRefEscDef
import Derived.Test.YtnejkdaiopjchaaDoorQuoMath
namespace Go.Proofs.YtnejkdaiopjchaaDoor
open Go.RowKit Go.PlainAid

def ChrR (s : ByteArray) (v n : Int) : Prop := ∀ W, Calls Tryd.prog 12 #[.string s] W fun e w' => e = .returned (.tuple #[.int .i64 v, .int .i64 n]) ∧ Below W.heap.size W w'
theorem rchar_0 (s : ByteArray) (h : s.size < 2 ∨ (2 ≤ s.size ∧ bt s 0 ≠ 36)) : ChrR s 0 8 := by
  intro w
  rcases h with h | ⟨h, h36⟩
  · go_enter Tryd.func12, Tryd.ntmps12
    go_wp2_with fail
    go_ret2
    exact ⟨rfl, Below.refl _ _⟩
  · have gx := get_bt s 0 (by omega)
    have g2 : (2 : Int) ≤ (s.size : Int) := by omega
    have g1 : (bt s 0 != 36) = true := by simpa using h36
    obtain ⟨c, hc⟩ : ∃ c, c = bt s 0 := ⟨_, rfl⟩
    rw [← hc] at gx g1
    clear hc h36
    go_enter Tryd.func12, Tryd.ntmps12
    go_wp2_with fail
    go_ret2
    exact ⟨rfl, Below.refl _ _⟩
theorem rchar_e (s : ByteArray) (c : Int) (n : Nat) (V N : Int) (hn : n ≤ 10) (h2 : 2 ≤ s.size) (h36 : bt s 0 = 36) (h92 : bt s 1 = 92) (HE : Hid (EscR s 1 c n))
    (h : (c < 0 ∧ V = 0 ∧ N = 8) ∨ (0 ≤ c ∧ n + 1 ≠ s.size ∧ V = 0 ∧ N = 8) ∨ (0 ≤ c ∧ n + 1 = s.size ∧ V = c ∧ N = 0)) : ChrR s V N := by
  intro w
  have gx := get_bt s 0 (by omega)
  have gy := get_bt s 1 (by omega)
  rw [h36] at gx
  rw [h92] at gy
  clear h36 h92
  have g2 : (2 : Int) ≤ (s.size : Int) := by omega
  rcases h with ⟨h, rfl, rfl⟩ | ⟨h, h', rfl, rfl⟩ | ⟨h, h', rfl, rfl⟩
  · go_enter Tryd.func12, Tryd.ntmps12
    go_wp2_with fail
    refine (HE.out _).mono ?_
    rintro e w1 ⟨rfl, hb1⟩
    have HB1 := Lib.hid hb1
    clear hb1
    go_wp2_with fail
    go_ret2
    exact ⟨rfl, HB1.out⟩
  · have g3 : ((n : Int) + 1 != (s.size : Int)) = true := by simp; omega
    clear h'
    go_enter Tryd.func12, Tryd.ntmps12
    go_wp2_with fail
    refine (HE.out _).mono ?_
    rintro e w1 ⟨rfl, hb1⟩
    have HB1 := Lib.hid hb1
    clear hb1
    go_wp2_with fail
    go_ret2
    exact ⟨rfl, HB1.out⟩
  · have g3 : ((n : Int) + 1 != (s.size : Int)) = false := by simp; omega
    clear h'
    go_enter Tryd.func12, Tryd.ntmps12
    go_wp2_with fail
    refine (HE.out _).mono ?_
    rintro e w1 ⟨rfl, hb1⟩
    have HB1 := Lib.hid hb1
    clear hb1
    go_wp2_with fail
    go_ret2
    exact ⟨rfl, HB1.out⟩
theorem rchar_n (s : ByteArray) (c : Int) (n : Nat) (V N : Int) (hn : n ≤ 4) (h2 : 2 ≤ s.size) (h36 : bt s 0 = 36) (h92 : bt s 1 ≠ 92) (HE : Hid (RNext s 1 c n))
    (h : (c ≤ 32 ∧ V = 0 ∧ N = 8) ∨ (32 < c ∧ c = 127 ∧ V = 0 ∧ N = 8) ∨ (32 < c ∧ c ≠ 127 ∧ n + 1 ≠ s.size ∧ V = 0 ∧ N = 8) ∨ (32 < c ∧ c ≠ 127 ∧ n + 1 = s.size ∧ V = c ∧ N = 0)) : ChrR s V N := by
  intro w
  have gx := get_bt s 0 (by omega)
  have gy := get_bt s 1 (by omega)
  have g92 := beq_false_of_ne h92
  rw [h36] at gx
  obtain ⟨x, hx⟩ : ∃ x, x = bt s 1 := ⟨_, rfl⟩
  rw [← hx] at gy g92
  clear h36 h92 hx
  have g2 : (2 : Int) ≤ (s.size : Int) := by omega
  rcases h with ⟨h, rfl, rfl⟩ | ⟨h, h', rfl, rfl⟩ | ⟨h, h', h'', rfl, rfl⟩ | ⟨h, h', h'', rfl, rfl⟩
  · go_enter Tryd.func12, Tryd.ntmps12
    go_wp2_with fail
    refine (HE.out _).mono ?_
    rintro e w1 ⟨rfl, q, rfl⟩
    go_wp2_with fail
    go_ret2
    exact ⟨rfl, Below.ofDrewN _ _⟩
  · subst h'
    go_enter Tryd.func12, Tryd.ntmps12
    go_wp2_with fail
    refine (HE.out _).mono ?_
    rintro e w1 ⟨rfl, q, rfl⟩
    go_wp2_with fail
    go_ret2
    exact ⟨rfl, Below.ofDrewN _ _⟩
  · have g3 : ((n : Int) + 1 != (s.size : Int)) = true := by simp; omega
    have g4 : (c == 127) = false := beq_false_of_ne h'
    clear h'' h'
    go_enter Tryd.func12, Tryd.ntmps12
    go_wp2_with fail
    refine (HE.out _).mono ?_
    rintro e w1 ⟨rfl, q, rfl⟩
    go_wp2_with fail
    go_ret2
    exact ⟨rfl, Below.ofDrewN _ _⟩
  · have g3 : ((n : Int) + 1 != (s.size : Int)) = false := by simp; omega
    have g4 : (V == 127) = false := beq_false_of_ne h'
    clear h'' h'
    go_enter Tryd.func12, Tryd.ntmps12
    go_wp2_with fail
    refine (HE.out _).mono ?_
    rintro e w1 ⟨rfl, q, rfl⟩
    go_wp2_with fail
    go_ret2
    exact ⟨rfl, Below.ofDrewN _ _⟩
/-- CHAR, the document's way: the same. -/
theorem rChar_any (s : ByteArray) (hs : s.size ≤ 1048576) (HE : EscR s ((1 : Nat) : Int) (esc s 1).1 (esc s 1).2) : ChrR s (chr s).1 (chr s).2 := by
  rw [show ((1 : Nat) : Int) = 1 from rfl] at HE
  by_cases h2 : 2 ≤ s.size
  · by_cases h36 : bt s 0 = 36
    · have eb := esc_bd s 1
      unfold chr
      rw [if_pos h36]
      by_cases h92 : bt s 1 = 92
      · have hnc := nc_ascii (s := s) (k := 1) (by omega) (by omega)
        by_cases h1 : (esc s 1).1 = -1
        · rw [if_pos h1, if_pos (.inr (.inr (.inl (by rw [hnc.1, h92]))))]
          exact rchar_e s _ _ _ _ eb.2.2 h2 h36 h92 HE (.inl ⟨by omega, rfl, rfl⟩)
        · rw [if_neg h1]
          by_cases h6 : 1 + (esc s 1).2 = s.size
          · rw [if_pos h6]
            exact rchar_e s _ _ _ _ eb.2.2 h2 h36 h92 HE (.inr (.inr ⟨by omega, by omega, rfl, rfl⟩))
          · rw [if_neg h6]
            exact rchar_e s _ _ _ _ eb.2.2 h2 h36 h92 HE (.inr (.inl ⟨by omega, by omega, rfl, rfl⟩))
      · have h1 : (esc s 1).1 = -1 := by rw [esc_out (fun h => h92 h.2)]
        rw [if_pos h1]
        have HN : RNext s 1 (nc s 1) (nl s 1) := fun W => rnext_in s 1 W (by omega) (by unfold maxLen; omega)
        have hl := nl_le s 1
        have hne : nc s 1 ≠ 92 := fun h => h92 (nc_small h (by omega) (by omega))
        by_cases h3 : nc s 1 ≤ 32
        · rw [if_pos (.inr (.inl h3))]
          exact rchar_n s _ _ _ _ hl h2 h36 h92 HN (.inl ⟨h3, rfl, rfl⟩)
        by_cases h5 : nc s 1 = 127
        · rw [if_pos (.inr (.inr (.inr h5)))]
          exact rchar_n s _ _ _ _ hl h2 h36 h92 HN (.inr (.inl ⟨by omega, h5, rfl, rfl⟩))
        rw [if_neg (by omega)]
        by_cases h6 : 1 + nl s 1 = s.size
        · rw [if_pos h6]
          exact rchar_n s _ _ _ _ hl h2 h36 h92 HN (.inr (.inr (.inr ⟨by omega, h5, by omega, rfl, rfl⟩)))
        · rw [if_neg h6]
          exact rchar_n s _ _ _ _ hl h2 h36 h92 HN (.inr (.inr (.inl ⟨by omega, h5, by omega, rfl, rfl⟩)))
    · unfold chr
      rw [if_neg h36]
      exact rchar_0 s (.inr ⟨h2, h36⟩)
  · have e : chr s = (0, 8) := by
      unfold chr
      by_cases h36 : bt s 0 = 36
      · rw [if_pos h36, esc_out (by omega), if_pos rfl, if_pos (.inl (by omega))]
      · rw [if_neg h36]
    rw [e]
    exact rchar_0 s (.inl (by omega))
end Go.Proofs.YtnejkdaiopjchaaDoor
