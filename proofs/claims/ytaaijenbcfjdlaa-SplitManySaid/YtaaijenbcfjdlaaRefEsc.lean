/-
  The contract of the document's own Escape.
-/
import Derived.Test.YtaaijenbcfjdlaaRefEscY
import Derived.Test.YtaaijenbcfjdlaaRefEscZ
import Derived.Test.YtaaijenbcfjdlaaRefEscCc
namespace Go.Proofs.Ytaaijenbcfjdlaa
open Go.RowKit Go.PlainAid

theorem runm (s : ByteArray) (j : Nat) (b : Int) (m : Nat) (hj : j ≤ s.size) (hs : s.size ≤ 1048576) (hb : 0 ≤ b) (hb' : b ≤ 16) (hm : m ≤ 6) : RunM s j b m (rv s b m j 0) (rc s b m j) := fun W => rrun_any s j b m hj hs hb hb' hm W
theorem bt_lt' {s : ByteArray} {k : Nat} (h : bt s k ≠ 0) : k < s.size := by
  apply Classical.byContradiction
  intro h'
  exact h (bt_end s (by omega))
/-- ESCAPE, the document's way: the same. -/
theorem resc_any (s : ByteArray) (a : Nat) (hs : s.size ≤ 1048576) : EscR s a (esc s a).1 (esc s a).2 := by
  by_cases hin : a + 1 < s.size ∧ bt s a = 92
  · obtain ⟨hlt, h92⟩ := hin
    by_cases hK : ∃ K, K < 9 ∧ bt nmS K = bt s (a + 1)
    · obtain ⟨K, hK, hKc⟩ := hK
      have e := esc_name hlt h92 hK hKc
      rw [e]
      exact resc_name s a hs hlt h92 _ (fun k hk hkc => by
        have e2 := esc_name hlt h92 hk hkc
        rw [e] at e2
        exact (congrArg Prod.fst e2).symm) K hK hKc
    have hnm : ∀ k, k < 9 → bt nmS k ≠ bt s (a + 1) := fun k hk h => hK ⟨k, hk, h⟩
    by_cases h8 : 48 ≤ bt s (a + 1) ∧ bt s (a + 1) ≤ 55
    · rw [esc_oct8 hlt h92 h8.1 h8.2]
      have h := resc_oct s a hs hlt h92 hnm h8.1 h8.2 _ _ (rc_le s 8 3 (a + 1)) (runm s (a + 1) 8 3 (by omega) hs (by omega) (by omega) (by omega))
      rw [show ((1 + rc s 8 3 (a + 1) : Nat) : Int) = 1 + (rc s 8 3 (a + 1) : Nat) by omega]
      exact h
    by_cases hx : bt s (a + 1) = 120
    · by_cases hb : bt s (a + 2) = 123
      · have hlt2 : a + 2 < s.size := bt_lt' (by omega)
        rw [esc_xo hlt h92 hx hb]
        have HR := Lib.hid (runm s (a + 3) 16 6 hlt2 hs (by omega) (by omega) (by omega))
        have hn := rc_le s 16 6 (a + 3)
        by_cases c1 : rc s 16 6 (a + 3) = 0
        · rw [if_pos (.inl c1)]
          exact resc_xo_0 s a hs hlt h92 hnm hx hlt2 hb _ _ hn HR c1
        by_cases c2 : a + 3 + rc s 16 6 (a + 3) < s.size
        · by_cases c3 : bt s (a + 3 + rc s 16 6 (a + 3)) = 125
          · cases hp : isPt (rv s 16 6 (a + 3) 0)
            · rw [if_pos (.inr (.inr rfl))]
              exact resc_xo_3 s a hs hlt h92 hnm hx hlt2 hb _ _ hn HR (by omega) c2 c3 hp
            · rw [if_neg (by
                rintro (h' | h' | h')
                · exact c1 h'
                · exact h' c3
                · cases h')]
              have h := resc_xo_4 s a hs hlt h92 hnm hx hlt2 hb _ _ hn HR (by omega) c2 c3 hp
              rw [show ((4 + rc s 16 6 (a + 3) : Nat) : Int) = 4 + (rc s 16 6 (a + 3) : Nat) by omega]
              exact h
          · rw [if_pos (.inr (.inl c3))]
            exact resc_xo_2 s a hs hlt h92 hnm hx hlt2 hb _ _ hn HR (by omega) c2 c3
        · rw [if_pos (.inr (.inl (by rw [bt_end s (by omega)]; omega)))]
          exact resc_xo_1 s a hs hlt h92 hnm hx hlt2 hb _ _ hn HR (by omega) (by omega)
      · rw [esc_xx hlt h92 hx hb]
        have HR := Lib.hid (runm s (a + 2) 16 2 hlt hs (by omega) (by omega) (by omega))
        have hn := rc_le s 16 2 (a + 2)
        by_cases c1 : rc s 16 2 (a + 2) < 2
        · rw [if_pos c1]
          by_cases hlt2 : a + 2 < s.size
          · exact resc_xy_0 s a hs hlt h92 hnm hx _ _ hn HR hlt2 hb c1
          · exact resc_xx_0 s a hs hlt h92 hnm hx _ _ hn HR (by omega) c1
        · rw [if_neg c1]
          by_cases hlt2 : a + 2 < s.size
          · exact resc_xy_1 s a hs hlt h92 hnm hx _ _ hn HR hlt2 hb (by omega)
          · exact resc_xx_1 s a hs hlt h92 hnm hx _ _ hn HR (by omega) (by omega)
    by_cases hu : bt s (a + 1) = 94
    · rw [esc_ctl hlt h92 hu]
      by_cases hlt2 : a + 2 < s.size
      · by_cases c1 : (64 ≤ bt s (a + 2) ∧ bt s (a + 2) ≤ 95) ∨ (97 ≤ bt s (a + 2) ∧ bt s (a + 2) ≤ 122)
        · rw [if_pos c1]
          exact resc_ct_2 s a hs hlt h92 hnm hu hlt2 c1
        · rw [if_neg c1]
          exact resc_ct_1 s a hs hlt h92 hnm hu hlt2 (by omega)
      · rw [if_neg (by rw [bt_end s (by omega)]; omega)]
        exact resc_ct_0 s a hs hlt h92 hnm hu (by omega)
    · rw [esc_else hlt h92 h8 hx hu (nm_none hnm)]
      have HR : RNext s ((a : Int) + 1) (nc s (a + 1)) (nl s (a + 1)) := fun W => rnext_in s (a + 1) W hlt (by unfold maxLen; omega)
      have hn := nl_le s (a + 1)
      by_cases c1 : nc s (a + 1) < 32
      · rw [if_pos c1]
        exact resc_el_0 s a hs hlt h92 hnm h8 hx hu _ _ hn HR c1
      · rw [if_neg c1]
        have h := resc_el_1 s a hs hlt h92 hnm h8 hx hu _ _ hn HR (by omega)
        rw [show ((1 + nl s (a + 1) : Nat) : Int) = 1 + (nl s (a + 1) : Nat) by omega]
        exact h
  · rw [esc_out hin]
    by_cases h1 : a + 1 < s.size
    · exact resc_none s a h1 (fun h => hin ⟨h1, h⟩) hs
    · exact resc_short s a (by omega) hs
end Go.Proofs.Ytaaijenbcfjdlaa
