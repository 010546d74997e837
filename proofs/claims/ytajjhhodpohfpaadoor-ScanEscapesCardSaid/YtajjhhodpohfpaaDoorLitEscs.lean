/-
  Package lit's Escape.
-/
import Derived.Test.YtajjhhodpohfpaaDoorLitInts
import Derived.Test.YtajjhhodpohfpaaDoorMath
import Derived.Test.YtajjhhodpohfpaaDoorWordWalks
import Derived.Test.YtajjhhodpohfpaaDoorUtfs
/- The contracts of package lit's control, hexadecimal, meant, Escape, and of HasPrefix, CutPrefix where they ask. -/
namespace Go.Proofs.YtajjhhodpohfpaaDoor
open Go.RowKit Go.PlainAid

/-- The tables: utf's three and lit's letters. -/
def LTabs (w : World) : Prop := Tabs w ∧ ∀ k : Nat, k < 26 → w.cell? ⟨4, k, none⟩ = some (.int .i64 (ltr (97 + (k : Int))))
theorem LTabs.drewN {w : World} (h : LTabs w) (n : Nat) : LTabs (w.drewN n) := h
theorem LTabs.below {w w' : World} (h : LTabs w) (hb : Below w.heap.size w w') : LTabs w' := by
  have key : ∀ {a : Addr} {v : Value}, w.cell? a = some v → w'.cell? a = some v := fun hc => (hb.cell (World.block_lt_of_cell? _ _ hc)).trans hc
  exact ⟨h.1.below hb, fun k hk => key (h.2 k hk)⟩

theorem first_eq {s : ByteArray} (c : UInt8) (h : 0 < s.size) : ((s.extract 0 1).toList == [c]) = decide (bt s 0 = (c.toNat : Int)) := by
  have hl : (s.extract 0 1).toList = [s[0]'h] := by
    rw [ByteArray.toList_eq, Lib.extract_data]
    have h0 : 0 < s.data.toList.length := by rw [Array.length_toList]; exact h
    rw [show s.data.toList = s.data.toList[0] :: s.data.toList.drop 1 by simpa using (List.drop_eq_getElem_cons h0)]
    rfl
  rw [hl, ← get_bt s 0 h]
  by_cases e : s[0]'h = c
  · rw [e]; simp
  · rw [decide_eq_false (fun h' => e (UInt8.toNat_inj.1 (by omega)))]
    simp [e]
theorem hp_any (s : ByteArray) (c : UInt8) (hs : s.size ≤ maxLen) (w : World) :
    Calls Tryd.prog 57 #[.string s, .string { data := #[c] }] w fun e w' => e = .returned (.bool (decide (0 < s.size) && decide (bt s 0 = (c.toNat : Int)))) ∧ w = w' := by
  unfold maxLen at hs
  have hz : (({ data := #[c] } : ByteArray).size : Int) = 1 := rfl
  have ht : ({ data := #[c] } : ByteArray).toList = [c] := by rw [ByteArray.toList_eq]
  by_cases h : 0 < s.size
  · have HF := Lib.hid (first_eq c h)
    rw [decide_eq_true h]
    have h1 : (1 : Int) ≤ (s.size : Int) := by omega
    go_enter Tryd.func57, Tryd.ntmps57
    go_wp2
    go_ret
    exact ⟨by simp only [Array.getD]; rw [Bool.true_and, ← HF.out]; rfl, rfl⟩
  · rw [decide_eq_false h]
    have h1 : ¬ (1 : Int) ≤ (s.size : Int) := by omega
    go_enter Tryd.func57, Tryd.ntmps57
    go_wp2
    go_ret
    exact ⟨rfl, rfl⟩
theorem hp_is (s : ByteArray) (c : UInt8) (v : Bool) (hc : 0 < c.toNat) (hs : s.size ≤ maxLen) (hv : v = decide (bt s 0 = (c.toNat : Int))) (w : World) :
    Calls Tryd.prog 57 #[.string s, .string { data := #[c] }] w fun e w' => e = .returned (.bool v) ∧ w = w' := by
  have h := hp_any s c hs w
  have e : (decide (0 < s.size) && decide (bt s 0 = (c.toNat : Int))) = v := by
    rw [hv]
    by_cases hz : 0 < s.size
    · rw [decide_eq_true hz]; rfl
    · rw [decide_eq_false hz, bt_end s (by omega), decide_eq_false (by omega)]; rfl
  rw [e] at h
  exact h
theorem two_eq {s : ByteArray} (h : 1 < s.size) (h0 : bt s 0 = 120) : ((s.extract 0 2).toList == [120, 123]) = decide (bt s 1 = 123) := by
  have hl : (s.extract 0 2).toList = [s[0]'(by omega), s[1]'h] := by
    rw [ByteArray.toList_eq, Lib.extract_data]
    have l0 : 0 < s.data.toList.length := by rw [Array.length_toList]; show 0 < s.size; omega
    have l1 : 1 < s.data.toList.length := by rw [Array.length_toList]; exact h
    rw [show s.data.toList = s.data.toList[0] :: s.data.toList[1] :: s.data.toList.drop 2 by
      have a := List.drop_eq_getElem_cons l0
      have b := List.drop_eq_getElem_cons l1
      rw [← b]; simpa using a]
    rfl
  have e0 : s[0]'(by omega) = 120 := UInt8.toNat_inj.1 (by have := get_bt s 0 (by omega); rw [h0] at this; have : (120 : UInt8).toNat = 120 := rfl; omega)
  rw [hl, e0, ← get_bt s 1 h]
  by_cases e : s[1]'h = 123
  · rw [e]; rfl
  · rw [decide_eq_false (fun h' => e (UInt8.toNat_inj.1 (by have : (123 : UInt8).toNat = 123 := rfl; omega)))]
    simp [e]
theorem cutp_any (s : ByteArray) (hs : s.size ≤ maxLen) (h0 : bt s 0 = 120) (w : World) :
    Calls Tryd.prog 101 #[.string s, .string { data := #[120, 123] }] w fun e w' => e = .returned (if bt s 1 = 123 then .tuple #[.string (s.extract 2 s.size), .bool true] else .tuple #[.string s, .bool false]) ∧ w = w' := by
  unfold maxLen at hs
  have hz : (({ data := #[120, 123] } : ByteArray).size : Int) = 2 := rfl
  have ht : ({ data := #[120, 123] } : ByteArray).toList = [120, 123] := by rw [ByteArray.toList_eq]
  by_cases h : 1 < s.size
  · have HF := two_eq h h0
    have h1 : (2 : Int) ≤ (s.size : Int) := by omega
    by_cases h2 : bt s 1 = 123
    · rw [if_pos h2]
      rw [decide_eq_true h2] at HF
      go_enter Tryd.func101, Tryd.ntmps101
      go_wp2
      go_ret2
      exact ⟨rfl, rfl⟩
    · rw [if_neg h2]
      rw [decide_eq_false h2] at HF
      go_enter Tryd.func101, Tryd.ntmps101
      go_wp2
      go_ret2
      exact ⟨rfl, rfl⟩
  · rw [if_neg (by rw [bt_end s (by omega)]; omega)]
    have h1 : ¬ (2 : Int) ≤ (s.size : Int) := by omega
    go_enter Tryd.func101, Tryd.ntmps101
    go_wp2
    go_ret2
    exact ⟨rfl, rfl⟩
theorem shifted4_b (s : ByteArray) (m : Nat) (hm : m ≤ 6) (hs : s.size ≤ maxLen) (w : World) :
    Calls Tryd.prog 87 #[.string s, .int .u64 4, .int .i64 m] w fun e w' => e = .returned (.tuple #[.int .i64 (rv s 16 m 0 0), .int .i64 (rc s 16 m 0)]) ∧ Below w.heap.size w w' :=
  (shifted_4 s m hm hs w).mono fun _ _ ⟨h, p, hw⟩ => ⟨h, hw ▸ below_iter w s p⟩
theorem shifted3_b (s : ByteArray) (m : Nat) (hm : m ≤ 6) (hs : s.size ≤ maxLen) (w : World) :
    Calls Tryd.prog 87 #[.string s, .int .u64 3, .int .i64 m] w fun e w' => e = .returned (.tuple #[.int .i64 (rv s 8 m 0 0), .int .i64 (rc s 8 m 0)]) ∧ Below w.heap.size w w' :=
  (shifted_3 s m hm hs w).mono fun _ _ ⟨h, p, hw⟩ => ⟨h, hw ▸ below_iter w s p⟩
/-- HEXADECIMAL, of what begins with x. -/
theorem hexa_any (s : ByteArray) (hs : s.size ≤ maxLen) (h0 : bt s 0 = 120) (w : World) :
    Calls Tryd.prog 88 #[.string s] w fun e w' => e = .returned (.tuple #[.int .i64 (hxd s 0).1, .int .i64 (hxd s 0).2]) ∧ Below w.heap.size w w' := by
  have hp : 0 < s.size := by
    apply Classical.byContradiction
    intro h
    rw [bt_end s (by omega)] at h0
    omega
  have HC := Lib.hid (fun W => cutp_any s hs h0 W)
  obtain ⟨V, hV⟩ : ∃ V, V = (hxd s 0).1 := ⟨_, rfl⟩
  obtain ⟨N, hN⟩ : ∃ N : Nat, N = (hxd s 0).2 := ⟨_, rfl⟩
  rw [← hV, ← hN]
  have HI : Hid ((V, N) = hxd s 0) := by rw [hV, hN]; rfl
  clear hV hN
  unfold hxd at HI
  simp only [Nat.zero_add] at HI
  have hs' : s.size ≤ maxLen := hs
  unfold maxLen at hs
  by_cases h1 : bt s 1 = 123
  · rw [if_pos h1] at HC HI
    have h2 : 2 ≤ s.size := by
      apply Classical.byContradiction
      intro h
      rw [bt_end s (by omega)] at h1
      omega
    have hz : (s.extract 2 s.size).size = s.size - 2 := size_ext s 2 s.size (Nat.le_refl _)
    have H1 := Lib.hid (fun W => shifted4_b (s.extract 2 s.size) 6 (by omega) (by omega) W)
    rw [rc_tail s 16 6 2 0 h2, rv_tail s 16 6 2 0 0 h2, Nat.add_zero] at H1
    have r1 := rc_in s 16 (by omega) 6 2 h2
    have r2 := rc_le s 16 6 2
    obtain ⟨n, hn⟩ : ∃ n, n = rc s 16 6 2 := ⟨_, rfl⟩
    obtain ⟨v, hv⟩ : ∃ v, v = rv s 16 6 2 0 := ⟨_, rfl⟩
    rw [← hn] at HI H1 r1 r2
    rw [← hv] at HI H1
    clear hn hv h1 h0
    have H2 : Hid (∀ b, b = decide (bt s (2 + n) = 125) → ∀ W, Calls Tryd.prog 57 #[.string ((s.extract 2 s.size).extract n (s.extract 2 s.size).size), .string { data := #[125] }] W fun e w' => e = .returned (.bool b) ∧ W = w') := fun b hb W =>
      hp_is _ 125 b (by decide) (by rw [size_ext _ _ _ (Nat.le_refl _)]; unfold maxLen; omega) (by rw [hb, bt_tail (s.extract 2 s.size) n 0 (by omega), Nat.add_zero, bt_tail s 2 n h2]; rfl) W
    rw [hz] at H2
    by_cases hn0 : n = 0
    · subst hn0
      have HF : Hid ((V, N) = (-1, 0)) := by have := HI.out; rw [if_pos (.inl rfl)] at this; exact this
      have hf : Hid (V = -1 ∧ N = 0) := ⟨congrArg Prod.fst HF.out, congrArg Prod.snd HF.out⟩
      clear HI HF H2 r1 r2
      go_enter Tryd.func88, Tryd.ntmps88
      go_wp2_with fail
      refine (HC.out _).mono ?_
      rintro e w' ⟨rfl, rfl⟩
      go_wp2_with fail
      refine (H1.out _).mono ?_
      rintro e w1 ⟨rfl, hb1⟩
      have HB1 := Lib.hid hb1
      clear hb1
      go_wp2_with fail
      go_ret2
      exact ⟨ret2I hf.out.1.symm (by rw [hf.out.2]; rfl), HB1.out⟩
    · have g0 : ((n : Int) == 0) = false := beq_false_of_ne (by omega)
      by_cases hb : bt s (2 + n) = 125
      · have HF : Hid ((V, N) = (v, n + 3)) := by have := HI.out; rw [if_neg (by omega)] at this; exact this
        have hf : Hid (V = v ∧ N = n + 3) := ⟨congrArg Prod.fst HF.out, congrArg Prod.snd HF.out⟩
        have H3 := Lib.hid (H2.out true (by rw [hb]; rfl))
        clear HI HF H2 hn0 hb
        go_enter Tryd.func88, Tryd.ntmps88
        go_wp2_with fail
        refine (HC.out _).mono ?_
        rintro e w' ⟨rfl, rfl⟩
        go_wp2_with fail
        refine (H1.out _).mono ?_
        rintro e w1 ⟨rfl, hb1⟩
        have HB1 := Lib.hid hb1
        clear hb1
        go_wp2_with fail
        refine (H3.out _).mono ?_
        rintro e w' ⟨rfl, rfl⟩
        go_wp2_with fail
        go_ret2
        exact ⟨ret2I hf.out.1.symm (by rw [hf.out.2]; omega), HB1.out⟩
      · have HF : Hid ((V, N) = (-1, 0)) := by have := HI.out; rw [if_pos (.inr hb)] at this; exact this
        have hf : Hid (V = -1 ∧ N = 0) := ⟨congrArg Prod.fst HF.out, congrArg Prod.snd HF.out⟩
        have H3 := Lib.hid (H2.out false (by rw [decide_eq_false hb]))
        clear HI HF H2 hn0 hb
        go_enter Tryd.func88, Tryd.ntmps88
        go_wp2_with fail
        refine (HC.out _).mono ?_
        rintro e w' ⟨rfl, rfl⟩
        go_wp2_with fail
        refine (H1.out _).mono ?_
        rintro e w1 ⟨rfl, hb1⟩
        have HB1 := Lib.hid hb1
        clear hb1
        go_wp2_with fail
        refine (H3.out _).mono ?_
        rintro e w' ⟨rfl, rfl⟩
        go_wp2_with fail
        go_ret2
        exact ⟨ret2I hf.out.1.symm (by rw [hf.out.2]; rfl), HB1.out⟩
  · rw [if_neg h1] at HC HI
    have hz : (s.extract 1 s.size).size = s.size - 1 := size_ext s 1 s.size (Nat.le_refl _)
    have H1 := Lib.hid (fun W => shifted4_b (s.extract 1 s.size) 2 (by omega) (by omega) W)
    rw [rc_tail s 16 2 1 0 hp, rv_tail s 16 2 1 0 0 hp, Nat.add_zero] at H1
    have r1 := rc_le s 16 2 1
    obtain ⟨n, hn⟩ : ∃ n, n = rc s 16 2 1 := ⟨_, rfl⟩
    obtain ⟨v, hv⟩ : ∃ v, v = rv s 16 2 1 0 := ⟨_, rfl⟩
    rw [← hn] at HI H1 r1
    rw [← hv] at HI H1
    clear hn hv h1 h0
    by_cases hn2 : n < 2
    · have HF : Hid ((V, N) = (-1, 0)) := by have := HI.out; rw [if_pos hn2] at this; exact this
      have hf : Hid (V = -1 ∧ N = 0) := ⟨congrArg Prod.fst HF.out, congrArg Prod.snd HF.out⟩
      have g : (n : Int) < 2 := by omega
      clear HI HF
      go_enter Tryd.func88, Tryd.ntmps88
      go_wp2_with fail
      refine (HC.out _).mono ?_
      rintro e w' ⟨rfl, rfl⟩
      go_wp2_with fail
      refine (H1.out _).mono ?_
      rintro e w1 ⟨rfl, hb1⟩
      have HB1 := Lib.hid hb1
      clear hb1
      go_wp2_with fail
      go_ret2
      exact ⟨ret2I hf.out.1.symm (by rw [hf.out.2]; rfl), HB1.out⟩
    · obtain rfl : n = 2 := by omega
      have HF : Hid ((V, N) = (v, 3)) := by have := HI.out; rw [if_neg hn2] at this; exact this
      have hf : Hid (V = v ∧ N = 3) := ⟨congrArg Prod.fst HF.out, congrArg Prod.snd HF.out⟩
      clear HI HF hn2 r1
      go_enter Tryd.func88, Tryd.ntmps88
      go_wp2_with fail
      refine (HC.out _).mono ?_
      rintro e w' ⟨rfl, rfl⟩
      go_wp2_with fail
      refine (H1.out _).mono ?_
      rintro e w1 ⟨rfl, hb1⟩
      have HB1 := Lib.hid hb1
      clear hb1
      go_wp2_with fail
      go_ret2
      exact ⟨ret2I hf.out.1.symm (by rw [hf.out.2]; rfl), HB1.out⟩
theorem beg_ne {c : Int} (h : ¬ (97 ≤ c ∧ c ≤ 122)) : beg c ≠ 1 := by
  unfold beg
  rw [if_neg h]
  repeat' split
  all_goals omega
/-- CONTROL, of what begins with ^. -/
theorem control_any (s : ByteArray) (w : World) :
    Calls Tryd.prog 89 #[.string s] w fun e w' => e = .returned (.tuple #[.int .i64 (ctl (bt s 1)).1, .int .i64 (ctl (bt s 1)).2]) ∧ w = w' := by
  by_cases h : 1 < s.size
  · have gb := get_bt s
    have HB := Lib.hid (fun W => begins_any (bt s 1) W)
    have b0 := bt_nonneg s 1
    have b1 := bt_le s 1
    have hx : bits .and .u8 (bt s 1) 31 = bt s 1 % 32 := bits_mask .u8 8 (by decide) wraps_u8 5 (by decide) (bt s 1) b0 (by omega)
    have h1 : ¬ (s.size : Int) < 2 := by omega
    obtain ⟨V, hV⟩ : ∃ V, V = (ctl (bt s 1)).1 := ⟨_, rfl⟩
    obtain ⟨N, hN⟩ : ∃ N : Nat, N = (ctl (bt s 1)).2 := ⟨_, rfl⟩
    rw [← hV, ← hN]
    have HI : Hid ((V, N) = ctl (bt s 1)) := by rw [hV, hN]; rfl
    clear hV hN
    unfold ctl at HI
    obtain ⟨c, hc⟩ : ∃ c, c = bt s 1 := ⟨_, rfl⟩
    rw [← hc] at HB b0 b1 hx HI
    have gc := gb 1 h
    rw [← hc] at gc
    clear gb hc
    by_cases a1 : 64 ≤ c
    · by_cases a2 : c ≤ 95
      · have HF : Hid (V = c % 32 ∧ N = 2) := by
          have := HI.out
          rw [if_pos (.inl ⟨a1, a2⟩)] at this
          exact ⟨congrArg Prod.fst this, congrArg Prod.snd this⟩
        clear HI
        go_enter Tryd.func89, Tryd.ntmps89
        go_wp2_with fail
        go_ret2
        exact ⟨ret2I HF.out.1.symm (by rw [HF.out.2]; rfl), rfl⟩
      · by_cases a3 : 97 ≤ c ∧ c ≤ 122
        · have HF : Hid (V = c % 32 ∧ N = 2) := by
            have := HI.out
            rw [if_pos (.inr a3)] at this
            exact ⟨congrArg Prod.fst this, congrArg Prod.snd this⟩
          have e : beg c = 1 := by unfold beg; rw [if_pos a3]
          rw [e] at HB
          clear HI e a3
          go_enter Tryd.func89, Tryd.ntmps89
          go_wp2_with fail
          refine (HB.out _).mono ?_
          rintro e w' ⟨rfl, rfl⟩
          go_wp2_with fail
          go_ret2
          exact ⟨ret2I HF.out.1.symm (by rw [HF.out.2]; rfl), rfl⟩
        · have HF : Hid (V = -1 ∧ N = 0) := by
            have := HI.out
            rw [if_neg (by omega)] at this
            exact ⟨congrArg Prod.fst this, congrArg Prod.snd this⟩
          have e : (beg c == 1) = false := beq_false_of_ne (beg_ne a3)
          obtain ⟨y, hy⟩ : ∃ y, y = beg c := ⟨_, rfl⟩
          rw [← hy] at e HB
          clear HI a3 hy
          go_enter Tryd.func89, Tryd.ntmps89
          go_wp2_with fail
          refine (HB.out _).mono ?_
          rintro e w' ⟨rfl, rfl⟩
          go_wp2_with fail
          go_ret2
          exact ⟨ret2I HF.out.1.symm (by rw [HF.out.2]; rfl), rfl⟩
    · have HF : Hid (V = -1 ∧ N = 0) := by
        have := HI.out
        rw [if_neg (by omega)] at this
        exact ⟨congrArg Prod.fst this, congrArg Prod.snd this⟩
      have g1 : decide (64 ≤ c) = false := decide_eq_false a1
      have e : (beg c == 1) = false := beq_false_of_ne (beg_ne (by omega))
      obtain ⟨y, hy⟩ : ∃ y, y = beg c := ⟨_, rfl⟩
      rw [← hy] at e HB
      clear HI hy
      go_enter Tryd.func89, Tryd.ntmps89
      go_wp2_with fail
      refine (HB.out _).mono ?_
      rintro e w' ⟨rfl, rfl⟩
      go_wp2_with fail
      go_ret2
      exact ⟨ret2I HF.out.1.symm (by rw [HF.out.2]; rfl), rfl⟩
  · have e : ctl (bt s 1) = (-1, 0) := by rw [bt_end s (by omega)]; rfl
    rw [e]
    have h1 : (s.size : Int) < 2 := by omega
    go_enter Tryd.func89, Tryd.ntmps89
    go_wp2
    go_ret2
    exact ⟨rfl, rfl⟩
end Go.Proofs.YtajjhhodpohfpaaDoor
/- The contracts of package lit's meant and Escape. -/
namespace Go.Proofs.YtajjhhodpohfpaaDoor
open Go.RowKit Go.PlainAid

theorem mk_pair {p : Int × Nat} {a : Int} {b : Nat} (h : p = (a, b)) : p.1 = a ∧ p.2 = b := by rw [h]; exact ⟨rfl, rfl⟩
theorem next_of {s : ByteArray} (hp : 0 < s.size) (hs : s.size ≤ maxLen) {w : World} (ht : LTabs w) :
    Calls Tryd.prog 32 #[.string s, .int .i64 0] w fun e w' => e = .returned (.tuple #[.int .i64 (nc s 0), .int .i64 (nl s 0)]) ∧ ∃ n, w' = w.drewN n := next_in s 0 w ht.1 hp hs
/-- MEANT. -/
theorem meant_any (s : ByteArray) (hs : s.size ≤ maxLen) (w : World) (ht : LTabs w) :
    Calls Tryd.prog 73 #[.string s] w fun e w' => e = .returned (.tuple #[.int .i64 (mnt s 0).1, .int .i64 (mnt s 0).2]) ∧ Below w.heap.size w w' := by
  have HT := Lib.hid ht
  clear ht
  have H1 := Lib.hid (fun W => shifted3_b s 3 (by omega) hs W)
  have HP1 : Hid (∀ b, b = decide (bt s 0 = 120) → ∀ W, Calls Tryd.prog 57 #[.string s, .string { data := #[120] }] W fun e w' => e = .returned (.bool b) ∧ W = w') := fun b hb W => hp_is s 120 b (by decide) hs (by rw [hb]; rfl) W
  have HP2 : Hid (∀ b, b = decide (bt s 0 = 94) → ∀ W, Calls Tryd.prog 57 #[.string s, .string { data := #[94] }] W fun e w' => e = .returned (.bool b) ∧ W = w') := fun b hb W => hp_is s 94 b (by decide) hs (by rw [hb]; rfl) W
  have HX := Lib.hid (fun h0 W => hexa_any s hs h0 W)
  have HL := Lib.hid (fun W => control_any s W)
  have HN := Lib.hid (fun (hp : 0 < s.size) W (hT : LTabs W) => next_of hp hs hT)
  have HO := Lib.hid (fun (hp : s.size = 0) W => next_out s 0 W (.inr (by omega)))
  obtain ⟨V, hV⟩ : ∃ V, V = (mnt s 0).1 := ⟨_, rfl⟩
  obtain ⟨N, hN⟩ : ∃ N : Nat, N = (mnt s 0).2 := ⟨_, rfl⟩
  rw [← hV, ← hN]
  have HI : Hid (mnt s 0 = (V, N)) := by rw [hV, hN]; rfl
  clear hV hN
  unfold mnt at HI
  rw [Nat.zero_add] at HI
  obtain ⟨n, hn⟩ : ∃ n, n = rc s 8 3 0 := ⟨_, rfl⟩
  obtain ⟨v, hv⟩ : ∃ v, v = rv s 8 3 0 0 := ⟨_, rfl⟩
  rw [← hn] at HI H1
  rw [← hv] at HI H1
  clear hn hv
  unfold maxLen at hs
  by_cases hn0 : 0 < n
  · have HF : Hid (v = V ∧ n = N) := by have := HI.out; rw [if_pos hn0] at this; exact mk_pair this
    have g0 : (0 : Int) < (n : Int) := by omega
    clear HI hn0
    go_enter Tryd.func73, Tryd.ntmps73
    go_wp2_with fail
    refine (H1.out _).mono ?_
    rintro e w1 ⟨rfl, hb1⟩
    have HB1 := Lib.hid hb1
    clear hb1
    go_wp2_with fail
    go_ret2
    exact ⟨ret2I HF.out.1 (by rw [HF.out.2]), HB1.out⟩
  obtain rfl : n = 0 := by omega
  have HI2 := HI.out
  rw [if_neg hn0] at HI2
  clear HI hn0
  by_cases h1 : bt s 0 = 120
  · rw [if_pos h1] at HI2
    have HF := Lib.hid (mk_pair HI2)
    have HX1 := Lib.hid (HX.out h1)
    have HP1' := Lib.hid (HP1.out true (by rw [h1]; rfl))
    clear HI2 h1
    rw [HF.out.1, HF.out.2] at HX1
    go_enter Tryd.func73, Tryd.ntmps73
    go_wp2_with fail
    refine (H1.out _).mono ?_
    rintro e w1 ⟨rfl, hb1⟩
    have HB1 := Lib.hid hb1
    clear hb1
    go_wp2_with fail
    refine (HP1'.out _).mono ?_
    rintro e w' ⟨rfl, rfl⟩
    go_wp2_with fail
    refine (HX1.out _).mono ?_
    rintro e w2 ⟨rfl, hb2⟩
    have HB2 := Lib.hid hb2
    clear hb2
    go_wp2_with fail
    go_ret2
    exact ⟨rfl, HB1.out.trans (HB2.out.mono HB1.out.size)⟩
  rw [if_neg h1] at HI2
  have HP1' := Lib.hid (HP1.out false (by rw [decide_eq_false h1]))
  clear HP1 HX h1
  by_cases h2 : bt s 0 = 94
  · rw [if_pos h2] at HI2
    have HF := Lib.hid (mk_pair HI2)
    have HP2' := Lib.hid (HP2.out true (by rw [h2]; rfl))
    clear HI2 h2
    rw [HF.out.1, HF.out.2] at HL
    go_enter Tryd.func73, Tryd.ntmps73
    go_wp2_with fail
    refine (H1.out _).mono ?_
    rintro e w1 ⟨rfl, hb1⟩
    have HB1 := Lib.hid hb1
    clear hb1
    go_wp2_with fail
    refine (HP1'.out _).mono ?_
    rintro e w' ⟨rfl, rfl⟩
    go_wp2_with fail
    refine (HP2'.out _).mono ?_
    rintro e w' ⟨rfl, rfl⟩
    go_wp2_with fail
    refine (HL.out _).mono ?_
    rintro e w' ⟨rfl, rfl⟩
    go_wp2_with fail
    go_ret2
    exact ⟨rfl, HB1.out⟩
  rw [if_neg h2] at HI2
  have HP2' := Lib.hid (HP2.out false (by rw [decide_eq_false h2]))
  clear HP2 HL h2
  by_cases h3 : s.size = 0
  · rw [if_pos (.inl (by omega))] at HI2
    have HF := Lib.hid (mk_pair HI2)
    have HO' := Lib.hid (HO.out h3)
    clear HI2
    go_enter Tryd.func73, Tryd.ntmps73
    go_wp2_with fail
    refine (H1.out _).mono ?_
    rintro e w1 ⟨rfl, hb1⟩
    have HB1 := Lib.hid hb1
    clear hb1
    go_wp2_with fail
    refine (HP1'.out _).mono ?_
    rintro e w' ⟨rfl, rfl⟩
    go_wp2_with fail
    refine (HP2'.out _).mono ?_
    rintro e w' ⟨rfl, rfl⟩
    go_wp2_with fail
    refine (HO'.out _).mono ?_
    rintro e w' ⟨rfl, m, rfl⟩
    go_wp2_with fail
    go_ret2
    exact ⟨ret2I HF.out.1 (by rw [← HF.out.2]; rfl), HB1.out.trans ((Below.ofDrewN _ _).mono HB1.out.size)⟩
  have hp : 0 < s.size := by omega
  have HN' := Lib.hid (HN.out hp)
  clear HO HN h3
  obtain ⟨c, hc⟩ : ∃ c, c = nc s 0 := ⟨_, rfl⟩
  obtain ⟨l, hl⟩ : ∃ l, l = nl s 0 := ⟨_, rfl⟩
  rw [← hc] at HI2 HN'
  rw [← hl] at HI2 HN'
  clear hc hl
  by_cases h4 : c < 32
  · rw [if_pos (.inr h4)] at HI2
    have HF := Lib.hid (mk_pair HI2)
    clear HI2
    go_enter Tryd.func73, Tryd.ntmps73
    go_wp2_with fail
    refine (H1.out _).mono ?_
    rintro e w1 ⟨rfl, hb1⟩
    have HB1 := Lib.hid hb1
    clear hb1
    go_wp2_with fail
    refine (HP1'.out _).mono ?_
    rintro e w' ⟨rfl, rfl⟩
    go_wp2_with fail
    refine (HP2'.out _).mono ?_
    rintro e w' ⟨rfl, rfl⟩
    go_wp2_with fail
    refine (HN'.out _ (HT.out.below HB1.out)).mono ?_
    rintro e w' ⟨rfl, m, rfl⟩
    go_wp2_with fail
    go_ret2
    exact ⟨ret2I HF.out.1 (by rw [← HF.out.2]; rfl), HB1.out.trans ((Below.ofDrewN _ _).mono HB1.out.size)⟩
  rw [if_neg (by omega)] at HI2
  have gb := get_bt s 0 hp
  have b0 := bt_nonneg s 0
  have b1 := bt_le s 0
  have HG := Lib.hid (fun W => begins_any (bt s 0) W)
  obtain ⟨x, hx⟩ : ∃ x, x = bt s 0 := ⟨_, rfl⟩
  rw [← hx] at gb b0 b1 HG HI2
  clear hx
  by_cases h5 : 97 ≤ x ∧ x ≤ 122
  · have e : beg x = 1 := by unfold beg; rw [if_pos h5]
    rw [e] at HG
    have HC : Hid (∀ W, LTabs W → W.cell? ⟨4, (x - 97).toNat, none⟩ = some (.int .i64 (ltr x))) := fun W hT => by
      have := hT.2 (x - 97).toNat (by omega)
      rw [this]
      congr 3
      omega
    have hw : IntKind.u8.wrap (x - 97) = x - 97 := by rw [IntKind.wrap_u8]; omega
    obtain ⟨y, hy⟩ : ∃ y, y = ltr x := ⟨_, rfl⟩
    rw [← hy] at HC HI2
    obtain ⟨h6, h7⟩ := h5
    clear hy e
    by_cases h8 : y = 0
    · subst h8
      rw [if_neg (fun h => h.2 rfl)] at HI2
      have HF := Lib.hid (mk_pair HI2)
      clear HI2
      go_enter Tryd.func73, Tryd.ntmps73
      go_wp2_with fail
      refine (H1.out _).mono ?_
      rintro e w1 ⟨rfl, hb1⟩
      have HB1 := Lib.hid hb1
      clear hb1
      go_wp2_with fail
      refine (HP1'.out _).mono ?_
      rintro e w' ⟨rfl, rfl⟩
      go_wp2_with fail
      refine (HP2'.out _).mono ?_
      rintro e w' ⟨rfl, rfl⟩
      go_wp2_with fail
      refine (HN'.out _ (HT.out.below HB1.out)).mono ?_
      rintro e w' ⟨rfl, m, rfl⟩
      have hcell := HC.out w1 (HT.out.below HB1.out)
      go_wp2_with fail
      refine (HG.out _).mono ?_
      rintro e w' ⟨rfl, rfl⟩
      go_wp2_with fail
      go_ret2
      exact ⟨ret2I HF.out.1 (by rw [← HF.out.2]), HB1.out.trans ((Below.ofDrewN _ _).mono HB1.out.size)⟩
    · rw [if_pos ⟨⟨h6, h7⟩, h8⟩] at HI2
      have HF := Lib.hid (mk_pair HI2)
      have g8 : (y != 0) = true := by simpa using h8
      clear HI2 h8
      go_enter Tryd.func73, Tryd.ntmps73
      go_wp2_with fail
      refine (H1.out _).mono ?_
      rintro e w1 ⟨rfl, hb1⟩
      have HB1 := Lib.hid hb1
      clear hb1
      go_wp2_with fail
      refine (HP1'.out _).mono ?_
      rintro e w' ⟨rfl, rfl⟩
      go_wp2_with fail
      refine (HP2'.out _).mono ?_
      rintro e w' ⟨rfl, rfl⟩
      go_wp2_with fail
      refine (HN'.out _ (HT.out.below HB1.out)).mono ?_
      rintro e w' ⟨rfl, m, rfl⟩
      have hcell := HC.out w1 (HT.out.below HB1.out)
      go_wp2_with fail
      refine (HG.out _).mono ?_
      rintro e w' ⟨rfl, rfl⟩
      go_wp2_with fail
      go_ret2
      exact ⟨ret2I HF.out.1 (by rw [← HF.out.2]), HB1.out.trans ((Below.ofDrewN _ _).mono HB1.out.size)⟩
  · rw [if_neg (fun h => h5 h.1)] at HI2
    have HF := Lib.hid (mk_pair HI2)
    have e := beg_ne h5
    obtain ⟨y, hy⟩ : ∃ y, y = beg x := ⟨_, rfl⟩
    rw [← hy] at e HG
    have g9 : (y == 1) = false := beq_false_of_ne e
    clear HI2 h5 e hy
    go_enter Tryd.func73, Tryd.ntmps73
    go_wp2_with fail
    refine (H1.out _).mono ?_
    rintro e w1 ⟨rfl, hb1⟩
    have HB1 := Lib.hid hb1
    clear hb1
    go_wp2_with fail
    refine (HP1'.out _).mono ?_
    rintro e w' ⟨rfl, rfl⟩
    go_wp2_with fail
    refine (HP2'.out _).mono ?_
    rintro e w' ⟨rfl, rfl⟩
    go_wp2_with fail
    refine (HN'.out _ (HT.out.below HB1.out)).mono ?_
    rintro e w' ⟨rfl, m, rfl⟩
    go_wp2_with fail
    refine (HG.out _).mono ?_
    rintro e w' ⟨rfl, rfl⟩
    go_wp2_with fail
    go_ret2
    exact ⟨ret2I HF.out.1 (by rw [← HF.out.2]), HB1.out.trans ((Below.ofDrewN _ _).mono HB1.out.size)⟩
theorem pu_size (c : Int) : ((pu c).toList == []) = !isPt c := by
  unfold pu
  cases h : isPt c
  · rw [if_neg (by decide), ByteArray.toList_eq]; rfl
  · rw [if_pos rfl]
    have h1 := (reads_enc h).1
    have h2 := lenOf_pos c
    exact ne_empty (by omega)
/-- ESCAPE. -/
theorem escape_any (s : ByteArray) (k : Nat) (hs : s.size ≤ maxLen) (w : World) (ht : LTabs w) :
    Calls Tryd.prog 56 #[.string s, .int .i64 k] w fun e w' => e = .returned (.tuple #[.int .i64 (esc s k).1, .int .i64 (esc s k).2]) ∧ Below w.heap.size w w' := by
  have HT := Lib.hid ht
  clear ht
  have gb := get_bt s
  by_cases h1 : k < s.size
  · have hz : (s.extract (k + 1) s.size).size = s.size - (k + 1) := size_ext s (k + 1) s.size (Nat.le_refl _)
    have HM := Lib.hid (fun W hT => meant_any (s.extract (k + 1) s.size) (by omega) W hT)
    rw [mnt_tail s (k + 1) 0 (by omega), Nat.add_zero] at HM
    by_cases h2 : bt s k = 92
    · have mb := mnt_bd s (k + 1)
      have HU := Lib.hid (fun W (hT : LTabs W) => put_any (mnt s (k + 1)).1 W hT.1)
      have HZ := pu_size (mnt s (k + 1)).1
      have he : esc s k = if isPt (mnt s (k + 1)).1 = true then ((mnt s (k + 1)).1, 1 + (mnt s (k + 1)).2) else (-1, 0) := by unfold esc; rw [if_pos ⟨h1, h2⟩]
      rw [he]
      clear he
      obtain ⟨v, hv⟩ : ∃ v, v = (mnt s (k + 1)).1 := ⟨_, rfl⟩
      obtain ⟨n, hn⟩ : ∃ n, n = (mnt s (k + 1)).2 := ⟨_, rfl⟩
      rw [← hv, ← hn] at HM mb
      rw [← hv] at HU HZ
      rw [← hv, ← hn]
      obtain ⟨U, hU⟩ : ∃ U, U = pu v := ⟨_, rfl⟩
      rw [← hU] at HU HZ
      have gk := gb k h1
      rw [h2] at gk
      clear hv hn hU gb h2
      unfold maxLen at hs
      cases hp : isPt v
      · rw [hp] at HZ
        simp only [Bool.not_false] at HZ
        go_enter Tryd.func56, Tryd.ntmps56
        go_wp2_with fail
        refine (HM.out _ HT.out).mono ?_
        rintro e w1 ⟨rfl, hb1⟩
        have HB1 := Lib.hid hb1
        clear hb1
        go_wp2_with fail
        refine (HU.out _ (HT.out.below HB1.out)).mono ?_
        rintro e w2 ⟨rfl, hb2⟩
        have HB2 := Lib.hid hb2
        clear hb2
        go_wp2_with fail
        go_ret2
        exact ⟨rfl, HB1.out.trans (HB2.out.mono HB1.out.size)⟩
      · rw [hp] at HZ
        simp only [Bool.not_true] at HZ
        go_enter Tryd.func56, Tryd.ntmps56
        go_wp2_with fail
        refine (HM.out _ HT.out).mono ?_
        rintro e w1 ⟨rfl, hb1⟩
        have HB1 := Lib.hid hb1
        clear hb1
        go_wp2_with fail
        refine (HU.out _ (HT.out.below HB1.out)).mono ?_
        rintro e w2 ⟨rfl, hb2⟩
        have HB2 := Lib.hid hb2
        clear hb2
        go_wp2_with fail
        go_ret2
        exact ⟨by simp, HB1.out.trans (HB2.out.mono HB1.out.size)⟩
    · have he : esc s k = (-1, 0) := by unfold esc; rw [if_neg (fun h => h2 h.2)]
      rw [he]
      have gk := gb k h1
      have g2 : (bt s k != 92) = true := by simpa using h2
      unfold maxLen at hs
      obtain ⟨x, hx⟩ : ∃ x, x = bt s k := ⟨_, rfl⟩
      rw [← hx] at gk g2
      clear gb h2 hx HM he
      go_enter Tryd.func56, Tryd.ntmps56
      go_wp2_with fail
      go_ret2
      exact ⟨rfl, Below.refl _ _⟩
  · have he : esc s k = (-1, 0) := by unfold esc; rw [if_neg (fun h => h1 h.1)]
    rw [he]
    have g1 : (s.size : Int) ≤ (k : Int) := by omega
    clear gb he
    go_enter Tryd.func56, Tryd.ntmps56
    go_wp2_with fail
    go_ret2
    exact ⟨rfl, Below.refl _ _⟩
theorem escape_out (s : ByteArray) (i : Int) (w : World) (h : i < 0) :
    Calls Tryd.prog 56 #[.string s, .int .i64 i] w fun e w' => e = .returned (.tuple #[.int .i64 (-1), .int .i64 0]) ∧ Below w.heap.size w w' := by
  go_enter Tryd.func56, Tryd.ntmps56
  go_wp2_with fail
  go_ret2
  exact ⟨rfl, Below.refl _ _⟩
end Go.Proofs.YtajjhhodpohfpaaDoor
/- The contracts of package lit's Char and between. -/
namespace Go.Proofs.YtajjhhodpohfpaaDoor
open Go.RowKit Go.PlainAid

/-- What a char means, and what is told of what is none. -/
def chr (s : ByteArray) : Int × Int :=
  if bt s 0 = 36 then
    (if (esc s 1).1 = -1 then
      (if s.size ≤ 1 ∨ nc s 1 ≤ 32 ∨ nc s 1 = 92 ∨ nc s 1 = 127 then (0, 8) else if 1 + nl s 1 = s.size then (nc s 1, 0) else (0, 8))
    else if 1 + (esc s 1).2 = s.size then ((esc s 1).1, 0) else (0, 8))
  else (0, 8)
def HpAt (s : ByteArray) (v : Bool) : Prop := ∀ W, Calls Tryd.prog 57 #[.string s, .string { data := #[36] }] W fun e w' => e = .returned (.bool v) ∧ W = w'
def EscAt (s : ByteArray) (k : Nat) (c : Int) (n : Nat) : Prop := ∀ W, LTabs W → Calls Tryd.prog 56 #[.string s, .int .i64 k] W fun e w' => e = .returned (.tuple #[.int .i64 c, .int .i64 n]) ∧ Below W.heap.size W w'
def NextAt (s : ByteArray) (k : Nat) (c : Int) (n : Nat) : Prop := ∀ W, LTabs W → Calls Tryd.prog 32 #[.string s, .int .i64 k] W fun e w' => e = .returned (.tuple #[.int .i64 c, .int .i64 n]) ∧ ∃ m, w' = W.drewN m
/-- Does a text stand between two of one of the quotes? -/
def btw (s : ByteArray) : Bool := decide (2 ≤ s.size) && (bt s 0 == bt s (s.size - 1)) && (bt s 0 == 34 || bt s 0 == 39)
end Go.Proofs.YtajjhhodpohfpaaDoor
