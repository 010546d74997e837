/-
  The contracts of package lit's control, hexadecimal, meant, Escape, and of HasPrefix, CutPrefix where they ask.
-/
import Derived.Test.YtnejkdaiopjchaaDoorLitInt
import Derived.Test.YtnejkdaiopjchaaDoorEscMath
import Derived.Test.YtnejkdaiopjchaaDoorWordWalks
namespace Go.Proofs.YtnejkdaiopjchaaDoor
open Go.RowKit Go.PlainAid

/-- The tables: utf's three and lit's letters. -/
def LTabs (w : World) : Prop := Tabs w ∧ ∀ k : Nat, k < 26 → w.cell? ⟨2, k, none⟩ = some (.int .i64 (ltr (97 + (k : Int))))
theorem LTabs.drewN {w : World} (h : LTabs w) (n : Nat) : LTabs (w.drewN n) := h
theorem LTabs.below {w w' : World} (h : LTabs w) (hb : Below w.heap.size w w') : LTabs w' := by
  have key : ∀ {a : Addr} {v : Value}, w.cell? a = some v → w'.cell? a = some v := fun hc => (hb.cell (World.block_lt_of_cell? _ _ hc)).trans hc
  exact ⟨h.1.below hb, fun k hk => key (h.2 k hk)⟩

theorem first_eq {s : ByteArray} (c : UInt8) (h : 0 < s.size) : ((s.extract 0 1).toList == [c]) = decide (bt s 0 = (c.toNat : Int)) := by
  have hl : (s.extract 0 1).toList = [s[0]'h] := by
    rw [ByteArray.toList_eq, Lib.extract_data]
    have h0 : 0 < s.data.toList.length := by rw [Array.length_toList]; exact h
    rw [show s.data.toList = s.data.toList[0] :: s.data.toList.drop 1 by simpa using (List.drop_eq_getElem_cons h0)]
    rfl
  rw [hl, ← get_bt s 0 h]
  by_cases e : s[0]'h = c
  · rw [e]; simp
  · rw [decide_eq_false (fun h' => e (UInt8.toNat_inj.1 (by omega)))]
    simp [e]
theorem hp_any (s : ByteArray) (c : UInt8) (hs : s.size ≤ maxLen) (w : World) :
    Calls Tryd.prog 27 #[.string s, .string { data := #[c] }] w fun e w' => e = .returned (.bool (decide (0 < s.size) && decide (bt s 0 = (c.toNat : Int)))) ∧ w = w' := by
  unfold maxLen at hs
  have hz : (({ data := #[c] } : ByteArray).size : Int) = 1 := rfl
  have ht : ({ data := #[c] } : ByteArray).toList = [c] := by rw [ByteArray.toList_eq]
  by_cases h : 0 < s.size
  · have HF := Lib.hid (first_eq c h)
    rw [decide_eq_true h]
    have h1 : (1 : Int) ≤ (s.size : Int) := by omega
    go_enter Tryd.func27, Tryd.ntmps27
    go_wp2
    go_ret
    exact ⟨by simp only [Array.getD]; rw [Bool.true_and, ← HF.out]; rfl, rfl⟩
  · rw [decide_eq_false h]
    have h1 : ¬ (1 : Int) ≤ (s.size : Int) := by omega
    go_enter Tryd.func27, Tryd.ntmps27
    go_wp2
    go_ret
    exact ⟨rfl, rfl⟩
theorem hp_is (s : ByteArray) (c : UInt8) (v : Bool) (hc : 0 < c.toNat) (hs : s.size ≤ maxLen) (hv : v = decide (bt s 0 = (c.toNat : Int))) (w : World) :
    Calls Tryd.prog 27 #[.string s, .string { data := #[c] }] w fun e w' => e = .returned (.bool v) ∧ w = w' := by
  have h := hp_any s c hs w
  have e : (decide (0 < s.size) && decide (bt s 0 = (c.toNat : Int))) = v := by
    rw [hv]
    by_cases hz : 0 < s.size
    · rw [decide_eq_true hz]; rfl
    · rw [decide_eq_false hz, bt_end s (by omega), decide_eq_false (by omega)]; rfl
  rw [e] at h
  exact h
theorem two_eq {s : ByteArray} (h : 1 < s.size) (h0 : bt s 0 = 120) : ((s.extract 0 2).toList == [120, 123]) = decide (bt s 1 = 123) := by
  have hl : (s.extract 0 2).toList = [s[0]'(by omega), s[1]'h] := by
    rw [ByteArray.toList_eq, Lib.extract_data]
    have l0 : 0 < s.data.toList.length := by rw [Array.length_toList]; show 0 < s.size; omega
    have l1 : 1 < s.data.toList.length := by rw [Array.length_toList]; exact h
    rw [show s.data.toList = s.data.toList[0] :: s.data.toList[1] :: s.data.toList.drop 2 by
      have a := List.drop_eq_getElem_cons l0
      have b := List.drop_eq_getElem_cons l1
      rw [← b]; simpa using a]
    rfl
  have e0 : s[0]'(by omega) = 120 := UInt8.toNat_inj.1 (by have := get_bt s 0 (by omega); rw [h0] at this; have : (120 : UInt8).toNat = 120 := rfl; omega)
  rw [hl, e0, ← get_bt s 1 h]
  by_cases e : s[1]'h = 123
  · rw [e]; rfl
  · rw [decide_eq_false (fun h' => e (UInt8.toNat_inj.1 (by have : (123 : UInt8).toNat = 123 := rfl; omega)))]
    simp [e]
theorem cutp_any (s : ByteArray) (hs : s.size ≤ maxLen) (h0 : bt s 0 = 120) (w : World) :
    Calls Tryd.prog 59 #[.string s, .string { data := #[120, 123] }] w fun e w' => e = .returned (if bt s 1 = 123 then .tuple #[.string (s.extract 2 s.size), .bool true] else .tuple #[.string s, .bool false]) ∧ w = w' := by
  unfold maxLen at hs
  have hz : (({ data := #[120, 123] } : ByteArray).size : Int) = 2 := rfl
  have ht : ({ data := #[120, 123] } : ByteArray).toList = [120, 123] := by rw [ByteArray.toList_eq]
  by_cases h : 1 < s.size
  · have HF := two_eq h h0
    have h1 : (2 : Int) ≤ (s.size : Int) := by omega
    by_cases h2 : bt s 1 = 123
    · rw [if_pos h2]
      rw [decide_eq_true h2] at HF
      go_enter Tryd.func59, Tryd.ntmps59
      go_wp2
      go_ret2
      exact ⟨rfl, rfl⟩
    · rw [if_neg h2]
      rw [decide_eq_false h2] at HF
      go_enter Tryd.func59, Tryd.ntmps59
      go_wp2
      go_ret2
      exact ⟨rfl, rfl⟩
  · rw [if_neg (by rw [bt_end s (by omega)]; omega)]
    have h1 : ¬ (2 : Int) ≤ (s.size : Int) := by omega
    go_enter Tryd.func59, Tryd.ntmps59
    go_wp2
    go_ret2
    exact ⟨rfl, rfl⟩
theorem shifted4_b (s : ByteArray) (m : Nat) (hm : m ≤ 6) (hs : s.size ≤ maxLen) (w : World) :
    Calls Tryd.prog 49 #[.string s, .int .u64 4, .int .i64 m] w fun e w' => e = .returned (.tuple #[.int .i64 (rv s 16 m 0 0), .int .i64 (rc s 16 m 0)]) ∧ Below w.heap.size w w' :=
  (shifted_4 s m hm hs w).mono fun _ _ ⟨h, p, hw⟩ => ⟨h, hw ▸ below_iter w s p⟩
theorem shifted3_b (s : ByteArray) (m : Nat) (hm : m ≤ 6) (hs : s.size ≤ maxLen) (w : World) :
    Calls Tryd.prog 49 #[.string s, .int .u64 3, .int .i64 m] w fun e w' => e = .returned (.tuple #[.int .i64 (rv s 8 m 0 0), .int .i64 (rc s 8 m 0)]) ∧ Below w.heap.size w w' :=
  (shifted_3 s m hm hs w).mono fun _ _ ⟨h, p, hw⟩ => ⟨h, hw ▸ below_iter w s p⟩
/-- HEXADECIMAL, of what begins with x. -/
theorem hexa_any (s : ByteArray) (hs : s.size ≤ maxLen) (h0 : bt s 0 = 120) (w : World) :
    Calls Tryd.prog 50 #[.string s] w fun e w' => e = .returned (.tuple #[.int .i64 (hxd s 0).1, .int .i64 (hxd s 0).2]) ∧ Below w.heap.size w w' := by
  have hp : 0 < s.size := by
    apply Classical.byContradiction
    intro h
    rw [bt_end s (by omega)] at h0
    omega
  have HC := Lib.hid (fun W => cutp_any s hs h0 W)
  obtain ⟨V, hV⟩ : ∃ V, V = (hxd s 0).1 := ⟨_, rfl⟩
  obtain ⟨N, hN⟩ : ∃ N : Nat, N = (hxd s 0).2 := ⟨_, rfl⟩
  rw [← hV, ← hN]
  have HI : Hid ((V, N) = hxd s 0) := by rw [hV, hN]; rfl
  clear hV hN
  unfold hxd at HI
  simp only [Nat.zero_add] at HI
  have hs' : s.size ≤ maxLen := hs
  unfold maxLen at hs
  by_cases h1 : bt s 1 = 123
  · rw [if_pos h1] at HC HI
    have h2 : 2 ≤ s.size := by
      apply Classical.byContradiction
      intro h
      rw [bt_end s (by omega)] at h1
      omega
    have hz : (s.extract 2 s.size).size = s.size - 2 := size_ext s 2 s.size (Nat.le_refl _)
    have H1 := Lib.hid (fun W => shifted4_b (s.extract 2 s.size) 6 (by omega) (by omega) W)
    rw [rc_tail s 16 6 2 0 h2, rv_tail s 16 6 2 0 0 h2, Nat.add_zero] at H1
    have r1 := rc_in s 16 (by omega) 6 2 h2
    have r2 := rc_le s 16 6 2
    obtain ⟨n, hn⟩ : ∃ n, n = rc s 16 6 2 := ⟨_, rfl⟩
    obtain ⟨v, hv⟩ : ∃ v, v = rv s 16 6 2 0 := ⟨_, rfl⟩
    rw [← hn] at HI H1 r1 r2
    rw [← hv] at HI H1
    clear hn hv h1 h0
    have H2 : Hid (∀ b, b = decide (bt s (2 + n) = 125) → ∀ W, Calls Tryd.prog 27 #[.string ((s.extract 2 s.size).extract n (s.extract 2 s.size).size), .string { data := #[125] }] W fun e w' => e = .returned (.bool b) ∧ W = w') := fun b hb W =>
      hp_is _ 125 b (by decide) (by rw [size_ext _ _ _ (Nat.le_refl _)]; unfold maxLen; omega) (by rw [hb, bt_tail (s.extract 2 s.size) n 0 (by omega), Nat.add_zero, bt_tail s 2 n h2]; rfl) W
    rw [hz] at H2
    by_cases hn0 : n = 0
    · subst hn0
      have HF : Hid ((V, N) = (-1, 0)) := by have := HI.out; rw [if_pos (.inl rfl)] at this; exact this
      have hf : Hid (V = -1 ∧ N = 0) := ⟨congrArg Prod.fst HF.out, congrArg Prod.snd HF.out⟩
      clear HI HF H2 r1 r2
      go_enter Tryd.func50, Tryd.ntmps50
      go_wp2_with fail
      refine (HC.out _).mono ?_
      rintro e w' ⟨rfl, rfl⟩
      go_wp2_with fail
      refine (H1.out _).mono ?_
      rintro e w1 ⟨rfl, hb1⟩
      have HB1 := Lib.hid hb1
      clear hb1
      go_wp2_with fail
      go_ret2
      exact ⟨ret2I hf.out.1.symm (by rw [hf.out.2]; rfl), HB1.out⟩
    · have g0 : ((n : Int) == 0) = false := beq_false_of_ne (by omega)
      by_cases hb : bt s (2 + n) = 125
      · have HF : Hid ((V, N) = (v, n + 3)) := by have := HI.out; rw [if_neg (by omega)] at this; exact this
        have hf : Hid (V = v ∧ N = n + 3) := ⟨congrArg Prod.fst HF.out, congrArg Prod.snd HF.out⟩
        have H3 := Lib.hid (H2.out true (by rw [hb]; rfl))
        clear HI HF H2 hn0 hb
        go_enter Tryd.func50, Tryd.ntmps50
        go_wp2_with fail
        refine (HC.out _).mono ?_
        rintro e w' ⟨rfl, rfl⟩
        go_wp2_with fail
        refine (H1.out _).mono ?_
        rintro e w1 ⟨rfl, hb1⟩
        have HB1 := Lib.hid hb1
        clear hb1
        go_wp2_with fail
        refine (H3.out _).mono ?_
        rintro e w' ⟨rfl, rfl⟩
        go_wp2_with fail
        go_ret2
        exact ⟨ret2I hf.out.1.symm (by rw [hf.out.2]; omega), HB1.out⟩
      · have HF : Hid ((V, N) = (-1, 0)) := by have := HI.out; rw [if_pos (.inr hb)] at this; exact this
        have hf : Hid (V = -1 ∧ N = 0) := ⟨congrArg Prod.fst HF.out, congrArg Prod.snd HF.out⟩
        have H3 := Lib.hid (H2.out false (by rw [decide_eq_false hb]))
        clear HI HF H2 hn0 hb
        go_enter Tryd.func50, Tryd.ntmps50
        go_wp2_with fail
        refine (HC.out _).mono ?_
        rintro e w' ⟨rfl, rfl⟩
        go_wp2_with fail
        refine (H1.out _).mono ?_
        rintro e w1 ⟨rfl, hb1⟩
        have HB1 := Lib.hid hb1
        clear hb1
        go_wp2_with fail
        refine (H3.out _).mono ?_
        rintro e w' ⟨rfl, rfl⟩
        go_wp2_with fail
        go_ret2
        exact ⟨ret2I hf.out.1.symm (by rw [hf.out.2]; rfl), HB1.out⟩
  · rw [if_neg h1] at HC HI
    have hz : (s.extract 1 s.size).size = s.size - 1 := size_ext s 1 s.size (Nat.le_refl _)
    have H1 := Lib.hid (fun W => shifted4_b (s.extract 1 s.size) 2 (by omega) (by omega) W)
    rw [rc_tail s 16 2 1 0 hp, rv_tail s 16 2 1 0 0 hp, Nat.add_zero] at H1
    have r1 := rc_le s 16 2 1
    obtain ⟨n, hn⟩ : ∃ n, n = rc s 16 2 1 := ⟨_, rfl⟩
    obtain ⟨v, hv⟩ : ∃ v, v = rv s 16 2 1 0 := ⟨_, rfl⟩
    rw [← hn] at HI H1 r1
    rw [← hv] at HI H1
    clear hn hv h1 h0
    by_cases hn2 : n < 2
    · have HF : Hid ((V, N) = (-1, 0)) := by have := HI.out; rw [if_pos hn2] at this; exact this
      have hf : Hid (V = -1 ∧ N = 0) := ⟨congrArg Prod.fst HF.out, congrArg Prod.snd HF.out⟩
      have g : (n : Int) < 2 := by omega
      clear HI HF
      go_enter Tryd.func50, Tryd.ntmps50
      go_wp2_with fail
      refine (HC.out _).mono ?_
      rintro e w' ⟨rfl, rfl⟩
      go_wp2_with fail
      refine (H1.out _).mono ?_
      rintro e w1 ⟨rfl, hb1⟩
      have HB1 := Lib.hid hb1
      clear hb1
      go_wp2_with fail
      go_ret2
      exact ⟨ret2I hf.out.1.symm (by rw [hf.out.2]; rfl), HB1.out⟩
    · obtain rfl : n = 2 := by omega
      have HF : Hid ((V, N) = (v, 3)) := by have := HI.out; rw [if_neg hn2] at this; exact this
      have hf : Hid (V = v ∧ N = 3) := ⟨congrArg Prod.fst HF.out, congrArg Prod.snd HF.out⟩
      clear HI HF hn2 r1
      go_enter Tryd.func50, Tryd.ntmps50
      go_wp2_with fail
      refine (HC.out _).mono ?_
      rintro e w' ⟨rfl, rfl⟩
      go_wp2_with fail
      refine (H1.out _).mono ?_
      rintro e w1 ⟨rfl, hb1⟩
      have HB1 := Lib.hid hb1
      clear hb1
      go_wp2_with fail
      go_ret2
      exact ⟨ret2I hf.out.1.symm (by rw [hf.out.2]; rfl), HB1.out⟩
theorem beg_ne {c : Int} (h : ¬ (97 ≤ c ∧ c ≤ 122)) : beg c ≠ 1 := by
  unfold beg
  rw [if_neg h]
  repeat' split
  all_goals omega
/-- CONTROL, of what begins with ^. -/
theorem control_any (s : ByteArray) (w : World) :
    Calls Tryd.prog 51 #[.string s] w fun e w' => e = .returned (.tuple #[.int .i64 (ctl (bt s 1)).1, .int .i64 (ctl (bt s 1)).2]) ∧ w = w' := by
  by_cases h : 1 < s.size
  · have gb := get_bt s
    have HB := Lib.hid (fun W => begins_any (bt s 1) W)
    have b0 := bt_nonneg s 1
    have b1 := bt_le s 1
    have hx : bits .and .u8 (bt s 1) 31 = bt s 1 % 32 := bits_mask .u8 8 (by decide) wraps_u8 5 (by decide) (bt s 1) b0 (by omega)
    have h1 : ¬ (s.size : Int) < 2 := by omega
    obtain ⟨V, hV⟩ : ∃ V, V = (ctl (bt s 1)).1 := ⟨_, rfl⟩
    obtain ⟨N, hN⟩ : ∃ N : Nat, N = (ctl (bt s 1)).2 := ⟨_, rfl⟩
    rw [← hV, ← hN]
    have HI : Hid ((V, N) = ctl (bt s 1)) := by rw [hV, hN]; rfl
    clear hV hN
    unfold ctl at HI
    obtain ⟨c, hc⟩ : ∃ c, c = bt s 1 := ⟨_, rfl⟩
    rw [← hc] at HB b0 b1 hx HI
    have gc := gb 1 h
    rw [← hc] at gc
    clear gb hc
    by_cases a1 : 64 ≤ c
    · by_cases a2 : c ≤ 95
      · have HF : Hid (V = c % 32 ∧ N = 2) := by
          have := HI.out
          rw [if_pos (.inl ⟨a1, a2⟩)] at this
          exact ⟨congrArg Prod.fst this, congrArg Prod.snd this⟩
        clear HI
        go_enter Tryd.func51, Tryd.ntmps51
        go_wp2_with fail
        go_ret2
        exact ⟨ret2I HF.out.1.symm (by rw [HF.out.2]; rfl), rfl⟩
      · by_cases a3 : 97 ≤ c ∧ c ≤ 122
        · have HF : Hid (V = c % 32 ∧ N = 2) := by
            have := HI.out
            rw [if_pos (.inr a3)] at this
            exact ⟨congrArg Prod.fst this, congrArg Prod.snd this⟩
          have e : beg c = 1 := by unfold beg; rw [if_pos a3]
          rw [e] at HB
          clear HI e a3
          go_enter Tryd.func51, Tryd.ntmps51
          go_wp2_with fail
          refine (HB.out _).mono ?_
          rintro e w' ⟨rfl, rfl⟩
          go_wp2_with fail
          go_ret2
          exact ⟨ret2I HF.out.1.symm (by rw [HF.out.2]; rfl), rfl⟩
        · have HF : Hid (V = -1 ∧ N = 0) := by
            have := HI.out
            rw [if_neg (by omega)] at this
            exact ⟨congrArg Prod.fst this, congrArg Prod.snd this⟩
          have e : (beg c == 1) = false := beq_false_of_ne (beg_ne a3)
          obtain ⟨y, hy⟩ : ∃ y, y = beg c := ⟨_, rfl⟩
          rw [← hy] at e HB
          clear HI a3 hy
          go_enter Tryd.func51, Tryd.ntmps51
          go_wp2_with fail
          refine (HB.out _).mono ?_
          rintro e w' ⟨rfl, rfl⟩
          go_wp2_with fail
          go_ret2
          exact ⟨ret2I HF.out.1.symm (by rw [HF.out.2]; rfl), rfl⟩
    · have HF : Hid (V = -1 ∧ N = 0) := by
        have := HI.out
        rw [if_neg (by omega)] at this
        exact ⟨congrArg Prod.fst this, congrArg Prod.snd this⟩
      have g1 : decide (64 ≤ c) = false := decide_eq_false a1
      have e : (beg c == 1) = false := beq_false_of_ne (beg_ne (by omega))
      obtain ⟨y, hy⟩ : ∃ y, y = beg c := ⟨_, rfl⟩
      rw [← hy] at e HB
      clear HI hy
      go_enter Tryd.func51, Tryd.ntmps51
      go_wp2_with fail
      refine (HB.out _).mono ?_
      rintro e w' ⟨rfl, rfl⟩
      go_wp2_with fail
      go_ret2
      exact ⟨ret2I HF.out.1.symm (by rw [HF.out.2]; rfl), rfl⟩
  · have e : ctl (bt s 1) = (-1, 0) := by rw [bt_end s (by omega)]; rfl
    rw [e]
    have h1 : (s.size : Int) < 2 := by omega
    go_enter Tryd.func51, Tryd.ntmps51
    go_wp2
    go_ret2
    exact ⟨rfl, rfl⟩
end Go.Proofs.YtnejkdaiopjchaaDoor
