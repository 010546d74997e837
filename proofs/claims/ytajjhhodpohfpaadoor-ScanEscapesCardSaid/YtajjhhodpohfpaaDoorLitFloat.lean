/-
  The contracts of package lit's digits, exponent, Float.
-/
import Derived.Test.YtajjhhodpohfpaaDoorLitInts
import Derived.Test.YtajjhhodpohfpaaDoorLitAny
import Derived.Test.YtajjhhodpohfpaaDoorWordWalks
namespace Go.Proofs.YtajjhhodpohfpaaDoor
open Go.RowKit Go.PlainAid

theorem digits_any (s : ByteArray) (v : Bool) (hv : v = fm s 10 s.size 0 false) (w : World) :
    Calls Tryd.prog 78 #[.string s] w fun e w' => e = .returned (.bool v) ∧ Below w.heap.size w w' := by
  have H1 := Lib.hid (fun W => number_b s 10 (by omega) (by omega) W)
  have hf := nm_form s 10 s.size 0
  have hf' : ((nm s 10 s.size 0).2 != 8) = v := hf.trans hv.symm
  obtain ⟨B, hB⟩ : ∃ B, B = (nm s 10 s.size 0).1 := ⟨_, rfl⟩
  obtain ⟨E, hE⟩ : ∃ E, E = (nm s 10 s.size 0).2 := ⟨_, rfl⟩
  rw [← hB, ← hE] at H1
  rw [← hE] at hf'
  have HF := Lib.hid hf'
  clear hf hf' hB hE hv
  go_enter Tryd.func78, Tryd.ntmps78
  go_wp2_with fail
  refine (H1.out _).mono ?_
  rintro e w1 ⟨rfl, hb1⟩
  have HB1 := Lib.hid hb1
  clear hb1
  go_wp2_with fail
  go_ret
  exact ⟨by rw [← HF.out]; rfl, HB1.out⟩
/-- What may stand behind e or E, from byte k on. -/
def exq (s : ByteArray) (k : Nat) : Bool := if bt s k = 43 ∨ bt s k = 45 then fm s 10 s.size (k + 1) false else fm s 10 s.size k false
theorem exponent_any (s : ByteArray) (v : Bool) (hv : v = exq s 0) (hs : s.size ≤ maxLen) (w : World) :
    Calls Tryd.prog 80 #[.string s] w fun e w' => e = .returned (.bool v) ∧ Below w.heap.size w w' := by
  unfold maxLen at hs
  by_cases h0 : s.size = 0
  · obtain rfl := empty_of h0
    have H1 := Lib.hid (fun W => digits_any ⟨#[]⟩ v (by rw [hv]; decide +kernel) W)
    clear h0 hs hv
    go_enter Tryd.func80, Tryd.ntmps80
    go_wp2_with fail
    refine (H1.out _).mono ?_
    rintro e w1 ⟨rfl, hb1⟩
    have HB1 := Lib.hid hb1
    clear hb1
    go_wp2_with fail
    go_ret
    exact ⟨rfl, HB1.out⟩
  have g0 := ne_empty h0
  have hp : 0 < s.size := by omega
  have gb := get_bt s 0 hp
  unfold exq at hv
  by_cases h1 : bt s 0 = 43
  · rw [if_pos (.inl h1)] at hv
    have H1 := Lib.hid (fun W => digits_any (s.extract 1 s.size) v (by rw [fm_ext s 10 1 s.size (by omega) (Nat.le_refl _)]; exact hv) W)
    rw [h1] at gb
    clear h0 hv h1
    go_enter Tryd.func80, Tryd.ntmps80
    go_wp2_with fail
    refine (H1.out _).mono ?_
    rintro e w1 ⟨rfl, hb1⟩
    have HB1 := Lib.hid hb1
    clear hb1
    go_wp2_with fail
    go_ret
    exact ⟨rfl, HB1.out⟩
  by_cases h2 : bt s 0 = 45
  · rw [if_pos (.inr h2)] at hv
    have H1 := Lib.hid (fun W => digits_any (s.extract 1 s.size) v (by rw [fm_ext s 10 1 s.size (by omega) (Nat.le_refl _)]; exact hv) W)
    rw [h2] at gb
    clear h0 hv h2 h1
    go_enter Tryd.func80, Tryd.ntmps80
    go_wp2_with fail
    refine (H1.out _).mono ?_
    rintro e w1 ⟨rfl, hb1⟩
    have HB1 := Lib.hid hb1
    clear hb1
    go_wp2_with fail
    go_ret
    exact ⟨rfl, HB1.out⟩
  · rw [if_neg (by omega)] at hv
    have H1 := Lib.hid (fun W => digits_any s v hv W)
    have g1 : (bt s 0 == 43) = false := beq_false_of_ne h1
    have g2 : (bt s 0 == 45) = false := beq_false_of_ne h2
    obtain ⟨x, hx⟩ : ∃ x, x = bt s 0 := ⟨_, rfl⟩
    rw [← hx] at gb g1 g2
    clear h0 hv h2 h1 hx
    go_enter Tryd.func80, Tryd.ntmps80
    go_wp2_with fail
    refine (H1.out _).mono ?_
    rintro e w1 ⟨rfl, hb1⟩
    have HB1 := Lib.hid hb1
    clear hb1
    go_wp2_with fail
    go_ret
    exact ⟨rfl, HB1.out⟩
/-- What may stand behind a float's point. -/
def flr (R : ByteArray) : Bool := if ixe R 0 < R.size then (fm R 10 (ixe R 0) 0 false && exq R (ixe R 0 + 1)) else fm R 10 R.size 0 false
/-- A float. -/
def flt (s : ByteArray) : Bool := if ix s 46 0 < s.size then (fm s 10 (ix s 46 0) 0 false && flr (s.extract (ix s 46 0 + 1) s.size)) else false
theorem exq_tail (s : ByteArray) (a i : Nat) (ha : a ≤ s.size) (hi : a + i ≤ s.size) : exq (s.extract a s.size) i = exq s (a + i) := by
  have hz : (s.extract a s.size).size = s.size - a := size_ext s a s.size (Nat.le_refl _)
  unfold exq
  rw [bt_tail s a i ha, fm_congr (s := s.extract a s.size) (t := s) (f := s.size) (s.size - a - (i + 1)) (i + 1) (a + i + 1) false (by omega) (by omega) (fun x _ => by rw [bt_tail s a _ ha]; congr 1; omega), fm_congr (s := s.extract a s.size) (t := s) (f := s.size) (s.size - a - i) i (a + i) false (by omega) (by omega) (fun x _ => by rw [bt_tail s a _ ha]; congr 1; omega)]
theorem flr_any (R : ByteArray) :
    (ixa R < 0 → flr R = fm R 10 R.size 0 false) ∧ (¬ ixa R < 0 → ∃ q : Nat, ixa R = q ∧ q < R.size ∧ flr R = (fm (R.extract 0 q) 10 (R.extract 0 q).size 0 false && exq (R.extract (q + 1) R.size) 0)) := by
  unfold ixa flr
  by_cases h : ixe R 0 < R.size
  · rw [if_pos h, if_pos h]
    refine ⟨fun h' => by omega, fun _ => ⟨_, rfl, h, ?_⟩⟩
    rw [fm_ext R 10 0 (ixe R 0) (by omega) (by omega), exq_tail R (ixe R 0 + 1) 0 (by omega) (by omega), Nat.add_zero]
  · rw [if_neg h, if_neg h]
    exact ⟨fun _ => rfl, fun h' => by omega⟩
/-- What Cut at the point gives. -/
def CutAt (s h R : ByteArray) : Prop := ∀ W, Calls Tryd.prog 53 #[.string s, .string { data := #[46] }] W fun e w' => e = .returned (.tuple #[.string h, .string R, .bool true]) ∧ ∃ n, w' = W.drewN n
def DigAt (s : ByteArray) (v : Bool) : Prop := ∀ W, Calls Tryd.prog 78 #[.string s] W fun e w' => e = .returned (.bool v) ∧ Below W.heap.size W w'
def ExpAt (s : ByteArray) (v : Bool) : Prop := ∀ W, Calls Tryd.prog 80 #[.string s] W fun e w' => e = .returned (.bool v) ∧ Below W.heap.size W w'
def AnyAt (s : ByteArray) (x : Int) : Prop := ∀ W, Calls Tryd.prog 79 #[.string s, .string { data := #[101, 69] }] W fun e w' => e = .returned (.int .i64 x) ∧ Below W.heap.size W w'
theorem float_1 (s h R : ByteArray) (HC : Hid (CutAt s h R)) (H1 : Hid (DigAt h false)) (w : World) :
    Calls Tryd.prog 63 #[.string s] w fun e w' => e = .returned (.bool false) ∧ Below w.heap.size w w' := by
  go_enter Tryd.func63, Tryd.ntmps63
  go_wp2_with fail
  refine (HC.out _).mono ?_
  rintro e w' ⟨rfl, n, rfl⟩
  go_wp2_with fail
  refine (H1.out _).mono ?_
  rintro e w1 ⟨rfl, hb1⟩
  have HB1 := Lib.hid hb1
  clear hb1
  go_wp2_with fail
  go_ret
  exact ⟨rfl, (Below.ofDrewN w _).trans HB1.out⟩
theorem float_2 (s h R : ByteArray) (x : Int) (v : Bool) (HC : Hid (CutAt s h R)) (H1 : Hid (DigAt h true)) (HA : Hid (AnyAt R x)) (hlt : x < 0) (HD : Hid (DigAt R v)) (w : World) :
    Calls Tryd.prog 63 #[.string s] w fun e w' => e = .returned (.bool v) ∧ Below w.heap.size w w' := by
  go_enter Tryd.func63, Tryd.ntmps63
  go_wp2_with fail
  refine (HC.out _).mono ?_
  rintro e w' ⟨rfl, n, rfl⟩
  go_wp2_with fail
  refine (H1.out _).mono ?_
  rintro e w1 ⟨rfl, hb1⟩
  have HB1 : Hid (Below w.heap.size w w1) := (Below.ofDrewN w _).trans hb1
  clear hb1
  go_wp2_with fail
  refine (HA.out _).mono ?_
  rintro e w2 ⟨rfl, hb2⟩
  have HB2 : Hid (Below w.heap.size w w2) := HB1.out.trans (hb2.mono HB1.out.size)
  clear hb2
  go_wp2_with fail
  refine (HD.out _).mono ?_
  rintro e w3 ⟨rfl, hb3⟩
  have HB3 : Hid (Below w.heap.size w w3) := HB2.out.trans (hb3.mono HB2.out.size)
  clear hb3
  go_wp2_with fail
  go_ret
  exact ⟨rfl, HB3.out⟩
theorem float_3 (s h R : ByteArray) (q : Nat) (b c : Bool) (hq : q < R.size) (hs : R.size < 4294967281) (HC : Hid (CutAt s h R)) (H1 : Hid (DigAt h true)) (HA : Hid (AnyAt R q)) (H2 : Hid (DigAt (R.extract 0 q) b)) (H3 : Hid (ExpAt (R.extract (q + 1) R.size) c)) (w : World) :
    Calls Tryd.prog 63 #[.string s] w fun e w' => e = .returned (.bool (b && c)) ∧ Below w.heap.size w w' := by
  go_enter Tryd.func63, Tryd.ntmps63
  go_wp2_with fail
  refine (HC.out _).mono ?_
  rintro e w' ⟨rfl, n, rfl⟩
  go_wp2_with fail
  refine (H1.out _).mono ?_
  rintro e w1 ⟨rfl, hb1⟩
  have HB1 : Hid (Below w.heap.size w w1) := (Below.ofDrewN w _).trans hb1
  clear hb1
  go_wp2_with fail
  refine (HA.out _).mono ?_
  rintro e w2 ⟨rfl, hb2⟩
  have HB2 : Hid (Below w.heap.size w w2) := HB1.out.trans (hb2.mono HB1.out.size)
  clear hb2
  go_wp2_with fail
  refine (H2.out _).mono ?_
  rintro e w3 ⟨rfl, hb3⟩
  have HB3 : Hid (Below w.heap.size w w3) := HB2.out.trans (hb3.mono HB2.out.size)
  clear hb3
  cases b
  · go_wp2_with fail
    go_ret
    exact ⟨rfl, HB3.out⟩
  · go_wp2_with fail
    refine (H3.out _).mono ?_
    rintro e w4 ⟨rfl, hb4⟩
    have HB4 : Hid (Below w.heap.size w w4) := HB3.out.trans (hb4.mono HB3.out.size)
    clear hb4
    go_wp2_with fail
    go_ret
    exact ⟨rfl, HB4.out⟩
/-- FLOAT. -/
theorem float_any (s : ByteArray) (hs : s.size < 4294967281) (w : World) :
    Calls Tryd.prog 63 #[.string s] w fun e w' => e = .returned (.bool (flt s)) ∧ Below w.heap.size w w' := by
  have HC := Lib.hid (fun W => cut_46 s (by unfold maxLen; omega) W)
  by_cases h : ix s 46 0 < s.size
  · rw [if_pos h] at HC
    have e : flt s = (fm s 10 (ix s 46 0) 0 false && flr (s.extract (ix s 46 0 + 1) s.size)) := by unfold flt; rw [if_pos h]
    rw [e]
    clear e
    obtain ⟨p, hp⟩ : ∃ p, p = ix s 46 0 := ⟨_, rfl⟩
    rw [← hp] at h HC ⊢
    have hz : (s.extract (p + 1) s.size).size = s.size - (p + 1) := size_ext s (p + 1) s.size (Nat.le_refl _)
    have H1 : DigAt (s.extract 0 p) (fm s 10 p 0 false) := fun W => digits_any (s.extract 0 p) _ (by rw [fm_ext s 10 0 p (by omega) (by omega)]) W
    cases hb : fm s 10 p 0 false
    · rw [hb] at H1
      exact float_1 s _ _ HC H1 w
    · rw [hb] at H1
      rw [Bool.true_and]
      have HA : AnyAt (s.extract (p + 1) s.size) (ixa (s.extract (p + 1) s.size)) := fun W => any_any _ (by omega) W
      obtain ⟨f1, f2⟩ := flr_any (s.extract (p + 1) s.size)
      by_cases hlt : ixa (s.extract (p + 1) s.size) < 0
      · exact float_2 s _ _ _ _ HC H1 HA hlt (fun W => digits_any _ _ (f1 hlt) W) w
      · obtain ⟨q, hq0, hq, hfl⟩ := f2 hlt
        rw [hq0] at HA
        rw [hfl]
        exact float_3 s _ _ q _ _ hq (by omega) HC H1 HA (fun W => digits_any _ _ rfl W) (fun W => exponent_any _ _ rfl (by rw [size_ext _ _ _ (Nat.le_refl _)]; unfold maxLen; omega) W) w
  · rw [if_neg h] at HC
    have e : flt s = false := by unfold flt; rw [if_neg h]
    rw [e]
    clear e h
    go_enter Tryd.func63, Tryd.ntmps63
    go_wp2_with fail
    refine (HC.out _).mono ?_
    rintro e w' ⟨rfl, n, rfl⟩
    go_wp2_with fail
    go_ret
    exact ⟨rfl, Below.ofDrewN w _⟩
end Go.Proofs.YtajjhhodpohfpaaDoor
