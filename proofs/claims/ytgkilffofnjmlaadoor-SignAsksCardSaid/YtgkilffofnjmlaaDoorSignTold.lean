/-
  What the statements of layer 5 ask of a few texts each time: it holds.
-/
import Derived.Test.YtgkilffofnjmlaaDoorSignLongest
namespace Go.Proofs.YtgkilffofnjmlaaDoor
open Go.RowKit Go.PlainAid

theorem longest_is (s : ByteArray) (a : Int) (n : Nat) (h : lg s a = n) (w : World) (ht : TabM w) : Calls Tryd.prog 7 #[.string s, .int .i64 a] w fun e w' => e = .returned (.int .i64 n) ∧ Below w.heap.size w w' := by
  rw [← h]; exact longest_any s a w ht
theorem pair_is (s t : ByteArray) (h : pr s = t) (w : World) : Calls Tryd.prog 13 #[.string s] w fun e w' => e = .returned (.string t) ∧ w = w' := by
  rw [← h]; exact pair_any s w
theorem opens_is (k a : Int) (s : ByteArray) (b : Bool) (h : ops k s = b) (w : World) : Calls Tryd.prog 9 #[.agg #[.int .i64 k, .string s, .int .i64 a]] w fun e w' => e = .returned (.bool b) ∧ Below w.heap.size w w' := by
  rw [← h]; exact opens_any k a s w
theorem closes_is (k a : Int) (s : ByteArray) (b : Bool) (h : cls k s = b) (w : World) : Calls Tryd.prog 11 #[.agg #[.int .i64 k, .string s, .int .i64 a]] w fun e w' => e = .returned (.bool b) ∧ Below w.heap.size w w' := by
  rw [← h]; exact closes_any k a s w
theorem TabM.pos {w : World} (h : TabM w) : 0 < w.heap.size := by
  obtain ⟨cs, t, fr, h1, _⟩ := h
  exact (Array.getElem?_eq_some_iff.1 h1).1
set_option maxRecDepth 100000 in
theorem told5_any (w : World) (ht : TabM w) : Calls Tryd.prog 6 #[] w fun e w' => e = .returned (.bool true) ∧ Below w.heap.size w w' := by
  have hpos := Lib.hid ht.pos
  have HT := Lib.hid ht
  clear ht
  go_enter Tryd.func6, Tryd.ntmps6
  go_wp2_with fail
  refine (longest_is ⟨#[61, 58, 61]⟩ 0 3 (by decide +kernel) _ HT.out).mono ?_
  rintro e w1 ⟨rfl, hb1⟩
  have B1 := Lib.hid hb1
  clear hb1
  go_wp2_with fail
  refine (longest_is ⟨#[97]⟩ 0 0 (by decide +kernel) _ (HT.out.below B1.out hpos.out)).mono ?_
  rintro e w2 ⟨rfl, hb2⟩
  have B2 : Hid (Below w.heap.size w w2) := Lib.hid (B1.out.trans (hb2.mono B1.out.size))
  clear hb2 B1
  go_wp2_with fail
  refine (longest_is ⟨#[61, 60]⟩ 0 2 (by decide +kernel) _ (HT.out.below B2.out hpos.out)).mono ?_
  rintro e w3 ⟨rfl, hb3⟩
  have B3 : Hid (Below w.heap.size w w3) := Lib.hid (B2.out.trans (hb3.mono B2.out.size))
  clear hb3 B2
  go_wp2_with fail
  refine (opens_is 8 0 ⟨#[99, 97, 115, 101]⟩ true (by decide +kernel) _).mono ?_
  rintro e w4 ⟨rfl, hb4⟩
  have B4 : Hid (Below w.heap.size w w4) := Lib.hid (B3.out.trans (hb4.mono B3.out.size))
  clear hb4 B3
  go_wp2_with fail
  refine (closes_is 9 0 ⟨#[62, 62]⟩ true (by decide +kernel) _).mono ?_
  rintro e w5 ⟨rfl, hb5⟩
  have B5 : Hid (Below w.heap.size w w5) := Lib.hid (B4.out.trans (hb5.mono B4.out.size))
  clear hb5 B4
  go_wp2_with fail
  refine (pair_is ⟨#[60, 60]⟩ ⟨#[62, 62]⟩ (by decide +kernel) _).mono ?_
  rintro e w6 ⟨rfl, rfl⟩
  go_wp2_with fail
  refine (pair_is ⟨#[99, 97, 115, 101]⟩ ⟨#[]⟩ (by decide +kernel) _).mono ?_
  rintro e w6 ⟨rfl, rfl⟩
  go_wp2_with fail
  go_ret
  exact ⟨rfl, B5.out⟩
end Go.Proofs.YtgkilffofnjmlaaDoor
