/-
  What the statements of layer 9 ask of a few texts each time: it holds.
-/
import Derived.Test.YtbinennnddfplaaPreOps
namespace Go.Proofs.Ytbinennnddfplaa
open Go.RowKit Go.PlainAid

theorem pbin_is (s : ByteArray) (n : Nat) (h : bn s.toList = n) (w : World) : Calls Try.prog 7 #[.string s] w fun e w' => e = .returned (.int .i64 (n : Int)) ∧ Below w.heap.size w w' := by
  rw [← h]; exact pbin_any s w
theorem pside_is (s : ByteArray) (n : Nat) (h : sd s.toList = n) (w : World) : Calls Try.prog 9 #[.string s] w fun e w' => e = .returned (.int .i64 (n : Int)) ∧ Below w.heap.size w w' := by
  rw [← h]; exact pside_any s w
theorem pprefix_is (s : ByteArray) (n : Nat) (h : pf s.toList = n) (w : World) : Calls Try.prog 11 #[.string s] w fun e w' => e = .returned (.int .i64 (n : Int)) ∧ Below w.heap.size w w' := by
  rw [← h]; exact pprefix_any s w
theorem pleft_is (s : ByteArray) (n : Nat) (h : lf s.toList = n) (w : World) : Calls Try.prog 13 #[.string s] w fun e w' => e = .returned (.int .i64 (n : Int)) ∧ Below w.heap.size w w' := by
  rw [← h]; exact pleft_any s w
theorem pright_is (s : ByteArray) (n : Nat) (h : rt s.toList = n) (w : World) : Calls Try.prog 15 #[.string s] w fun e w' => e = .returned (.int .i64 (n : Int)) ∧ Below w.heap.size w w' := by
  rw [← h]; exact pright_any s w
set_option maxRecDepth 100000 in
theorem told9_any (w : World) : Calls Try.prog 6 #[] w fun e w' => e = .returned (.bool true) ∧ Below w.heap.size w w' := by
  go_enter Try.func6, Try.ntmps6
  go_wp2_with fail
  refine (pbin_is ⟨#[43]⟩ 8 (by decide +kernel) _).mono ?_
  rintro e w1 ⟨rfl, hb1⟩
  have B1 := Lib.hid hb1
  clear hb1
  go_wp2_with fail
  refine (pside_is ⟨#[43]⟩ 1 (by decide +kernel) _).mono ?_
  rintro e w2 ⟨rfl, hb2⟩
  have B2 : Hid (Below w.heap.size w w2) := Lib.hid (B1.out.trans (hb2.mono B1.out.size))
  clear hb2 B1
  go_wp2_with fail
  refine (pprefix_is ⟨#[110, 111, 116]⟩ 10 (by decide +kernel) _).mono ?_
  rintro e w3 ⟨rfl, hb3⟩
  have B3 : Hid (Below w.heap.size w w3) := Lib.hid (B2.out.trans (hb3.mono B2.out.size))
  clear hb3 B2
  go_wp2_with fail
  refine (pleft_is ⟨#[61]⟩ 4 (by decide +kernel) _).mono ?_
  rintro e w4 ⟨rfl, hb4⟩
  have B4 : Hid (Below w.heap.size w w4) := Lib.hid (B3.out.trans (hb4.mono B3.out.size))
  clear hb4 B3
  go_wp2_with fail
  refine (pright_is ⟨#[61]⟩ 3 (by decide +kernel) _).mono ?_
  rintro e w5 ⟨rfl, hb5⟩
  have B5 : Hid (Below w.heap.size w w5) := Lib.hid (B4.out.trans (hb5.mono B4.out.size))
  clear hb5 B4
  go_wp2_with fail
  refine (pright_is ⟨#[61, 61]⟩ 7 (by decide +kernel) _).mono ?_
  rintro e w6 ⟨rfl, hb6⟩
  have B6 : Hid (Below w.heap.size w w6) := Lib.hid (B5.out.trans (hb6.mono B5.out.size))
  clear hb6 B5
  go_wp2_with fail
  refine (pbin_is ⟨#[61, 62]⟩ 0 (by decide +kernel) _).mono ?_
  rintro e w7 ⟨rfl, hb7⟩
  have B7 : Hid (Below w.heap.size w w7) := Lib.hid (B6.out.trans (hb7.mono B6.out.size))
  clear hb7 B6
  go_wp2_with fail
  refine (pleft_is ⟨#[120]⟩ 0 (by decide +kernel) _).mono ?_
  rintro e w8 ⟨rfl, hb8⟩
  have B8 : Hid (Below w.heap.size w w8) := Lib.hid (B7.out.trans (hb8.mono B7.out.size))
  clear hb8 B7
  go_wp2_with fail
  go_ret
  exact ⟨rfl, B8.out⟩
end Go.Proofs.Ytbinennnddfplaa
