/-
  What the statements of layer 12 ask of the program's cell: its five calls, whatever they are made of (TT: what their tables are).
-/
import Derived.Test.YtjenofochgcjmaaDoorCellMath
namespace Go.Proofs.YtjenofochgcjmaaDoor
open Go.RowKit Go.PlainAid

structure CellI (TT : World → Prop) : Prop where
  keep : ∀ {w w' : World}, TT w → Below w.heap.size w w' → TT w'
  width : ∀ (s : ByteArray) (w : World), s.size ≤ 1048576 → TT w → Calls Tryd.prog 8 #[.string s] w fun e w' => e = .returned (.int .i64 (ct s 0 : Int)) ∧ Below w.heap.size w w'
  last : ∀ (s : ByteArray) (c : Nat) (w : World), s.size ≤ 1048576 → c ≤ 10000000 → TT w → Calls Tryd.prog 10 #[.string s, .int .i64 (c : Int)] w fun e w' => e = .returned (.int .i64 (lcol s c : Int)) ∧ Below w.heap.size w w'
  indent : ∀ (n : Int) (w : World), TT w → Calls Tryd.prog 12 #[.int .i64 n] w fun e w' => e = .returned (.string (indt n)) ∧ Below w.heap.size w w'
  trim : ∀ (s : ByteArray) (w : World), s.size ≤ 1048576 → TT w → Calls Tryd.prog 14 #[.string s] w fun e w' => e = .returned (.string (s.extract 0 (tr s 0 s.size))) ∧ Below w.heap.size w w'
  note : ∀ (s : ByteArray) (w : World), s.size ≤ 1048576 → TT w → Calls Tryd.prog 16 #[.string s] w fun e w' => e = .returned (.bool (ntb s)) ∧ Below w.heap.size w w'
/-- Where a walk has come to. -/
def Cq (TT : World → Prop) (w W : World) : Prop := TT W ∧ Below w.heap.size w W
section
variable {TT : World → Prop}
theorem Cq.go (C : CellI TT) {w W W' : World} (h : Cq TT w W) (hb : Below W.heap.size W W') : Cq TT w W' := ⟨C.keep h.1 hb, h.2.trans (hb.mono h.2.size)⟩
theorem CellI.w (C : CellI TT) {w W : World} (h : Cq TT w W) (s : ByteArray) (hs : s.size ≤ 1048576) : Calls Tryd.prog 8 #[.string s] W fun e w' => e = .returned (.int .i64 (ct s 0 : Int)) ∧ Hid (Cq TT w w') :=
  (C.width s W hs h.1).mono fun _ _ ⟨h1, h2⟩ => ⟨h1, Lib.hid (h.go C h2)⟩
theorem CellI.l (C : CellI TT) {w W : World} (h : Cq TT w W) (s : ByteArray) (c : Nat) (hs : s.size ≤ 1048576) (hc : c ≤ 10000000) : Calls Tryd.prog 10 #[.string s, .int .i64 (c : Int)] W fun e w' => e = .returned (.int .i64 (lcol s c : Int)) ∧ Hid (Cq TT w w') :=
  (C.last s c W hs hc h.1).mono fun _ _ ⟨h1, h2⟩ => ⟨h1, Lib.hid (h.go C h2)⟩
theorem CellI.i (C : CellI TT) {w W : World} (h : Cq TT w W) (n : Int) : Calls Tryd.prog 12 #[.int .i64 n] W fun e w' => e = .returned (.string (indt n)) ∧ Hid (Cq TT w w') :=
  (C.indent n W h.1).mono fun _ _ ⟨h3, h4⟩ => ⟨h3, Lib.hid (h.go C h4)⟩
theorem CellI.t (C : CellI TT) {w W : World} (h : Cq TT w W) (s : ByteArray) (hs : s.size ≤ 1048576) : Calls Tryd.prog 14 #[.string s] W fun e w' => e = .returned (.string (s.extract 0 (tr s 0 s.size))) ∧ Hid (Cq TT w w') :=
  (C.trim s W hs h.1).mono fun _ _ ⟨h1, h2⟩ => ⟨h1, Lib.hid (h.go C h2)⟩
theorem CellI.n (C : CellI TT) {w W : World} (h : Cq TT w W) (s : ByteArray) (hs : s.size ≤ 1048576) : Calls Tryd.prog 16 #[.string s] W fun e w' => e = .returned (.bool (ntb s)) ∧ Hid (Cq TT w w') :=
  (C.note s W hs h.1).mono fun _ _ ⟨h1, h2⟩ => ⟨h1, Lib.hid (h.go C h2)⟩
end
theorem told12_1 : ct ⟨#[97, 195, 169]⟩ 0 = 2 := by
  have e1 : nl ⟨#[97, 195, 169]⟩ 0 = 1 := by decide +kernel
  have e2 : nl ⟨#[97, 195, 169]⟩ (0 + 1) = 2 := by decide +kernel
  rw [ct_go (by decide), e1, ct_go (by decide), e2, ct_end (by decide)]
theorem told12_2 : lcol ⟨#[97, 98, 10, 99, 100]⟩ 7 = 2 := by
  have e0 : lnf ⟨#[97, 98, 10, 99, 100]⟩ (⟨#[97, 98, 10, 99, 100]⟩ : ByteArray).size = 3 := by decide +kernel
  have e1 : nl ⟨#[97, 98, 10, 99, 100]⟩ 3 = 1 := by decide +kernel
  have e2 : nl ⟨#[97, 98, 10, 99, 100]⟩ (3 + 1) = 1 := by decide +kernel
  unfold lcol
  rw [e0, if_neg (by decide), ct_go (by decide), e1, ct_go (by decide), e2, ct_end (by decide)]
theorem told12_3 : lcol ⟨#[97, 98]⟩ 7 = 9 := by
  have e0 : lnf ⟨#[97, 98]⟩ (⟨#[97, 98]⟩ : ByteArray).size = 0 := by decide +kernel
  have e1 : nl ⟨#[97, 98]⟩ 0 = 1 := by decide +kernel
  have e2 : nl ⟨#[97, 98]⟩ (0 + 1) = 1 := by decide +kernel
  unfold lcol
  rw [if_pos e0, ct_go (by decide), e1, ct_go (by decide), e2, ct_end (by decide)]
set_option maxRecDepth 100000 in
theorem told12_any {TT : World → Prop} (C : CellI TT) (w : World) (ht : TT w) : Calls Tryd.prog 7 #[] w fun e w' => e = .returned (.bool true) ∧ Hid (Cq TT w w') := by
  have H0 : Hid (Cq TT w w) := Lib.hid ⟨ht, Below.refl _ _⟩
  have H1 := Lib.hid (fun W (h : Cq TT w W) => C.w h ⟨#[97, 195, 169]⟩ (by decide))
  rw [told12_1] at H1
  have H2 := Lib.hid (fun W (h : Cq TT w W) => C.l h ⟨#[97, 98, 10, 99, 100]⟩ 7 (by decide) (by decide))
  rw [told12_2] at H2
  have H3 := Lib.hid (fun W (h : Cq TT w W) => C.l h ⟨#[97, 98]⟩ 7 (by decide) (by decide))
  rw [told12_3] at H3
  have H4 := Lib.hid (fun W (h : Cq TT w W) => C.i h 3)
  rw [show indt 3 = ⟨#[32, 32, 32]⟩ by decide +kernel] at H4
  have H5 := Lib.hid (fun W (h : Cq TT w W) => C.t h ⟨#[97, 32, 13]⟩ (by decide))
  rw [show (⟨#[97, 32, 13]⟩ : ByteArray).extract 0 (tr ⟨#[97, 32, 13]⟩ 0 (⟨#[97, 32, 13]⟩ : ByteArray).size) = ⟨#[97]⟩ by decide +kernel] at H5
  have H6 := Lib.hid (fun W (h : Cq TT w W) => C.n h ⟨#[37, 97]⟩ (by decide))
  rw [show ntb ⟨#[37, 97]⟩ = true by decide +kernel] at H6
  have H7 := Lib.hid (fun W (h : Cq TT w W) => C.n h ⟨#[37, 32]⟩ (by decide))
  rw [show ntb ⟨#[37, 32]⟩ = false by decide +kernel] at H7
  have H8 := Lib.hid (fun W (h : Cq TT w W) => C.i h 99999)
  have hz : (indt 99999).size = 20000 := by unfold indt; rw [blks_size]; decide
  obtain ⟨T, hT⟩ : ∃ T, T = indt 99999 := ⟨_, rfl⟩
  rw [← hT] at H8 hz
  clear hT ht
  go_enter Tryd.func7, Tryd.ntmps7
  go_wp2_with fail
  refine (H1.out _ H0.out).mono ?_
  rintro e w1 ⟨rfl, K1⟩
  go_wp2_with fail
  refine (H2.out _ K1.out).mono ?_
  rintro e w2 ⟨rfl, K2⟩
  go_wp2_with fail
  refine (H3.out _ K2.out).mono ?_
  rintro e w3 ⟨rfl, K3⟩
  go_wp2_with fail
  refine (H4.out _ K3.out).mono ?_
  rintro e w4 ⟨rfl, K4⟩
  go_wp2_with fail
  refine (H5.out _ K4.out).mono ?_
  rintro e w5 ⟨rfl, K5⟩
  go_wp2_with fail
  refine (H6.out _ K5.out).mono ?_
  rintro e w6 ⟨rfl, K6⟩
  go_wp2_with fail
  refine (H7.out _ K6.out).mono ?_
  rintro e w7 ⟨rfl, K7⟩
  go_wp2_with fail
  refine (H8.out _ K7.out).mono ?_
  rintro e w8 ⟨rfl, K8⟩
  go_wp2_with fail
  go_ret
  exact ⟨rfl, K8⟩
end Go.Proofs.YtjenofochgcjmaaDoor
