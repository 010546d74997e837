/-
  What the statements of layer 2 ask of a few texts each time: it holds.
-/
import Derived.Test.YtngpiejigefhoaaDoorPlaceWalks
namespace Go.Proofs.YtngpiejigefhoaaDoor
open Go.RowKit Go.PlainAid

/-- Three lines: where the last two begin. -/
def Lines24 (w : World) (e : Ending) (w' : World) : Prop :=
  ∃ g cap, e = .returned (.slice (some ⟨g, 0, none⟩) 3 cap) ∧ g < w'.heap.size ∧ w'.cell? ⟨g, 1, none⟩ = some (.int .i64 2) ∧ w'.cell? ⟨g, 2, none⟩ = some (.int .i64 4) ∧ Below w.heap.size w w'
theorem t2_lines (w : World) : Calls Tryd.prog 11 #[.string { data := #[97, 10, 98, 10] }] w fun e w' => Lines24 w e w' := by
  refine (lines_any ⟨#[97, 10, 98, 10]⟩ w (by decide)).mono ?_
  rintro e w' ⟨g, cap, rfl, -, h2, h3, h4⟩
  have e0 : nlc ⟨#[97, 10, 98, 10]⟩ (ByteArray.mk #[97, 10, 98, 10]).size = 2 := by decide +kernel
  have e1 : lb ⟨#[97, 10, 98, 10]⟩ (ByteArray.mk #[97, 10, 98, 10]).size 1 = 2 := by decide +kernel
  have e2 : lb ⟨#[97, 10, 98, 10]⟩ (ByteArray.mk #[97, 10, 98, 10]).size 2 = 4 := by decide +kernel
  rw [e0] at h3 ⊢
  have c1 := h3 1 (by decide)
  have c2 := h3 2 (by decide)
  rw [e1] at c1
  rw [e2] at c2
  exact ⟨g, cap, rfl, h2, c1, c2, h4⟩
theorem t2_start1 (w : World) : Calls Tryd.prog 9 #[.string { data := #[97, 10, 98] }, .int .i64 2] w fun e w' => e = .returned (.tuple #[.int .i64 2, .int .i64 0]) ∧ Below w.heap.size w w' := by
  have h := start_in ⟨#[97, 10, 98]⟩ 1 w (by decide) (by decide +kernel)
  have e1 : lb ⟨#[97, 10, 98]⟩ (ByteArray.mk #[97, 10, 98]).size 1 = 2 := by decide +kernel
  rw [e1] at h
  exact h
theorem t2_start2 (w : World) : Calls Tryd.prog 9 #[.string { data := #[97] }, .int .i64 2] w fun e w' => e = .returned (.tuple #[.int .i64 0, .int .i64 6]) ∧ Below w.heap.size w w' :=
  start_out ⟨#[97]⟩ 2 w (by decide) (.inr (by decide +kernel))
theorem t2_line (w : World) : Calls Tryd.prog 10 #[.string { data := #[97, 10, 98] }, .int .i64 2] w fun e w' => e = .returned (.int .i64 2) ∧ Below w.heap.size w w' := by
  have h := line_any ⟨#[97, 10, 98]⟩ 2 w (by decide)
  have e1 : ((nlc ⟨#[97, 10, 98]⟩ (cl ⟨#[97, 10, 98]⟩ 2) : Int) + 1) = 2 := by decide +kernel
  rw [e1] at h
  exact h
theorem t2_column (w : World) (ht : Tabs w) : Calls Tryd.prog 14 #[.string { data := #[97, 10, 195, 169, 98] }, .int .i64 4] w fun e w' => e = .returned (.int .i64 1) ∧ Below w.heap.size w w' := by
  have h := column_any ⟨#[97, 10, 195, 169, 98]⟩ 4 w ht (by decide)
  have e1 : ahead ⟨#[97, 10, 195, 169, 98]⟩ 4 = ⟨#[195, 169]⟩ := by decide +kernel
  have e2 : nl ⟨#[195, 169]⟩ 0 = 2 := by decide +kernel
  rw [e1, ct_go (by decide), e2, ct_end (by decide)] at h
  exact h
theorem t2_ends (w : World) : Calls Tryd.prog 8 #[.string { data := #[97, 10, 10] }] w fun e w' => e = .returned (.int .i64 2) ∧ w = w' := by
  have h := ends_any ⟨#[97, 10, 10]⟩ w
  have e1 : nlc ⟨#[97, 10, 10]⟩ (ByteArray.mk #[97, 10, 10]).size = 2 := by decide +kernel
  rw [e1] at h
  exact h
set_option maxRecDepth 100000 in
theorem told2_any (w : World) (ht : Tabs w) : Calls Tryd.prog 7 #[] w fun e w' => e = .returned (.bool true) ∧ Below w.heap.size w w' := by
  have HT := Lib.hid ht
  clear ht
  go_enter Tryd.func7, Tryd.ntmps7
  go_wp2_with fail
  refine (t2_lines _).mono ?_
  rintro e w1 ⟨g, cap, rfl, hg, c1, c2, hb1⟩
  have C1 := Lib.hid c1
  have C2 := Lib.hid c2
  have B1 := Lib.hid hb1
  clear c1 c2 hb1
  go_wp2_with fail
  refine (t2_start1 _).mono ?_
  rintro e w2 ⟨rfl, hb2⟩
  have B2 := Lib.hid hb2
  clear hb2
  go_wp2_with fail
  refine (t2_start2 _).mono ?_
  rintro e w3 ⟨rfl, hb3⟩
  have B3 := Lib.hid hb3
  have B13 := Lib.hid (B2.out.trans (hb3.mono B2.out.size))
  clear hb3
  have d1 := (B13.out.cell (p := ⟨g, 1, none⟩) hg).trans C1.out
  have d2 := (B13.out.cell (p := ⟨g, 2, none⟩) hg).trans C2.out
  go_wp2_with fail
  refine (t2_line _).mono ?_
  rintro e w4 ⟨rfl, hb4⟩
  clear d1 d2
  have B4 := Lib.hid (B1.out.trans ((B13.out.trans (hb4.mono B13.out.size)).mono B1.out.size))
  clear hb4
  go_wp2_with fail
  refine (t2_column _ (HT.out.below B4.out)).mono ?_
  rintro e w5 ⟨rfl, hb5⟩
  have B5 := Lib.hid (B4.out.trans (hb5.mono B4.out.size))
  clear hb5
  go_wp2_with fail
  refine (t2_ends _).mono ?_
  rintro e w6 ⟨rfl, rfl⟩
  go_wp2
  go_ret
  exact ⟨rfl, B5.out⟩
end Go.Proofs.YtngpiejigefhoaaDoor
