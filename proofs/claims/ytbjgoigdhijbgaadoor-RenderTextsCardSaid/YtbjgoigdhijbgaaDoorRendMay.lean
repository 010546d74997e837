/-
  THE PROGRAM's layouts: may it be laid out at that width?
-/
import Derived.Test.YtbjgoigdhijbgaaDoorRendMath
set_option linter.all false
namespace Go.Proofs.YtbjgoigdhijbgaaDoor
open Go.RowKit Go.PlainAid

set_option maxRecDepth 100000 in
set_option maxHeartbeats 4000000 in
theorem rmay_any (d : Dc) (hd : dcnt d ≤ 90000) (c : List Value) (W : Int) (w : World) (h : DcAt w c d) :
    Calls Tryd.prog 23 #[.agg c.toArray, .int .i64 W] w fun e w' => e = .returned (.bool (decide (1 ≤ W) && decide (W ≤ 10000) && drt d)) ∧ Below w.heap.size w w' := by
  obtain ⟨k, n, t, lv, rfl⟩ : ∃ k n t lv, c = [.int .i64 k, .int .i64 n, .string t, lv] := by
    cases d with
    | mk k n t l => obtain ⟨lv, cs, rfl, -⟩ := h.inv; exact ⟨_, _, _, _, rfl⟩
  have HM := Lib.hid (fun V (hb : Below w.heap.size w V) => pdmay_any d (by omega) _ V (h.bel hb))
  obtain ⟨b0, hb0⟩ : ∃ b, b = drt d := ⟨_, rfl⟩
  rw [← hb0] at HM ⊢
  obtain ⟨V, hV⟩ : ∃ V, V = w.alloc (.cells #[.int .i64 k, .int .i64 n, .string t, lv] 24) := ⟨_, rfl⟩
  have hbV : Below w.heap.size w V := by rw [hV]; exact below1 _ _
  have HBV := Lib.hid hbV
  have d0 := (four_of0 (new_at9 (W := w) (ob := .cells #[.int .i64 k, .int .i64 n, .string t, lv] 24)))
  obtain ⟨d0, d1, d2, d3⟩ := d0
  clear h hd hb0
  by_cases h1 : 1 ≤ W
  · by_cases h2 : W ≤ 10000
    · go_enter Tryd.func23, Tryd.ntmps23
      go_wp2_with fail
      refine (HM.out _ (by first | exact below1 _ _ | (rw [← hV]; exact hbV))).mono ?_
      rintro e w1 ⟨rfl, hb1⟩
      go_wp2_with fail
      go_ret
      exact ⟨by simp [h1, h2], (below1 _ _).trans (hb1.mono (by simp))⟩
    · go_enter Tryd.func23, Tryd.ntmps23
      go_wp2_with fail
      go_ret
      exact ⟨by simp [h1, h2]; intros; omega, below1 _ _⟩
  · go_enter Tryd.func23, Tryd.ntmps23
    go_wp2_with fail
    go_ret
    exact ⟨by simp [h1]; intros; omega, below1 _ _⟩
end Go.Proofs.YtbjgoigdhijbgaaDoor
