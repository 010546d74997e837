/-
  What the statements of layer 3 ask of a few texts each time: it holds.
-/
import Derived.Test.YtjlimnmcaganfaaWordWalks
namespace Go.Proofs.Ytjlimnmcaganfaa
open Go.RowKit Go.PlainAid

theorem t3_plain (s : ByteArray) (v : Bool) (h : s.size ≤ 100) (hv : pl s = v) (w : World) : Calls Try.prog 10 #[.string s] w fun e w' => e = .returned (.bool v) ∧ ∃ n, w' = w.drewN n := by
  rw [← hv]; exact plain_any s w (by unfold maxLen; omega)
theorem t3_res (s : ByteArray) (v : Bool) (hv : rs s = v) (w : World) : Calls Try.prog 8 #[.string s] w fun e w' => e = .returned (.bool v) ∧ w = w' := by
  rw [← hv]; exact reserved_any s w
theorem told3_any (w : World) : Calls Try.prog 7 #[] w fun e w' => e = .returned (.bool true) ∧ ∃ n, w' = w.drewN n := by
  go_enter Try.func7, Try.ntmps7
  go_wp2_with fail
  refine (t3_plain ⟨#[102, 111, 111, 64, 98, 97, 114, 49]⟩ true (by decide) (by decide +kernel) _).mono ?_
  rintro e w' ⟨rfl, n1, rfl⟩
  go_wp2_with fail
  refine (t3_plain ⟨#[101, 110, 100]⟩ false (by decide) (by decide +kernel) _).mono ?_
  rintro e w' ⟨rfl, n2, rfl⟩
  go_wp2_with fail
  refine (t3_plain ⟨#[70, 111, 111]⟩ false (by decide) (by decide +kernel) _).mono ?_
  rintro e w' ⟨rfl, n3, rfl⟩
  go_wp2_with fail
  refine (t3_res ⟨#[120, 111, 114]⟩ true (by decide +kernel) _).mono ?_
  rintro e w' ⟨rfl, rfl⟩
  go_wp2_with fail
  refine (t3_res ⟨#[120, 111]⟩ false (by decide +kernel) _).mono ?_
  rintro e w' ⟨rfl, rfl⟩
  go_wp2_with fail
  refine (begins_any 95 _).mono ?_
  rintro e w' ⟨rfl, rfl⟩
  have e1 : beg 95 = 2 := rfl
  rw [e1]
  go_wp2_with fail
  refine (inner_any 64 _).mono ?_
  rintro e w' ⟨rfl, rfl⟩
  have e2 : inn 64 = true := rfl
  rw [e2]
  go_wp2
  go_ret
  exact ⟨rfl, _, rfl⟩
end Go.Proofs.Ytjlimnmcaganfaa
