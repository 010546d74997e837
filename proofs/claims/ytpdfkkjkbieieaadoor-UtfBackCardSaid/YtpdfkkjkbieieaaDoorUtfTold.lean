/-
  What the statements of layer 1 ask of a few texts each time: it holds.
-/
import Derived.Test.YtpdfkkjkbieieaaDoorUtfPut
namespace Go.Proofs.YtpdfkkjkbieieaaDoor
open Go.RowKit Go.PlainAid

theorem Tabs.below {w w' : World} (h : Tabs w) (hb : Below w.heap.size w w') : Tabs w' := by
  have key : ∀ {a : Addr} {v : Value}, w.cell? a = some v → w'.cell? a = some v := fun hc => (hb.cell (World.block_lt_of_cell? _ _ hc)).trans hc
  exact ⟨fun k hk => key (h.1 k hk), fun k hk => key (h.2.1 k hk), fun k hk => key (h.2.2 k hk)⟩
theorem Below.ofDrewN (w : World) (n : Nat) : Below w.heap.size w (w.drewN n) := ⟨rfl, rfl, rfl, Nat.le_refl _, fun _ _ => rfl⟩

theorem t_next (w : World) (ht : Tabs w) : Calls Tryd.prog 9 #[.string { data := #[195, 169] }, .int .i64 0] w fun e w' => e = .returned (.tuple #[.int .i64 233, .int .i64 2]) ∧ ∃ n, w' = w.drewN n := by
  have h := next_in ⟨#[195, 169]⟩ 0 w ht (by decide) (by unfold maxLen; decide)
  have e1 : nc ⟨#[195, 169]⟩ 0 = 233 := by decide +kernel
  have e2 : nl ⟨#[195, 169]⟩ 0 = 2 := by decide +kernel
  rw [e1, e2] at h
  exact h
theorem t_valid (w : World) (ht : Tabs w) : Calls Tryd.prog 11 #[.string { data := #[237, 160, 128] }] w fun e w' => e = .returned (.bool false) ∧ ∃ n, w' = w.drewN n := by
  have h := valid_any ⟨#[237, 160, 128]⟩ w ht (by unfold maxLen; decide)
  rw [vd_bad (by decide) (by decide +kernel)] at h
  exact h
theorem t_count (w : World) (ht : Tabs w) : Calls Tryd.prog 13 #[.string { data := #[97, 195, 169] }] w fun e w' => e = .returned (.int .i64 2) ∧ ∃ n, w' = w.drewN n := by
  have h := count_any ⟨#[97, 195, 169]⟩ w ht (by unfold maxLen; decide)
  have e1 : nl ⟨#[97, 195, 169]⟩ 0 = 1 := by decide +kernel
  have e2 : nl ⟨#[97, 195, 169]⟩ (0 + 1) = 2 := by decide +kernel
  rw [ct_go (by decide), e1, ct_go (by decide), e2, ct_end (by decide)] at h
  exact h
theorem t_put (w : World) (ht : Tabs w) : Calls Tryd.prog 15 #[.int .i64 8364] w fun e w' => e = .returned (.string { data := #[226, 130, 172] }) ∧ Below w.heap.size w w' := by
  have h := put_any 8364 w ht
  have e1 : pu 8364 = ⟨#[226, 130, 172]⟩ := by decide +kernel
  rw [e1] at h
  exact h
theorem t_put_none (w : World) (ht : Tabs w) : Calls Tryd.prog 15 #[.int .i64 (-1)] w fun e w' => e = .returned (.string { data := #[] }) ∧ Below w.heap.size w w' := by
  have h := put_any (-1) w ht
  have e1 : pu (-1) = ⟨#[]⟩ := by decide +kernel
  rw [e1] at h
  exact h
theorem told_any (w : World) (ht : Tabs w) : Calls Tryd.prog 8 #[] w fun e w' => e = .returned (.bool true) ∧ Below w.heap.size w w' := by
  have HT := Lib.hid ht
  clear ht
  go_enter Tryd.func8, Tryd.ntmps8
  go_wp2_with (go_at_call 9; refine (t_next _ HT.out).mono ?_; rintro e w' ⟨rfl, n1, rfl⟩)
  refine (t_valid _ (HT.out.drewN _)).mono ?_
  rintro e w' ⟨rfl, n2, rfl⟩
  go_wp2_with fail
  refine (t_count _ (HT.out.drewN _)).mono ?_
  rintro e w' ⟨rfl, n3, rfl⟩
  go_wp2_with fail
  refine (t_put _ (HT.out.drewN _)).mono ?_
  rintro e w1 ⟨rfl, hb1⟩
  have HB1 := Lib.hid hb1
  clear hb1
  go_wp2_with fail
  refine (t_put_none _ ((HT.out.drewN _).below HB1.out)).mono ?_
  rintro e w2 ⟨rfl, hb2⟩
  have HB2 := Lib.hid hb2
  clear hb2
  go_wp2
  go_ret
  exact ⟨rfl, ((Below.ofDrewN w _).trans HB1.out).trans (HB2.out.mono HB1.out.size)⟩
end Go.Proofs.YtpdfkkjkbieieaaDoor
