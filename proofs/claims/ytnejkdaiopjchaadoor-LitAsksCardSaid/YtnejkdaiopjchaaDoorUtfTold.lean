/-
  What the statements of layer 1 ask of a few texts each time: it holds.
-/
import Derived.Test.YtnejkdaiopjchaaDoorUtfPut
namespace Go.Proofs.YtnejkdaiopjchaaDoor
open Go.RowKit Go.PlainAid

theorem Tabs.below {w w' : World} (h : Tabs w) (hb : Below w.heap.size w w') : Tabs w' := by
  have key : ∀ {a : Addr} {v : Value}, w.cell? a = some v → w'.cell? a = some v := fun hc => (hb.cell (World.block_lt_of_cell? _ _ hc)).trans hc
  exact ⟨fun k hk => key (h.1 k hk), fun k hk => key (h.2.1 k hk), fun k hk => key (h.2.2 k hk)⟩
theorem Below.ofDrewN (w : World) (n : Nat) : Below w.heap.size w (w.drewN n) := ⟨rfl, rfl, rfl, Nat.le_refl _, fun _ _ => rfl⟩

theorem t_next (w : World) (ht : Tabs w) : Calls Tryd.prog 28 #[.string { data := #[195, 169] }, .int .i64 0] w fun e w' => e = .returned (.tuple #[.int .i64 233, .int .i64 2]) ∧ ∃ n, w' = w.drewN n := by
  have h := next_in ⟨#[195, 169]⟩ 0 w ht (by decide) (by unfold maxLen; decide)
  have e1 : nc ⟨#[195, 169]⟩ 0 = 233 := by decide +kernel
  have e2 : nl ⟨#[195, 169]⟩ 0 = 2 := by decide +kernel
  rw [e1, e2] at h
  exact h
theorem t_valid (w : World) (ht : Tabs w) : Calls Tryd.prog 34 #[.string { data := #[237, 160, 128] }] w fun e w' => e = .returned (.bool false) ∧ ∃ n, w' = w.drewN n := by
  have h := valid_any ⟨#[237, 160, 128]⟩ w ht (by unfold maxLen; decide)
  rw [vd_bad (by decide) (by decide +kernel)] at h
  exact h
theorem t_put (w : World) (ht : Tabs w) : Calls Tryd.prog 31 #[.int .i64 8364] w fun e w' => e = .returned (.string { data := #[226, 130, 172] }) ∧ Below w.heap.size w w' := by
  have h := put_any 8364 w ht
  have e1 : pu 8364 = ⟨#[226, 130, 172]⟩ := by decide +kernel
  rw [e1] at h
  exact h
theorem t_put_none (w : World) (ht : Tabs w) : Calls Tryd.prog 31 #[.int .i64 (-1)] w fun e w' => e = .returned (.string { data := #[] }) ∧ Below w.heap.size w w' := by
  have h := put_any (-1) w ht
  have e1 : pu (-1) = ⟨#[]⟩ := by decide +kernel
  rw [e1] at h
  exact h
end Go.Proofs.YtnejkdaiopjchaaDoor
