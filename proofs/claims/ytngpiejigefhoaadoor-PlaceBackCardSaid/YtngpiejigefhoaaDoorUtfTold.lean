/-
  What the statements of layer 1 ask of a few texts each time: it holds.
-/
import Derived.Test.YtngpiejigefhoaaDoorUtfPut
namespace Go.Proofs.YtngpiejigefhoaaDoor
open Go.RowKit Go.PlainAid

theorem Tabs.below {w w' : World} (h : Tabs w) (hb : Below w.heap.size w w') : Tabs w' := by
  have key : ∀ {a : Addr} {v : Value}, w.cell? a = some v → w'.cell? a = some v := fun hc => (hb.cell (World.block_lt_of_cell? _ _ hc)).trans hc
  exact ⟨fun k hk => key (h.1 k hk), fun k hk => key (h.2.1 k hk), fun k hk => key (h.2.2 k hk)⟩
theorem Below.ofDrewN (w : World) (n : Nat) : Below w.heap.size w (w.drewN n) := ⟨rfl, rfl, rfl, Nat.le_refl _, fun _ _ => rfl⟩

theorem t_next (w : World) (ht : Tabs w) : Calls Tryd.prog 26 #[.string { data := #[195, 169] }, .int .i64 0] w fun e w' => e = .returned (.tuple #[.int .i64 233, .int .i64 2]) ∧ ∃ n, w' = w.drewN n := by
  have h := next_in ⟨#[195, 169]⟩ 0 w ht (by decide) (by unfold maxLen; decide)
  have e1 : nc ⟨#[195, 169]⟩ 0 = 233 := by decide +kernel
  have e2 : nl ⟨#[195, 169]⟩ 0 = 2 := by decide +kernel
  rw [e1, e2] at h
  exact h
theorem t_count (w : World) (ht : Tabs w) : Calls Tryd.prog 20 #[.string { data := #[97, 195, 169] }] w fun e w' => e = .returned (.int .i64 2) ∧ ∃ n, w' = w.drewN n := by
  have h := count_any ⟨#[97, 195, 169]⟩ w ht (by unfold maxLen; decide)
  have e1 : nl ⟨#[97, 195, 169]⟩ 0 = 1 := by decide +kernel
  have e2 : nl ⟨#[97, 195, 169]⟩ (0 + 1) = 2 := by decide +kernel
  rw [ct_go (by decide), e1, ct_go (by decide), e2, ct_end (by decide)] at h
  exact h
end Go.Proofs.YtngpiejigefhoaaDoor
