/-
  A slice of bools that came in: what a walk is told of it.
-/
import Derived.Test.YtaaijenbcfjdlaaBase
import Derived.Deep.Slices
namespace Go.Proofs.Ytaaijenbcfjdlaa
open Go.ChangeShapes Go.WideShapes Go.ChangeAt Go.WideMaps Go.WideElems Go.RowKit Go.Deep

theorem cBool1 : Try.prog.cellsOf 4 = 1 := by kernel_rfl
/-- Its elements, by their places. -/
def BRow (W : World) (a : Option Addr) (len : Nat) (f : Nat → Bool) : Prop :=
  len ≤ maxLen ∧ (0 < len → ∃ b o, a = some ⟨b, o, none⟩ ∧ b < W.heap.size ∧ ∀ i, i < len → W.cell? ⟨b, o + i, none⟩ = some (.bool (f i)))
section
variable {H : Type} {enc : TypeId × Value → H} {W : World}
theorem open_bools {b1 : Nat} {sp : Nat → Bool} {held : Bool} {fuel : Nat} {a : Option Addr} {len cap : Nat} {x : DataW H × List MemPlace} (h : DataW.trod enc Try.prog W b1 sp held fuel 37 [.slice a len cap] = some x) : ∃ f : Nat → Bool, BRow W a len f := by
  rcases open_slice1 Try.underlying37 cBool1 h with ⟨hc, -⟩ | ⟨a', len', cap', m, n, V, D, Pl, hc, hb, hl, hm, hmm, rfl, hx⟩
  · simp only [List.cons.injEq, Value.slice.injEq, and_true] at hc
    obtain ⟨rfl, rfl, rfl⟩ := hc
    exact ⟨fun _ => false, Nat.zero_le _, fun h0 => absurd h0 (by omega)⟩
  · simp only [List.cons.injEq, Value.slice.injEq, and_true] at hc
    obtain ⟨rfl, rfl, rfl⟩ := hc
    have hlm : len ≤ m := by rw [hmm]; split <;> omega
    obtain ⟨q, hq⟩ := choose_lt (α := Bool) (p := fun i t => W.cell? (a'.add i) = some (.bool t)) (n := m) (fun i hi => by
      obtain ⟨h1, h2⟩ := hx i hi
      obtain ⟨t, e, -⟩ := DataW.trod_bool Try.underlying4 h2
      simp only [List.cons.injEq, and_true] at e
      exact ⟨t, by rw [h1, e]⟩)
    refine ⟨q, by omega, fun h0 => ?_⟩
    obtain ⟨b, off, spot⟩ := a'
    have hspot : spot = none := by
      have := World.cell?_spot (hq 0 (by omega))
      simpa [Addr.add] using this
    subst hspot
    refine ⟨b, off, rfl, ?_, fun i hi => ?_⟩
    · have := hq 0 (by omega)
      rw [Go.WideShapes.add_plain] at this
      exact World.block_lt_of_cell? _ _ this
    · have := hq i (by omega)
      rw [Go.WideShapes.add_plain] at this
      exact this
end
end Go.Proofs.Ytaaijenbcfjdlaa
