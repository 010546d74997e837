/-
  The kind of a node that comes in is a number that a machine holds.
-/
import Derived.Test.YtbjgoigdhijbgaaNode
set_option linter.all false
namespace Go.Proofs.Ytbjgoigdhijbgaa
open Go.ChangeShapes Go.WideShapes Go.ChangeAt Go.RowKit Go.PlainAid
variable {H : Type} {enc : TypeId × Value → H} {W : World}

theorem nd_kind {b1 : Nat} {sp : Nat → Bool} {held : Bool} {c : List Value} {d : DataW H} {ps : List MemPlace} (hd : DataW.Trod enc Try.prog W b1 sp held 25 (.agg c.toArray) d ps) :
    ∀ k, c[0]? = some (.int .i64 k) → -9223372036854775808 ≤ k ∧ k ≤ 9223372036854775807 := by
  intro k hk
  obtain ⟨fuel, h⟩ := hd
  obtain ⟨xs, n, rfl, hxe0, hl, hlen, hf⟩ := DataW.trod_struct Try.underlying25 h
  rw [cNd] at hl
  simp only [Value.cells] at hl hf
  obtain ⟨c0, c1, c2, c3, c4, c5, c6, rfl⟩ := list7 c (by simpa using hl)
  obtain ⟨y0, y1, y2, y3, y4, y5, y6, rfl⟩ := list7 xs hlen
  have h0 := hf 0 _ rfl
  simp only [List.getElem?_cons_zero, Option.some.injEq] at hk
  subst hk
  simp [cNi, cNs, cNb, cNss, cNds] at h0
  obtain ⟨n', h1, h2, h3⟩ := DataW.trod_int Try.underlying3 h0
  simp at h1
  subst h1
  simpa [Lit.wf, IntKind.min, IntKind.bits, IntKind.signed] using h3
end Go.Proofs.Ytbjgoigdhijbgaa
