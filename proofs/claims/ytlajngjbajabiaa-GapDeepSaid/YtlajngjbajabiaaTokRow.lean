/-
  A slice of tokens that came in: the row that it reads as.
-/
import Derived.Test.YtlajngjbajabiaaTok
import Derived.Test.YtlajngjbajabiaaGapDefs
import Derived.Deep.Slices
namespace Go.Proofs.Ytlajngjbajabiaa
open Go.ChangeShapes Go.WideShapes Go.ChangeAt Go.WideMaps Go.WideElems Go.RowKit Go.Deep

section
variable {H : Type} {enc : TypeId × Value → H} {W : World}
theorem tok_cells {b1 : Nat} {sp : Nat → Bool} {held : Bool} {n : Nat} {cs : List Value} {x : DataW H × List MemPlace} (h : DataW.trod enc Try.prog W b1 sp held n 30 cs = some x) :
    ∃ t : Tok, cs = [.int .i64 t.1, .string t.2.1, .int .i64 t.2.2] ∧ t.2.1.size ≤ maxLen := by
  obtain ⟨y0, y1, y2, m, hx, hl, hy0, hy1, hy2⟩ := trod_struct3 Try.underlying30 h
  rw [cTok] at hl
  obtain ⟨k, e0, rfl, wk⟩ := DataW.trod_int Try.underlying3 hy0
  obtain ⟨s, e1, rfl, ws⟩ := DataW.trod_string Try.underlying9 hy1
  obtain ⟨a, e2, rfl, wa⟩ := DataW.trod_int Try.underlying3 hy2
  match cs, hl with
  | [c0, c1, c2], _ =>
    simp [cInt, cStr] at e0 e1 e2
    subst e0 e1 e2
    exact ⟨(k, s, a), rfl, ws⟩
theorem open_toks {b1 : Nat} {sp : Nat → Bool} {held : Bool} {fuel : Nat} {a : Option Addr} {len cap : Nat} {x : DataW H × List MemPlace} (h : DataW.trod enc Try.prog W b1 sp held fuel 23 [.slice a len cap] = some x) :
    ∃ T : List Tok, TRow W (.slice a len cap) T ∧ T.length = len ∧ len ≤ maxLen ∧ ∀ (i : Nat) (t : Tok), T[i]? = some t → t.2.1.size ≤ maxLen := by
  rcases open_slice Try.underlying23 h with ⟨hc, -⟩ | ⟨a', len', cap', m, n, D, Pl, hc, hb, hl, hm, hmm, rfl, hx⟩
  · simp only [List.cons.injEq, Value.slice.injEq, and_true] at hc
    obtain ⟨rfl, rfl, rfl⟩ := hc
    exact ⟨[], ⟨none, 0, rfl, fun h0 => absurd h0 (by simp)⟩, rfl, Nat.zero_le _, fun i t ht => by simp at ht⟩
  · simp only [List.cons.injEq, Value.slice.injEq, and_true] at hc
    obtain ⟨rfl, rfl, rfl⟩ := hc
    have hlm : len ≤ m := by rw [hmm]; split <;> omega
    obtain ⟨q, hq⟩ := choose_lt (α := Tok) (p := fun i t => W.cell? (a'.add (i * 3)) = some (.int .i64 t.1) ∧ W.cell? (a'.add (i * 3 + 1)) = some (.string t.2.1) ∧ W.cell? (a'.add (i * 3 + 2)) = some (.int .i64 t.2.2) ∧ t.2.1.size ≤ maxLen) (n := m) (fun i hi => by
      obtain ⟨cs', h1, h2⟩ := hx i hi
      obtain ⟨t, rfl, hz⟩ := tok_cells h2
      rw [cTok] at h1
      obtain ⟨_, hlen, hcell⟩ := World.cells?_some h1
      have e0 := hcell 0 (by omega)
      have e1 := hcell 1 (by omega)
      have e2 := hcell 2 (by omega)
      rw [add_add] at e0 e1 e2
      exact ⟨t, by simpa using e0, by simpa using e1, by simpa using e2, hz⟩)
    have hT : ((List.range len).map q).length = len := by simp
    have hat : ∀ (i : Nat) (t : Tok), ((List.range len).map q)[i]? = some t → i < len ∧ q i = t := by
      intro i t ht
      have hi : i < ((List.range len).map q).length := (List.getElem?_eq_some_iff.1 ht).1
      rw [hT] at hi
      rw [List.getElem?_map, List.getElem?_range hi] at ht
      exact ⟨hi, by simpa using ht⟩
    refine ⟨(List.range len).map q, ⟨some a', cap, by rw [hT], fun h0 => ?_⟩, hT, by omega, fun i t ht => ?_⟩
    · rw [hT] at h0
      obtain ⟨b, off, spot⟩ := a'
      have hspot : spot = none := by
        have := World.cell?_spot (hq 0 (by omega)).1
        simpa [Addr.add] using this
      subst hspot
      refine ⟨b, off, rfl, ?_, fun i t ht => ?_⟩
      · have := (hq 0 (by omega)).1
        rw [Go.WideShapes.add_plain] at this
        exact World.block_lt_of_cell? _ _ this
      · obtain ⟨hi, rfl⟩ := hat i t ht
        obtain ⟨g0, g1, g2, -⟩ := hq i (by omega)
        rw [Go.WideShapes.add_plain] at g0 g1 g2
        exact ⟨g0, g1, g2⟩
    · obtain ⟨hi, rfl⟩ := hat i t ht
      exact (hq i (by omega)).2.2.2
end
end Go.Proofs.Ytlajngjbajabiaa
