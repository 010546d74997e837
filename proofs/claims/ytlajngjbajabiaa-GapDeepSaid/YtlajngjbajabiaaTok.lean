/-
  A token that came in: what it is, and that it reads as it did.
-/
import Derived.Test.YtlajngjbajabiaaBase
import Derived.Deep.Strs
namespace Go.Proofs.Ytlajngjbajabiaa
open Go.ChangeShapes Go.WideShapes Go.ChangeAt Go.WideMaps Go.WideElems Go.RowKit Go.Deep

theorem cTok : Try.prog.cellsOf 30 = 3 := by kernel_rfl
theorem cInt : Try.prog.cellsOf 3 = 1 := by kernel_rfl
theorem cStr : Try.prog.cellsOf 9 = 1 := by kernel_rfl
theorem list3 {α : Type} (l : List α) (h : (⟨l⟩ : Array α).size = 3) : ∃ a b c, l = [a, b, c] := by
  match l, h with
  | [a, b, c], _ => exact ⟨a, b, c, rfl⟩
section
variable {H : Type} {enc : TypeId × Value → H} {W : World}
theorem open_tok {b0 b1 : Nat} {r : Reach} {sp : Nat → Bool} {held : Bool} {v : Value} {d : DataW H} {ps : List MemPlace} (hval : Value.okWide Try.prog W r b0 30 v) (hd : DataW.Trod enc Try.prog W b1 sp held 30 v d ps) :
    ∃ (k : Int) (s : ByteArray) (a : Int), v = .agg #[.int .i64 k, .string s, .int .i64 a] ∧ d = .agg [.lit (.int .i64 k), .lit (.string s.data.toList), .lit (.int .i64 a)] ∧ ps = [] ∧ (Lit.int .i64 k).wf = true ∧ s.size ≤ maxLen ∧ (Lit.int .i64 a).wf = true := by
  obtain ⟨cs, rfl, hsz⟩ := okWide_struct Try.underlying30 hval
  rw [cTok] at hsz
  obtain ⟨l⟩ := cs
  obtain ⟨c0, c1, c2, rfl⟩ := list3 l hsz
  obtain ⟨fuel, hf⟩ := hd
  obtain ⟨y0, y1, y2, m, hx, _, hy0, hy1, hy2⟩ := trod_struct3 Try.underlying30 hf
  obtain ⟨k, e0, rfl, wk⟩ := DataW.trod_int Try.underlying3 hy0
  obtain ⟨s, e1, rfl, ws⟩ := DataW.trod_string Try.underlying9 hy1
  obtain ⟨a, e2, rfl, wa⟩ := DataW.trod_int Try.underlying3 hy2
  simp [Value.cells, cInt, cStr] at e0 e1 e2
  subst e0 e1 e2
  simp only [Prod.mk.injEq] at hx
  obtain ⟨rfl, rfl⟩ := hx
  exact ⟨k, s, a, rfl, rfl, rfl, wk, ws, wa⟩
theorem shut_tok {b1 : Nat} {sp : Nat → Bool} {held : Bool} {k a : Int} {s : ByteArray} (wk : (Lit.int .i64 k).wf = true) (ws : s.size ≤ maxLen) (wa : (Lit.int .i64 a).wf = true) :
    DataW.Trod enc Try.prog W b1 sp held 30 (.agg #[.int .i64 k, .string s, .int .i64 a]) (.agg [.lit (.int .i64 k), .lit (.string s.data.toList), .lit (.int .i64 a)]) [] := ⟨2, by
  have f0 : DataW.trod enc Try.prog W b1 sp held 1 3 [.int .i64 k] = some (.lit (.int .i64 k), []) := by simp [DataW.trod, Try.underlying3, wk]
  have f1 : DataW.trod enc Try.prog W b1 sp held 1 9 [.string s] = some (.lit (.string s.data.toList), []) := by simp [DataW.trod, Try.underlying9, ws]
  have f2 : DataW.trod enc Try.prog W b1 sp held 1 3 [.int .i64 a] = some (.lit (.int .i64 a), []) := by simp [DataW.trod, Try.underlying3, wa]
  have := trod_struct3_mk (enc := enc) (w := W) (base := b1) (spare := sp) (held := held) (n := 1) (cs := [.int .i64 k, .string s, .int .i64 a]) Try.underlying30 (by simp [cTok]) (by simpa [cInt] using f0) (by simpa [cStr] using f1) (by simpa [cInt] using f2)
  simpa [Value.cells] using this⟩
end
end Go.Proofs.Ytlajngjbajabiaa
