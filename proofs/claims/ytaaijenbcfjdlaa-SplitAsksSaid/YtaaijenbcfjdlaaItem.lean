/-
  An item that came in: what it is, and that it reads as it did.
-/
import Derived.Test.YtaaijenbcfjdlaaBase
import Derived.Deep.Strs
namespace Go.Proofs.Ytaaijenbcfjdlaa
open Go.ChangeShapes Go.WideShapes Go.ChangeAt Go.WideMaps Go.WideElems Go.RowKit Go.Deep

theorem cIt : Try.prog.cellsOf 23 = 4 := by kernel_rfl
theorem cInt8 : Try.prog.cellsOf 3 = 1 := by kernel_rfl
theorem cBool8 : Try.prog.cellsOf 4 = 1 := by kernel_rfl
theorem list4 {α : Type} (l : List α) (h : (⟨l⟩ : Array α).size = 4) : ∃ a b c d, l = [a, b, c, d] := by
  match l, h with
  | [a, b, c, d], _ => exact ⟨a, b, c, d, rfl⟩
section
variable {H : Type} {enc : TypeId × Value → H} {P : Program} {w : World} {base : Nat} {spare : Nat → Bool} {held : Bool}
theorem trod_struct4 {t : TypeId} {f0 f1 f2 f3 : Field} {fuel : Nat} {cs : List Value} {x : DataW H × List MemPlace} (ht : P.underlying t = some (.struct #[f0, f1, f2, f3])) (h : DataW.trod enc P w base spare held fuel t cs = some x) :
    ∃ y0 y1 y2 y3 n, x = (.agg [y0.1, y1.1, y2.1, y3.1], y0.2 ++ (y1.2 ++ (y2.2 ++ y3.2))) ∧ cs.length = P.cellsOf t ∧ DataW.trod enc P w base spare held n f0.type ((cs.drop f0.offset).take (P.cellsOf f0.type)) = some y0 ∧
      DataW.trod enc P w base spare held n f1.type ((cs.drop f1.offset).take (P.cellsOf f1.type)) = some y1 ∧ DataW.trod enc P w base spare held n f2.type ((cs.drop f2.offset).take (P.cellsOf f2.type)) = some y2 ∧
      DataW.trod enc P w base spare held n f3.type ((cs.drop f3.offset).take (P.cellsOf f3.type)) = some y3 := by
  obtain ⟨xs, n, _, rfl, hl, hlen, hf⟩ := DataW.trod_struct ht h
  match xs, hlen with
  | [y0, y1, y2, y3], _ => exact ⟨y0, y1, y2, y3, n, by simp, hl, by simpa using hf 0 f0 rfl, by simpa using hf 1 f1 rfl, by simpa using hf 2 f2 rfl, by simpa using hf 3 f3 rfl⟩
theorem trod_struct4_mk {t : TypeId} {f0 f1 f2 f3 : Field} {n : Nat} {cs : List Value} {y0 y1 y2 y3 : DataW H × List MemPlace} (ht : P.underlying t = some (.struct #[f0, f1, f2, f3])) (hl : cs.length = P.cellsOf t)
    (h0 : DataW.trod enc P w base spare held n f0.type ((cs.drop f0.offset).take (P.cellsOf f0.type)) = some y0) (h1 : DataW.trod enc P w base spare held n f1.type ((cs.drop f1.offset).take (P.cellsOf f1.type)) = some y1)
    (h2 : DataW.trod enc P w base spare held n f2.type ((cs.drop f2.offset).take (P.cellsOf f2.type)) = some y2) (h3 : DataW.trod enc P w base spare held n f3.type ((cs.drop f3.offset).take (P.cellsOf f3.type)) = some y3) :
    DataW.trod enc P w base spare held (n + 1) t cs = some (.agg [y0.1, y1.1, y2.1, y3.1], y0.2 ++ (y1.2 ++ (y2.2 ++ y3.2))) := by
  have := trod_struct_mk (enc := enc) (w := w) (base := base) (spare := spare) (held := held) (n := n) (xs := [y0, y1, y2, y3]) ht hl (by simp [h0, h1, h2, h3])
  simpa using this
end
section
variable {H : Type} {enc : TypeId × Value → H} {W : World}
theorem open_it {b0 b1 : Nat} {r : Reach} {sp : Nat → Bool} {held : Bool} {v : Value} {d : DataW H} {ps : List MemPlace} (hval : Value.okWide Try.prog W r b0 23 v) (hd : DataW.Trod enc Try.prog W b1 sp held 23 v d ps) :
    ∃ (f t : Int) (n b : Bool), v = .agg #[.int .i64 f, .int .i64 t, .bool n, .bool b] ∧ d = .agg [.lit (.int .i64 f), .lit (.int .i64 t), .lit (.bool n), .lit (.bool b)] ∧ ps = [] ∧ (Lit.int .i64 f).wf = true ∧ (Lit.int .i64 t).wf = true := by
  obtain ⟨cs, rfl, hsz⟩ := okWide_struct Try.underlying23 hval
  rw [cIt] at hsz
  obtain ⟨l⟩ := cs
  obtain ⟨c0, c1, c2, c3, rfl⟩ := list4 l hsz
  obtain ⟨fuel, hf⟩ := hd
  obtain ⟨y0, y1, y2, y3, m, hx, _, hy0, hy1, hy2, hy3⟩ := trod_struct4 Try.underlying23 hf
  obtain ⟨f, e0, rfl, wf⟩ := DataW.trod_int Try.underlying3 hy0
  obtain ⟨t, e1, rfl, wt⟩ := DataW.trod_int Try.underlying3 hy1
  obtain ⟨n, e2, rfl⟩ := DataW.trod_bool Try.underlying4 hy2
  obtain ⟨b, e3, rfl⟩ := DataW.trod_bool Try.underlying4 hy3
  simp [Value.cells, cInt8, cBool8] at e0 e1 e2 e3
  subst e0 e1 e2 e3
  simp only [Prod.mk.injEq] at hx
  obtain ⟨rfl, rfl⟩ := hx
  exact ⟨f, t, n, b, rfl, rfl, rfl, wf, wt⟩
theorem shut_it {b1 : Nat} {sp : Nat → Bool} {held : Bool} {f t : Int} {n b : Bool} (wf : (Lit.int .i64 f).wf = true) (wt : (Lit.int .i64 t).wf = true) :
    DataW.Trod enc Try.prog W b1 sp held 23 (.agg #[.int .i64 f, .int .i64 t, .bool n, .bool b]) (.agg [.lit (.int .i64 f), .lit (.int .i64 t), .lit (.bool n), .lit (.bool b)]) [] := ⟨2, by
  have f0 : DataW.trod enc Try.prog W b1 sp held 1 3 [.int .i64 f] = some (.lit (.int .i64 f), []) := by simp [DataW.trod, Try.underlying3, wf]
  have f1 : DataW.trod enc Try.prog W b1 sp held 1 3 [.int .i64 t] = some (.lit (.int .i64 t), []) := by simp [DataW.trod, Try.underlying3, wt]
  have f2 : DataW.trod enc Try.prog W b1 sp held 1 4 [.bool n] = some (.lit (.bool n), []) := by simp [DataW.trod, Try.underlying4]
  have f3 : DataW.trod enc Try.prog W b1 sp held 1 4 [.bool b] = some (.lit (.bool b), []) := by simp [DataW.trod, Try.underlying4]
  have := trod_struct4_mk (enc := enc) (w := W) (base := b1) (spare := sp) (held := held) (n := 1) (cs := [.int .i64 f, .int .i64 t, .bool n, .bool b]) Try.underlying23 (by simp [cIt]) (by simpa [cInt8] using f0) (by simpa [cInt8] using f1) (by simpa [cBool8] using f2) (by simpa [cBool8] using f3)
  simpa [Value.cells] using this⟩
end
end Go.Proofs.Ytaaijenbcfjdlaa
