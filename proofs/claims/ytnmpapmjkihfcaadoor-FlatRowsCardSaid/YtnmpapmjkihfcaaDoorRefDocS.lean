/-
  THE DOCUMENT's Same of documents: of one and the same, laid twice.
-/
import Derived.Test.YtnmpapmjkihfcaaDoorRefDocA
set_option linter.all false
namespace Go.Proofs.YtnmpapmjkihfcaaDoor
open Go.RowKit Go.PlainAid

/-- What a walk wants of two documents that it has laid into blocks of its own. -/
theorem two_cells {w W : World} {k n : Int} {t : ByteArray} {lv : Value} {k' n' : Int} {t' : ByteArray} {lv' : Value} (hb : Below ((w.alloc (.cells #[.int .i64 k, .int .i64 n, .string t, lv] 26)).alloc (.cells #[.int .i64 k', .int .i64 n', .string t', lv'] 26)).heap.size ((w.alloc (.cells #[.int .i64 k, .int .i64 n, .string t, lv] 26)).alloc (.cells #[.int .i64 k', .int .i64 n', .string t', lv'] 26)) W) :
    (W.cell? ⟨w.heap.size, 0, none⟩ = some (.int .i64 k) ∧ W.cell? ⟨w.heap.size, 1, none⟩ = some (.int .i64 n) ∧ W.cell? ⟨w.heap.size, 2, none⟩ = some (.string t) ∧ W.cell? ⟨w.heap.size, 3, none⟩ = some lv) ∧
    (W.cell? ⟨w.heap.size + 1, 0, none⟩ = some (.int .i64 k') ∧ W.cell? ⟨w.heap.size + 1, 1, none⟩ = some (.int .i64 n') ∧ W.cell? ⟨w.heap.size + 1, 2, none⟩ = some (.string t') ∧ W.cell? ⟨w.heap.size + 1, 3, none⟩ = some lv') := by
  have h : ∀ j, W.cell? ⟨w.heap.size, j, none⟩ = (#[.int .i64 k, .int .i64 n, .string t, lv] : Array Value)[j]? := fun j => by
    rw [hb.cell (p := ⟨w.heap.size, j, none⟩) (by show w.heap.size < ((w.alloc _).alloc _).heap.size; simp; omega)]
    rw [cell_of_row _ w.heap.size j _ 26 (0, 0) (by show ((w.heap.push _).push _)[w.heap.size]? = _; rw [Array.getElem?_push, if_neg (by simp), Array.getElem?_push, if_pos rfl])]
  have h2 : ∀ j, W.cell? ⟨w.heap.size + 1, j, none⟩ = (#[.int .i64 k', .int .i64 n', .string t', lv'] : Array Value)[j]? := fun j => by
    rw [hb.cell (p := ⟨w.heap.size + 1, j, none⟩) (by show w.heap.size + 1 < ((w.alloc _).alloc _).heap.size; simp)]
    rw [cell_of_row _ (w.heap.size + 1) j _ 26 (0, 0) (by show ((w.heap.push _).push _)[w.heap.size + 1]? = _; rw [Array.getElem?_push, if_pos (by simp)])]
  exact ⟨⟨h 0, h 1, h 2, h 3⟩, ⟨h2 0, h2 1, h2 2, h2 3⟩⟩
end Go.Proofs.YtnmpapmjkihfcaaDoor
