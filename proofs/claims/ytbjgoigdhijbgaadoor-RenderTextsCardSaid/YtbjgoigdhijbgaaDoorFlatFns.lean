/-
  THE PROGRAM's Flat, Width and First: what they answer.
-/
import Derived.Test.YtbjgoigdhijbgaaDoorFlatProg
import Derived.Test.YtbjgoigdhijbgaaDoorDocProg
set_option linter.all false
namespace Go.Proofs.YtbjgoigdhijbgaaDoor
open Go.RowKit Go.PlainAid Go.Shelf

/-- A row of one document that was just made. -/
theorem rowOne {W : World} {g : Nat} {k n : Int} {t : ByteArray} {lv : Value} {x : Dc} {ty : TypeId} {fr : Nat × Nat} {P : Nat → Prop} (hp : P g) (h : W.heap[g]? = some (.cells #[.int .i64 k, .int .i64 n, .string t, lv] ty fr)) (hd : DcIn W P [.int .i64 k, .int .i64 n, .string t, lv] x) :
    DrIn W P (.slice (some ⟨g, 0, none⟩) 1 1) [x] := by
  refine ⟨fun _ => [.int .i64 k, .int .i64 n, .string t, lv], ⟨_, _, rfl, Nat.le_refl _, by decide, fun _ => ⟨g, 0, rfl, hp, lt_of_block h, fun i hi j u hj => ?_⟩⟩, fun i y hy => ?_⟩
  · obtain rfl : i = 0 := by simpa using hi
    rw [show 0 + 0 * 4 + j = j by omega, cell_of_row W g j _ _ _ h]
    simpa using hj
  · match i, hy with
    | 0, hy => cases hy; exact hd
    | i + 1, hy => simp at hy
theorem four_of0 {W : World} {g : Nat} {a b c d : Value} {ty : TypeId} (h : W.heap[g]? = some (.cells #[a, b, c, d] ty (0, 0))) :
    W.cell? ⟨g, 0, none⟩ = some a ∧ W.cell? ⟨g, 1, none⟩ = some b ∧ W.cell? ⟨g, 2, none⟩ = some c ∧ W.cell? ⟨g, 3, none⟩ = some d :=
  ⟨cell_of_row W g 0 _ _ _ h, cell_of_row W g 1 _ _ _ h, cell_of_row W g 2 _ _ _ h, cell_of_row W g 3 _ _ _ h⟩
theorem lvsL_one (d : Dc) : lvsL [d] = lvs d := by simp [lvsL]
theorem ret_sb {a b : ByteArray} {c d : Bool} (h : a = b) (h' : c = d) : Ending.returned (.tuple #[.string a, .bool c]) = .returned (.tuple #[.string b, .bool d]) := by rw [h, h']
end Go.Proofs.YtbjgoigdhijbgaaDoor
