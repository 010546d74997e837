/-
  What leaves the memory that was there as it was; answers that are equal.
-/
import Derived.WalkKit
import Derived.WalkSpells
import Derived.WalkLawsBesides
import Derived.Lib.Hide
import Derived.PlainAid
set_option linter.all false
namespace Go.Proofs.YtbjgoigdhijbgaaDoor
open Go.RowKit Go.PlainAid

theorem drew_below (w : World) (n : Nat) : Below w.heap.size w (w.drewN n) := ⟨rfl, rfl, rfl, Nat.le_refl _, fun _ _ => rfl⟩
theorem below1 (w : World) (o : Obj) : Below w.heap.size w (w.alloc o) := (Below.refl _ _).alloc (Nat.le_refl _) _
theorem retN {k : IntKind} {a b : Nat} (h : a = b) : Ending.returned (Value.int k (a : Int)) = Ending.returned (Value.int k (b : Int)) := by rw [h]
theorem retI {k : IntKind} {a b : Int} (h : a = b) : Ending.returned (Value.int k a) = Ending.returned (Value.int k b) := by rw [h]
theorem ret_s {a b : ByteArray} (h : a = b) : Ending.returned (Value.string a) = Ending.returned (Value.string b) := by rw [h]
theorem set_drewN (W : World) (n : Nat) (a : Addr) (v : Value) : (W.drewN n).setCell a v = (W.setCell a v).drewN n := rfl
theorem bel1q (w : World) (o : Obj) (n : Nat) : Below w.heap.size w ((w.alloc o).drewN n) := (below1 w o).trans (Below.mono (drew_below _ _) (by simp))
theorem bel1qq (w : World) (o : Obj) (n m : Nat) : Below w.heap.size w (((w.alloc o).drewN n).drewN m) := (bel1q w o n).trans (Below.mono (drew_below _ _) (by show w.heap.size ≤ (w.heap.push o).size; simp))
theorem row_of {w w1 : World} {t : TypeId} {cs : Array Value} (h : Below (w.heap.size + 1) (w.alloc (.cells cs t)) w1) : w1.heap[w.heap.size]? = some (.cells cs t (0, 0)) := by
  rw [h.block _ (by omega)]
  show (w.heap.push _)[w.heap.size]? = _
  rw [Array.getElem?_push, if_pos rfl]
theorem frz_of {w1 : World} {b : Nat} {cs : Array Value} {t : TypeId} (h : w1.heap[b]? = some (.cells cs t (0, 0))) (j : Nat) : w1.frozen? ⟨b, j, none⟩ = false := by simp [World.frozen?, h]
theorem bel3 {w w1 : World} (h : Below w.heap.size w w1) (a b c : Value) : Below w.heap.size w (((w1.setCell ⟨w.heap.size, 0, none⟩ a).setCell ⟨w.heap.size, 1, none⟩ b).setCell ⟨w.heap.size, 2, none⟩ c) := ((h.setCell (Nat.le_refl _) a).setCell (Nat.le_refl _) b).setCell (Nat.le_refl _) c
def LsAt (w : World) (g : Nat) (L : List (List UInt8)) : Prop := ∀ k, k < L.length → w.cell? ⟨g, k, none⟩ = some (.string ⟨(L.getD k []).toArray⟩)
theorem ls_at (w : World) (cs : Array Value) (t : TypeId) (L : List (List UInt8)) (h : cs = (L.map fun l => Value.string ⟨l.toArray⟩).toArray) : LsAt (w.alloc (.cells cs t)) w.heap.size L := by
  intro k hk
  rw [World.cell?_alloc_new, h]
  simp [List.getD_eq_getElem?_getD, List.getElem?_eq_getElem hk]
theorem ls_at' (w : World) (cs : Array Value) (t : TypeId) (L : List (List UInt8)) (n : Nat) (hn : w.heap.size = n) (h : cs = (L.map fun l => Value.string ⟨l.toArray⟩).toArray) : LsAt (w.alloc (.cells cs t)) n L := by
  rw [← hn]; exact ls_at w cs t L h
theorem below2 (w : World) (o p : Obj) : Below w.heap.size w ((w.alloc o).alloc p) := ((Below.refl _ _).alloc (Nat.le_refl _) _).alloc (by simp) _
end Go.Proofs.YtbjgoigdhijbgaaDoor
