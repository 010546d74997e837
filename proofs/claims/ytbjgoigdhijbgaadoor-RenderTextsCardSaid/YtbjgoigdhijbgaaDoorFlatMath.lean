/-
  On one line, plainly: the leaves of a document, in their order.
-/
import Derived.Test.YtbjgoigdhijbgaaDoorDocItMem
set_option linter.all false
namespace Go.Proofs.YtbjgoigdhijbgaaDoor
open Go.RowKit Go.PlainAid

/-- Kinds of leaves. -/
def lfk (k : Int) : Bool := k == 1 || k == 2 || k == 3 || k == 4
mutual
def lvs : Dc → List Dc
  | .mk k n t l => if lfk k = true then [.mk k n t l] else lvsL l
def lvsL : List Dc → List Dc
  | [] => []
  | x :: t => lvs x ++ lvsL t
end
theorem lvs_leaf {x : Dc} (h : lfk (dkd x) = true) : lvs x = [x] := by
  cases x; simp only [dkd] at h; simp only [lvs, h, if_true]
theorem lvs_in {x : Dc} (h : lfk (dkd x) = false) : lvs x = lvsL (dks x) := by
  cases x; simp only [dkd] at h; simp only [lvs, h, dks]; rfl
def lvS : List (List Dc) → List Dc
  | [] => []
  | l :: r => lvsL l ++ lvS r
theorem lvS_nil (r : List (List Dc)) : lvS ([] :: r) = lvS r := by simp only [lvS, lvsL, List.nil_append]
theorem lvS_leaf {x : Dc} (h : lfk (dkd x) = true) (l : List Dc) (r : List (List Dc)) : lvS ((x :: l) :: r) = x :: lvS (l :: r) := by
  simp only [lvS, lvsL, lvs_leaf h, List.cons_append, List.nil_append]
theorem lvS_in {x : Dc} (h : lfk (dkd x) = false) (l : List Dc) (r : List (List Dc)) : lvS ((x :: l) :: r) = lvS (dks x :: l :: r) := by
  simp only [lvS, lvsL, lvs_in h, List.append_assoc]
theorem new_at9 {W : World} {ob : Obj} : (W.alloc ob).heap[W.heap.size]? = some ob := by
  show (W.heap.push _)[W.heap.size]? = _
  rw [Array.getElem?_push, if_pos rfl]
theorem new_at8 {W : World} {ob : Obj} {n : Nat} (h : n = W.heap.size) : (W.alloc ob).heap[n]? = some ob := by subst h; exact new_at9
theorem old_at9 {W : World} {ob : Obj} {g : Nat} (h : g < W.heap.size) : (W.alloc ob).heap[g]? = W.heap[g]? := by
  show (W.heap.push _)[g]? = _
  rw [Array.getElem?_push, if_neg (by omega)]
theorem tn_block_alloc {W W1 : World} {ob : Obj} {g : Nat} (h : W1 = W.alloc ob) (hg : g < W.heap.size) : W1.heap[g]? = W.heap[g]? := by rw [h]; exact old_at9 hg
end Go.Proofs.YtbjgoigdhijbgaaDoor
