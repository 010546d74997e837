/-
  FlatRows: rows that were just made stay.
-/
import Derived.Test.YtnmpapmjkihfcaaDoorBase
import Derived.Test.YtnmpapmjkihfcaaDoorDoc
import Derived.Test.YtnmpapmjkihfcaaDoorFlatTold
import Derived.Test.YtnmpapmjkihfcaaDoorRefDocS
import Derived.Deep.RegionHeld3
import Derived.Laws.Concat
set_option linter.all false
namespace Go.Proofs.YtnmpapmjkihfcaaDoor.flatRows
open Go.ChangeShapes Go.WideShapes Go.ChangeAt Go.RowKit Go.PlainAid Go.Proofs.YtnmpapmjkihfcaaDoor

theorem m0 {A : World} {o : Obj} : (A.alloc o).heap[A.heap.size]? = some o := new_at9
theorem m1 {A : World} {o o2 : Obj} : ((A.alloc o).alloc o2).heap[A.heap.size]? = some o := (old_at9 (by simp)).trans new_at9
theorem m1' {A : World} {o o2 : Obj} {n : Nat} (h : n = A.heap.size + 1) : ((A.alloc o).alloc o2).heap[n]? = some o2 := new_at8 (by simp [h])
theorem m2 {A B : World} {o : Obj} (h : Hid (Below (A.alloc o).heap.size (A.alloc o) B)) : B.heap[A.heap.size]? = some o := (h.out.block _ (by simp)).trans m0
theorem m3 {A B : World} {o o2 : Obj} (h : Hid (Below ((A.alloc o).alloc o2).heap.size ((A.alloc o).alloc o2) B)) : B.heap[A.heap.size]? = some o := (h.out.block _ (by simp; omega)).trans m1
theorem m4 {A B : World} {o o2 : Obj} {n : Nat} (h : Hid (Below ((A.alloc o).alloc o2).heap.size ((A.alloc o).alloc o2) B)) (e : n = A.heap.size + 1) : B.heap[n]? = some o2 := (h.out.block _ (by simp; omega)).trans (m1' e)
theorem m5 {A B : World} {o o2 : Obj} (h : Hid (Below (A.alloc o).heap.size (A.alloc o) B)) : (B.alloc o2).heap[A.heap.size]? = some o := (old_at9 (lt_of_block (m2 h))).trans (m2 h)
end Go.Proofs.YtnmpapmjkihfcaaDoor.flatRows
