/-
  What the walks to items speak of: an item's cells, the row of items that a call owns, what it reads as.
-/
import Derived.Test.YtaaijenbcfjdlaaSplitMath
import Derived.Test.YtaaijenbcfjdlaaScanDefs
import Derived.Lib.BufferMore
import Derived.OneCell
namespace Go.Proofs.Ytaaijenbcfjdlaa
open Go.RowKit Go.PlainAid

theorem infoIt : (Try.prog.info? 23).map (fun i => (i.zero, i.size, i.bytes)) = some (some (.agg #[.int .i64 0, .int .i64 0, .bool false, .bool false]), 4, 24) := by kernel_rfl
theorem build_it (a b : Int) (c : Bool) (w : World) : (Instr.build 23 #[(0, .int .i64 a), (1, .int .i64 b), (3, .bool c)]).run Try.prog w = .ok (.agg #[.int .i64 a, .int .i64 b, .bool false, .bool c]) w := run_build w 23 _ _ (by kernel_rfl)
theorem build_it4 (a b : Int) (n c : Bool) (w : World) : (Instr.build 23 #[(0, .int .i64 a), (1, .int .i64 b), (2, .bool n), (3, .bool c)]).run Try.prog w = .ok (.agg #[.int .i64 a, .int .i64 b, .bool n, .bool c]) w := run_build w 23 _ _ (by kernel_rfl)
/-- An item's cells. -/
def itc (y : It) : List Value := [.int .i64 (y.1 : Int), .int .i64 (y.2.1 : Int), .bool y.2.2.1, .bool y.2.2.2]
def itcs (l : List It) : List Value := l.flatMap itc
theorem itcs_app (L : List It) (x : It) : itcs (L ++ [x]) = itcs L ++ itc x := by unfold itcs; rw [List.flatMap_append]; simp
/-- The row of items so far, owned. -/
def Ik (w0 wr : World) (v : Value) (I : List It) : Prop := wr.ownsRow w0.heap.size 23 4 v I.length (itcs I) ∧ Below w0.heap.size w0 wr
theorem Ik.below {w0 wr w1 : World} {v : Value} {I : List It} (h : Ik w0 wr v I) (hb : Below wr.heap.size wr w1) : Ik w0 w1 v I := ⟨own_bel h.1 hb, h.2.trans (hb.mono h.2.size)⟩
theorem Ik.put {w0 w1 w2 : World} {v v' : Value} {I : List It} {x : It} (h : Ik w0 w1 v I) (o : Obj) (hown : w2.ownsRow w0.heap.size 23 4 v' (I.length + 1) (itcs I ++ itc x)) (hg : (w1.alloc o).grownBy w2 v.ownBlock) : Ik w0 w2 v' (I ++ [x]) := by
  refine ⟨by rw [List.length_append, itcs_app]; exact hown, ?_⟩
  refine (h.2.alloc h.2.size o).grown hg (Nat.le_trans h.2.size (by simp)) ?_
  intro j hj
  exact (h.1.lt j hj).1
theorem Ik.set {w0 wr : World} {v : Value} {I : List It} (h : Ik w0 wr v I) {B i : Nat} (hB : w0.heap.size ≤ B) (ho : some B ≠ v.ownBlock) (u : Value) : Ik w0 (wr.setCell ⟨B, i, none⟩ u) v I :=
  ⟨ownsRow_setCell_other h.1 (fun e => ho e.symm) u, h.2.setCell hB u⟩
theorem cells_four_new (w : World) (x y z u : Value) (t : TypeId) : ∀ j v, [x, y, z, u][j]? = some v → (w.alloc (.cells #[x, y, z, u] t)).cell? ((⟨w.heap.size, 0, none⟩ : Addr).add j) = some v := by
  intro j v hj
  match j, hj with
  | 0, hj => simp at hj; subst hj; simp [Addr.add]
  | 1, hj => simp at hj; subst hj; simp [Addr.add]
  | 2, hj => simp at hj; subst hj; simp [Addr.add]
  | 3, hj => simp at hj; subst hj; simp [Addr.add]
  | j + 4, hj => simp at hj
/-- The item that is being made lies in block B. -/
def Mk (W : World) (B : Nat) (a b : Int) (n c : Bool) : Prop := W.heap[B]? = some (.cells #[.int .i64 a, .int .i64 b, .bool n, .bool c] 23 (0, 0))
theorem mk_new (w : World) (a b : Int) (n c : Bool) : Mk (w.alloc (.cells #[.int .i64 a, .int .i64 b, .bool n, .bool c] 23)) w.heap.size a b n c := by
  show (w.heap.push _)[w.heap.size]? = _
  rw [Array.getElem?_push, if_pos rfl]
theorem Mk.to {W : World} {B : Nat} {a b : Int} {n c : Bool} (h : Mk W B a b n c) (b' : Int) : Mk (W.setCell ⟨B, 1, none⟩ (.int .i64 b')) B a b' n c := by
  have := Lib.heap_setCell_same (i := 1) h (.int .i64 b')
  unfold Mk; simpa using this
theorem Mk.note {W : World} {B : Nat} {a b : Int} {n c : Bool} (h : Mk W B a b n c) (n' : Bool) : Mk (W.setCell ⟨B, 2, none⟩ (.bool n')) B a b n' c := by
  have := Lib.heap_setCell_same (i := 2) h (.bool n')
  unfold Mk; simpa using this
theorem Mk.lt {W : World} {B : Nat} {a b : Int} {n c : Bool} (h : Mk W B a b n c) : B < W.heap.size := lt_of_block h
theorem Mk.cells {W : World} {B : Nat} {a b : Int} {n c : Bool} (h : Mk W B a b n c) : W.cell? ⟨B, 0, none⟩ = some (.int .i64 a) ∧ W.cell? ⟨B, 1, none⟩ = some (.int .i64 b) ∧ W.cell? ⟨B, 2, none⟩ = some (.bool n) ∧ W.cell? ⟨B, 3, none⟩ = some (.bool c) :=
  ⟨by rw [cell_of_row W B 0 _ _ _ h]; rfl, by rw [cell_of_row W B 1 _ _ _ h]; rfl, by rw [cell_of_row W B 2 _ _ _ h]; rfl, by rw [cell_of_row W B 3 _ _ _ h]; rfl⟩
/-- What a call that answers items gives. -/
def ItsAre (w0 : World) (I : List It) (e : Ending) (w' : World) : Prop := ∃ v, e = .returned v ∧ Ik w0 w' v I
/-- v is the row of these items. -/
def ItAt (W : World) (v : Value) (I : List It) : Prop :=
  ∃ a cap, v = .slice a I.length cap ∧ (0 < I.length → ∃ g, a = some ⟨g, 0, none⟩ ∧ g < W.heap.size ∧ ∀ i y, I[i]? = some y →
    W.cell? ⟨g, i * 4, none⟩ = some (.int .i64 (y.1 : Int)) ∧ W.cell? ⟨g, i * 4 + 1, none⟩ = some (.int .i64 (y.2.1 : Int)) ∧ W.cell? ⟨g, i * 4 + 2, none⟩ = some (.bool y.2.2.1) ∧ W.cell? ⟨g, i * 4 + 3, none⟩ = some (.bool y.2.2.2))
theorem ItAt.below {W W' : World} {v : Value} {I : List It} (h : ItAt W v I) (hb : Below W.heap.size W W') : ItAt W' v I := by
  obtain ⟨a, cap, h1, h2⟩ := h
  refine ⟨a, cap, h1, fun h0 => ?_⟩
  obtain ⟨g, g1, g2, g3⟩ := h2 h0
  refine ⟨g, g1, Nat.lt_of_lt_of_le g2 hb.size, fun i x hx => ?_⟩
  obtain ⟨c1, c2, c3, c4⟩ := g3 i x hx
  exact ⟨(hb.cell (p := ⟨g, i * 4, none⟩) g2).trans c1, (hb.cell (p := ⟨g, i * 4 + 1, none⟩) g2).trans c2, (hb.cell (p := ⟨g, i * 4 + 2, none⟩) g2).trans c3, (hb.cell (p := ⟨g, i * 4 + 3, none⟩) g2).trans c4⟩
theorem itflat_at : ∀ (I : List It) (i : Nat) (y : It), I[i]? = some y → ∀ j, j < 4 → (itcs I)[i * 4 + j]? = (itc y)[j]?
  | [], i, x, h, _, _ => by simp at h
  | y :: t, 0, x, h, j, hj => by
    simp at h
    subst h
    show ((itc y ++ itcs t))[0 * 4 + j]? = _
    rw [List.getElem?_append_left (by show 0 * 4 + j < 4; omega)]
    simp
  | y :: t, i + 1, x, h, j, hj => by
    simp at h
    show ((itc y ++ itcs t))[(i + 1) * 4 + j]? = _
    rw [List.getElem?_append_right (by show 4 ≤ (i + 1) * 4 + j; omega)]
    have : (i + 1) * 4 + j - (itc y).length = i * 4 + j := by show (i + 1) * 4 + j - 4 = i * 4 + j; omega
    rw [this]
    exact itflat_at t i x h j hj
theorem itAt_of {w0 W : World} {v : Value} {I : List It} (h : Ik w0 W v I) : ItAt W v I := by
  obtain ⟨⟨h1, ⟨rfl, h2⟩ | ⟨g, cap, cur, rfl, hb, hg, hn, hc, hz, ht⟩⟩, -⟩ := h
  · exact ⟨none, 0, by rw [h2], fun h0 => by omega⟩
  · refine ⟨some ⟨g, 0, none⟩, cap, rfl, fun _ => ⟨g, rfl, (Array.getElem?_eq_some_iff.1 hg).1, fun i x hx => ?_⟩⟩
    have hi : i < I.length := (List.getElem?_eq_some_iff.1 hx).1
    have hcell : ∀ j, j < 4 → W.cell? ⟨g, i * 4 + j, none⟩ = (itc x)[j]? := fun j hj => by
      rw [cell_of_row W g _ _ _ _ hg, ← itflat_at I i x hx j hj, ← ht, List.getElem?_take_of_lt (by omega), Array.getElem?_toList]
    exact ⟨hcell 0 (by omega), hcell 1 (by omega), hcell 2 (by omega), hcell 3 (by omega)⟩
theorem ik_cap {w0 W : World} {a : Option Addr} {n cap : Nat} {I : List It} (h : Ik w0 W (.slice a n cap) I) : n ≤ cap ∧ cap ≤ maxLen := by
  obtain ⟨⟨h1, ⟨e, h2⟩ | ⟨g, cap', cur, e, hb, hg, hn, hc, hz, ht⟩⟩, -⟩ := h
  · simp only [Value.slice.injEq] at e
    obtain ⟨-, rfl, rfl⟩ := e
    exact ⟨Nat.le_refl _, Nat.zero_le _⟩
  · simp only [Value.slice.injEq] at e
    obtain ⟨-, rfl, rfl⟩ := e
    exact ⟨hn, hc⟩
end Go.Proofs.Ytaaijenbcfjdlaa
