/-
  A row of one, two, three documents that was just made.
-/
import Derived.Test.YtnmpapmjkihfcaaDocMade
set_option linter.all false
namespace Go.Proofs.Ytnmpapmjkihfcaa
open Go.RowKit Go.PlainAid

/-- Four cells of a document. -/
def d4 (k n : Int) (t : ByteArray) (lv : Value) : List Value := [.int .i64 k, .int .i64 n, .string t, lv]
theorem row_any {W : World} {g : Nat} {row : Array Value} {ty : TypeId} {fr : Nat × Nat} (h : W.heap[g]? = some (.cells row ty fr)) (l : List Dc) (cs : Nat → List Value)
    {P : Nat → Prop} (hp : P g) (hn : l.length ≤ maxLen) (hcs : ∀ i x, l[i]? = some x → DcIn W P (cs i) x)
    (hr : ∀ i, i < l.length → ∀ j x, (cs i)[j]? = some x → row[i * 4 + j]? = some x) :
    DrIn W P (.slice (some ⟨g, 0, none⟩) l.length l.length) l := by
  have hg : g < W.heap.size := lt_of_block h
  refine ⟨cs, ⟨_, _, rfl, Nat.le_refl _, hn, fun _ => ⟨g, 0, rfl, hp, hg, fun i hi j x hj => ?_⟩⟩, hcs⟩
  rw [cell_of_row W _ _ _ _ _ h, Nat.zero_add]
  exact hr i hi j x hj
theorem row1 {W : World} {g : Nat} {k n : Int} {t : ByteArray} {lv : Value} {x : Dc} {ty : TypeId} {fr : Nat × Nat} {P : Nat → Prop} (hp : P g) (h : W.heap[g]? = some (.cells #[.int .i64 k, .int .i64 n, .string t, lv] ty fr)) (hd : DcIn W P [.int .i64 k, .int .i64 n, .string t, lv] x) :
    DrIn W P (.slice (some ⟨g, 0, none⟩) 1 1) [x] := by
  refine row_any h [x] (fun _ => [.int .i64 k, .int .i64 n, .string t, lv]) hp (by simp [maxLen]) (fun i y hy => ?_) (fun i hi j y hj => ?_)
  · match i, hy with
    | 0, hy => cases hy; exact hd
    | i + 1, hy => simp at hy
  · have hj7 : j < 4 := (List.getElem?_eq_some_iff.1 hj).1
    match i, hi with
    | 0, _ =>
      match j, hj7, hj with
      | 0, _, hj | 1, _, hj | 2, _, hj | 3, _, hj => exact hj
theorem row2 {W : World} {g : Nat} {k n : Int} {t : ByteArray} {lv : Value} {x : Dc} {k2 n2 : Int} {t2 : ByteArray} {lv2 : Value} {x2 : Dc} {ty : TypeId} {fr : Nat × Nat} {P : Nat → Prop} (hp : P g) (h : W.heap[g]? = some (.cells #[.int .i64 k, .int .i64 n, .string t, lv, .int .i64 k2, .int .i64 n2, .string t2, lv2] ty fr)) (hd : DcIn W P [.int .i64 k, .int .i64 n, .string t, lv] x) (hd2 : DcIn W P [.int .i64 k2, .int .i64 n2, .string t2, lv2] x2) :
    DrIn W P (.slice (some ⟨g, 0, none⟩) 2 2) [x, x2] := by
  refine row_any h [x, x2] (fun i => if i = 0 then [.int .i64 k, .int .i64 n, .string t, lv] else [.int .i64 k2, .int .i64 n2, .string t2, lv2]) hp (by simp [maxLen]) (fun i y hy => ?_) (fun i hi j y hj => ?_)
  · match i, hy with
    | 0, hy => cases hy; exact hd
    | 1, hy => cases hy; exact hd2
    | i + 2, hy => simp at hy
  · match i, hi with
    | 0, _ =>
      have hj7 : j < 4 := (List.getElem?_eq_some_iff.1 hj).1
      match j, hj7, hj with
      | 0, _, hj | 1, _, hj | 2, _, hj | 3, _, hj => exact hj
    | 1, _ =>
      have hj7 : j < 4 := (List.getElem?_eq_some_iff.1 hj).1
      match j, hj7, hj with
      | 0, _, hj | 1, _, hj | 2, _, hj | 3, _, hj => exact hj
theorem row3 {W : World} {g : Nat} {k n : Int} {t : ByteArray} {lv : Value} {x : Dc} {k2 n2 : Int} {t2 : ByteArray} {lv2 : Value} {x2 : Dc} {k3 n3 : Int} {t3 : ByteArray} {lv3 : Value} {x3 : Dc} {ty : TypeId} {fr : Nat × Nat} {P : Nat → Prop} (hp : P g) (h : W.heap[g]? = some (.cells #[.int .i64 k, .int .i64 n, .string t, lv, .int .i64 k2, .int .i64 n2, .string t2, lv2, .int .i64 k3, .int .i64 n3, .string t3, lv3] ty fr)) (hd : DcIn W P [.int .i64 k, .int .i64 n, .string t, lv] x) (hd2 : DcIn W P [.int .i64 k2, .int .i64 n2, .string t2, lv2] x2) (hd3 : DcIn W P [.int .i64 k3, .int .i64 n3, .string t3, lv3] x3) :
    DrIn W P (.slice (some ⟨g, 0, none⟩) 3 3) [x, x2, x3] := by
  refine row_any h [x, x2, x3] (fun i => if i = 0 then [.int .i64 k, .int .i64 n, .string t, lv] else if i = 1 then [.int .i64 k2, .int .i64 n2, .string t2, lv2] else [.int .i64 k3, .int .i64 n3, .string t3, lv3]) hp (by simp [maxLen]) (fun i y hy => ?_) (fun i hi j y hj => ?_)
  · match i, hy with
    | 0, hy => cases hy; exact hd
    | 1, hy => cases hy; exact hd2
    | 2, hy => cases hy; exact hd3
    | i + 3, hy => simp at hy
  · match i, hi with
    | 0, _ =>
      have hj7 : j < 4 := (List.getElem?_eq_some_iff.1 hj).1
      match j, hj7, hj with
      | 0, _, hj | 1, _, hj | 2, _, hj | 3, _, hj => exact hj
    | 1, _ =>
      have hj7 : j < 4 := (List.getElem?_eq_some_iff.1 hj).1
      match j, hj7, hj with
      | 0, _, hj | 1, _, hj | 2, _, hj | 3, _, hj => exact hj
    | 2, _ =>
      have hj7 : j < 4 := (List.getElem?_eq_some_iff.1 hj).1
      match j, hj7, hj with
      | 0, _, hj | 1, _, hj | 2, _, hj | 3, _, hj => exact hj
/-- A document's empty row. -/
theorem leaf_at (W : World) (P : Nat → Prop) (k n : Int) (t : ByteArray) : DcIn W P [.int .i64 k, .int .i64 n, .string t, .slice none 0 0] (.mk k n t []) :=
  .mk k n t [] _ (fun _ => []) ⟨none, 0, rfl, Nat.le_refl _, Nat.zero_le _, fun h => absurd h (by simp)⟩ (fun i x hx => by simp at hx)
/-- No parts: of every kind, in every world. -/
theorem DcIn.bare {W W' : World} {P Q : Nat → Prop} {c : List Value} {k n : Int} {t : ByteArray} (h : DcIn W P c (.mk k n t [])) : DcIn W' Q c (.mk k n t []) := by
  obtain ⟨lv, cs, rfl, ⟨a, cap, rfl, h1, h2, -⟩, -⟩ := h.inv
  exact .mk k n t [] _ (fun _ => []) ⟨a, cap, rfl, h1, h2, fun h => absurd h (by simp)⟩ (fun i x hx => by simp at hx)
/-- A maker's answer, its row opened: as a slice. -/
def MdS (W : World) (P : Nat → Prop) (k n : Int) (t : ByteArray) (l : List Dc) (e : Ending) (w' : World) : Prop := ∃ a cap, e = .returned (.agg #[.int .i64 k, .int .i64 n, .string t, .slice a l.length cap]) ∧ Below W.heap.size W w' ∧ DcIn w' (fun g => P g ∨ W.heap.size ≤ g) [.int .i64 k, .int .i64 n, .string t, .slice a l.length cap] (.mk k n t l)
theorem MdA.sl {W : World} {P : Nat → Prop} {k n : Int} {t : ByteArray} {l : List Dc} {e : Ending} {w' : World} (h : MdA W P (.mk k n t l) e w') : MdS W P k n t l e w' := by
  obtain ⟨lv, h1, h2, h3⟩ := h
  obtain ⟨lv', cs, e1, ⟨a, cap, e2, -⟩, -⟩ := h3.inv
  simp only [dkd, dnn, dtx, List.cons.injEq, and_true, true_and] at e1
  subst e1; subst e2
  exact ⟨a, cap, h1, h2, h3⟩
theorem DcIn.down {W W' : World} {c : List Value} {x : Dc} (h : DcAt W c x) (hb : Below W.heap.size W W') : DcAt W' c x :=
  (h.keep (keeps_below hb)).wide (fun g hg _ => hg)
/-- Not in a block made later. -/
theorem DcIn.fresh {W W' : World} {P : Nat → Prop} {c : List Value} {x : Dc} {y : Nat} (h : DcIn W P c x) (hb : Below W.heap.size W W') (hy : W.heap.size ≤ y) : DcIn W' (fun g => g ≠ y) c x :=
  ((h.wide (Q := fun g => g ≠ y) (fun g hg _ => by omega)).keep (keeps_below hb))
/-- A kind by a maker: not this block. -/
theorem MdS.off {W : World} {P : Nat → Prop} {k n : Int} {t : ByteArray} {l : List Dc} {e : Ending} {w' : World} {y : Nat} (h : MdS W P k n t l e w') (hP : ∀ g, P g → g ≠ y) (hy : y < W.heap.size) :
    ∃ a cap, e = .returned (.agg #[.int .i64 k, .int .i64 n, .string t, .slice a l.length cap]) ∧ Below W.heap.size W w' ∧ DcIn w' (fun g => g ≠ y) [.int .i64 k, .int .i64 n, .string t, .slice a l.length cap] (.mk k n t l) := by
  obtain ⟨a, cap, h1, h2, h3⟩ := h
  exact ⟨a, cap, h1, h2, h3.wide (fun g _ h => h.elim (hP g) (fun h => by omega))⟩
end Go.Proofs.Ytnmpapmjkihfcaa
