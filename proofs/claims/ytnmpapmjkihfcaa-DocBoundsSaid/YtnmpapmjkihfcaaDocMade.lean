/-
  THE PROGRAM's makers of documents.
-/
import Derived.Test.YtnmpapmjkihfcaaDocOwnW
import Derived.Test.YtnmpapmjkihfcaaDocProg
import Derived.Laws.Rows
set_option linter.all false
namespace Go.Proofs.Ytnmpapmjkihfcaa
open Go.RowKit Go.PlainAid

/-- What a maker answers: a document of these parts. -/
def MdA (W : World) (P : Nat → Prop) (x : Dc) (e : Ending) (w' : World) : Prop := ∃ lv, e = .returned (.agg #[.int .i64 (dkd x), .int .i64 (dnn x), .string (dtx x), lv]) ∧ Below W.heap.size W w' ∧ DcIn w' (fun g => P g ∨ W.heap.size ≤ g) [.int .i64 (dkd x), .int .i64 (dnn x), .string (dtx x), lv] x
theorem DrIn.dc {W : World} {P : Nat → Prop} {v : Value} {l : List Dc} (h : DrIn W P v l) (k n : Int) (t : ByteArray) : DcIn W P [.int .i64 k, .int .i64 n, .string t, v] (.mk k n t l) := by
  obtain ⟨cs, h1, h2⟩ := h
  exact .mk k n t l v cs h1 h2
/-- A block of four cells, its cells and what may be written. -/
theorem four_of {W : World} {g : Nat} {a b c d : Value} {ty : TypeId} (h : W.heap[g]? = some (.cells #[a, b, c, d] ty (0, 0))) :
    (W.cell? ⟨g, 0, none⟩ = some a ∧ W.cell? ⟨g, 1, none⟩ = some b ∧ W.cell? ⟨g, 2, none⟩ = some c ∧ W.cell? ⟨g, 3, none⟩ = some d) ∧ ∀ i, W.frozen? ⟨g, i, none⟩ = false :=
  ⟨⟨cell_of_row W g 0 _ _ _ h, cell_of_row W g 1 _ _ _ h, cell_of_row W g 2 _ _ _ h, cell_of_row W g 3 _ _ _ h⟩, fun i => frz_of h i⟩
theorem set_four {W : World} {g : Nat} {a b c d : Value} {ty : TypeId} (h : W.heap[g]? = some (.cells #[a, b, c, d] ty (0, 0))) (a' b' c' d' : Value) :
    ((((W.setCell ⟨g, 0, none⟩ a').setCell ⟨g, 1, none⟩ b').setCell ⟨g, 2, none⟩ c').setCell ⟨g, 3, none⟩ d').heap[g]? = some (.cells #[a', b', c', d'] ty (0, 0)) := by
  have h1 := heap_setCell_same W g 0 _ _ a' h
  have h2 := heap_setCell_same _ g 1 _ _ b' h1
  have h3 := heap_setCell_same _ g 2 _ _ c' h2
  have h4 := heap_setCell_same _ g 3 _ _ d' h3
  simpa using h4
theorem set_fourB {W : World} {g B : Nat} (hg : B ≤ g) (a' b' c' d' : Value) : Below B W ((((W.setCell ⟨g, 0, none⟩ a').setCell ⟨g, 1, none⟩ b').setCell ⟨g, 2, none⟩ c').setCell ⟨g, 3, none⟩ d') :=
  ((((Below.refl B W).setCell (p := ⟨g, 0, none⟩) hg _).setCell (p := ⟨g, 1, none⟩) hg _).setCell (p := ⟨g, 2, none⟩) hg _).setCell (p := ⟨g, 3, none⟩) hg _
set_option maxRecDepth 100000 in
set_option maxHeartbeats 4000000 in
theorem text_any (t : ByteArray) (ht : t.size ≤ 1048576) (w : World) (P : Nat → Prop) :
    Calls Try.prog 16 #[.string t] w fun e w' => MdA w P (.mk 1 0 t []) e w' := by
  have H := Lib.hid (fun W => clone_any t ht W)
  go_enter Try.func16, Try.ntmps16
  go_wp2_with fail
  refine (H.out _).mono ?_
  rintro e w1 ⟨rfl, hb1⟩
  have hrow : w1.heap[w.heap.size]? = some (.cells #[.int .i64 0, .int .i64 0, .string ⟨#[]⟩, .slice none 0 0] 24 (0, 0)) := by
    rw [hb1.block w.heap.size (by simp)]
    show (w.heap.push _)[w.heap.size]? = _
    rw [Array.getElem?_push, if_pos rfl]
  obtain ⟨⟨e0, e1, e2, e3⟩, ef⟩ := four_of hrow
  have HR := Lib.hid hrow
  have HB : Hid (Below w.heap.size w w1) := Lib.hid ((below1 w _).trans (hb1.mono (by simp)))
  have HS : Hid (w.heap.size < w1.heap.size) := Lib.hid (by have := hb1.size; simp at this; omega)
  clear hrow hb1
  go_wp2_with fail
  have hr := set_four HR.out (.int .i64 1) (.int .i64 0) (.string t) (.slice none 0 0)
  refine bodyPost_ret (v := .agg #[.int .i64 1, .int .i64 0, .string t, .slice none 0 0]) (results_cell_row rfl _ _ w.heap.size _ _ _ _ rfl hr Try.underlying24 rfl (by kernel_rfl)) rfl ?_
  have hbs := set_fourB (W := w1) (Nat.le_refl w.heap.size) (.int .i64 1) (.int .i64 0) (.string t) (.slice none 0 0)
  refine ⟨_, rfl, HB.out.trans hbs, ?_⟩
  exact .mk _ _ _ [] _ (fun _ => []) ⟨none, 0, rfl, Nat.le_refl _, Nat.zero_le _, fun h => absurd h (by simp)⟩ (fun i x hx => by simp at hx)
set_option maxRecDepth 100000 in
set_option maxHeartbeats 4000000 in
theorem nest_any (l : List Dc) (hl : dcntL l ≤ 100000) (hz : dtzL 1048576 l) (n : Int) (v : Value) (w : World) (P : Nat → Prop) (hP : ∀ g, P g → g < w.heap.size) (h : DrIn w P v l) :
    Calls Try.prog 18 #[.int .i64 n, v] w fun e w' => MdA w P (.mk 6 n ⟨#[]⟩ l) e w' := by
  have H := Lib.hid (fun W (hb : Below w.heap.size w W) => own_any l hl hz v W P (fun g hg => Nat.lt_of_lt_of_le (hP g hg) hb.size) (h.keep ⟨hb.size, fun g _ hl => hb.block g hl⟩))
  go_enter Try.func18, Try.ntmps18
  go_wp2_with fail
  refine (H.out _ (below1 _ _)).mono ?_
  rintro e w1 ⟨v2, rfl, hb1, ⟨a2, c2, rfl⟩, hd1⟩
  have HD : Hid (DrIn w1 (fun g => P g ∨ w.heap.size + 1 ≤ g) (.slice a2 l.length c2) l) := Lib.hid (hd1.wide (fun g _ hg => hg.imp id (fun h => by simpa using h)))
  clear hd1
  have hrow : w1.heap[w.heap.size]? = some (.cells #[.int .i64 0, .int .i64 0, .string ⟨#[]⟩, .slice none 0 0] 24 (0, 0)) := by
    rw [hb1.block w.heap.size (by simp)]
    show (w.heap.push _)[w.heap.size]? = _
    rw [Array.getElem?_push, if_pos rfl]
  obtain ⟨⟨e0, e1, e2, e3⟩, ef⟩ := four_of hrow
  have HR := Lib.hid hrow
  have HB : Hid (Below w.heap.size w w1) := Lib.hid ((below1 w _).trans (hb1.mono (by simp)))
  have HS : Hid (w.heap.size < w1.heap.size) := Lib.hid (by have := hb1.size; simp at this; omega)
  clear hrow hb1
  go_wp2_with fail
  have hr := set_four HR.out (.int .i64 6) (.int .i64 n) (.string ⟨#[]⟩) (.slice a2 l.length c2)
  refine bodyPost_ret (v := .agg #[.int .i64 6, .int .i64 n, .string ⟨#[]⟩, .slice a2 l.length c2]) (results_cell_row rfl _ _ w.heap.size _ _ _ _ rfl hr Try.underlying24 rfl (by kernel_rfl)) rfl ?_
  have hbs := set_fourB (W := w1) (Nat.le_refl w.heap.size) (.int .i64 6) (.int .i64 n) (.string ⟨#[]⟩) (.slice a2 l.length c2)
  refine ⟨_, rfl, HB.out.trans hbs, ?_⟩
  refine DcIn.wide (P := fun g => (P g ∨ w.heap.size + 1 ≤ g)) (fun g _ hg => hg.imp id (fun h => by omega)) (DcIn.keep ?_ (HD.out.dc 6 n ⟨#[]⟩))
  refine ⟨hbs.size, fun g hg hl => ?_⟩
  have hne : g ≠ w.heap.size := by rcases hg with hg | hg; exact Nat.ne_of_lt (hP g hg); omega
  rw [Below.heap_setCell _ _ _ _ hne, Below.heap_setCell _ _ _ _ hne, Below.heap_setCell _ _ _ _ hne, Below.heap_setCell _ _ _ _ hne]
set_option maxRecDepth 100000 in
set_option maxHeartbeats 4000000 in
theorem group_any (l : List Dc) (hl : dcntL l ≤ 100000) (hz : dtzL 1048576 l) (v : Value) (w : World) (P : Nat → Prop) (hP : ∀ g, P g → g < w.heap.size) (h : DrIn w P v l) :
    Calls Try.prog 19 #[v] w fun e w' => MdA w P (.mk 7 0 ⟨#[]⟩ l) e w' := by
  have H := Lib.hid (fun W (hb : Below w.heap.size w W) => own_any l hl hz v W P (fun g hg => Nat.lt_of_lt_of_le (hP g hg) hb.size) (h.keep ⟨hb.size, fun g _ hl => hb.block g hl⟩))
  go_enter Try.func19, Try.ntmps19
  go_wp2_with fail
  refine (H.out _ (below1 _ _)).mono ?_
  rintro e w1 ⟨v2, rfl, hb1, ⟨a2, c2, rfl⟩, hd1⟩
  have HD : Hid (DrIn w1 (fun g => P g ∨ w.heap.size + 1 ≤ g) (.slice a2 l.length c2) l) := Lib.hid (hd1.wide (fun g _ hg => hg.imp id (fun h => by simpa using h)))
  clear hd1
  have hrow : w1.heap[w.heap.size]? = some (.cells #[.int .i64 0, .int .i64 0, .string ⟨#[]⟩, .slice none 0 0] 24 (0, 0)) := by
    rw [hb1.block w.heap.size (by simp)]
    show (w.heap.push _)[w.heap.size]? = _
    rw [Array.getElem?_push, if_pos rfl]
  obtain ⟨⟨e0, e1, e2, e3⟩, ef⟩ := four_of hrow
  have HR := Lib.hid hrow
  have HB : Hid (Below w.heap.size w w1) := Lib.hid ((below1 w _).trans (hb1.mono (by simp)))
  have HS : Hid (w.heap.size < w1.heap.size) := Lib.hid (by have := hb1.size; simp at this; omega)
  clear hrow hb1
  go_wp2_with fail
  have hr := set_four HR.out (.int .i64 7) (.int .i64 0) (.string ⟨#[]⟩) (.slice a2 l.length c2)
  refine bodyPost_ret (v := .agg #[.int .i64 7, .int .i64 0, .string ⟨#[]⟩, .slice a2 l.length c2]) (results_cell_row rfl _ _ w.heap.size _ _ _ _ rfl hr Try.underlying24 rfl (by kernel_rfl)) rfl ?_
  have hbs := set_fourB (W := w1) (Nat.le_refl w.heap.size) (.int .i64 7) (.int .i64 0) (.string ⟨#[]⟩) (.slice a2 l.length c2)
  refine ⟨_, rfl, HB.out.trans hbs, ?_⟩
  refine DcIn.wide (P := fun g => (P g ∨ w.heap.size + 1 ≤ g)) (fun g _ hg => hg.imp id (fun h => by omega)) (DcIn.keep ?_ (HD.out.dc 7 0 ⟨#[]⟩))
  refine ⟨hbs.size, fun g hg hl => ?_⟩
  have hne : g ≠ w.heap.size := by rcases hg with hg | hg; exact Nat.ne_of_lt (hP g hg); omega
  rw [Below.heap_setCell _ _ _ _ hne, Below.heap_setCell _ _ _ _ hne, Below.heap_setCell _ _ _ _ hne, Below.heap_setCell _ _ _ _ hne]
set_option maxRecDepth 100000 in
set_option maxHeartbeats 4000000 in
theorem broken_any2 (l : List Dc) (hl : dcntL l ≤ 100000) (hz : dtzL 1048576 l) (v : Value) (w : World) (P : Nat → Prop) (hP : ∀ g, P g → g < w.heap.size) (h : DrIn w P v l) :
    Calls Try.prog 20 #[v] w fun e w' => MdA w P (.mk 7 1 ⟨#[]⟩ l) e w' := by
  have H := Lib.hid (fun W (hb : Below w.heap.size w W) => own_any l hl hz v W P (fun g hg => Nat.lt_of_lt_of_le (hP g hg) hb.size) (h.keep ⟨hb.size, fun g _ hl => hb.block g hl⟩))
  go_enter Try.func20, Try.ntmps20
  go_wp2_with fail
  refine (H.out _ (below1 _ _)).mono ?_
  rintro e w1 ⟨v2, rfl, hb1, ⟨a2, c2, rfl⟩, hd1⟩
  have HD : Hid (DrIn w1 (fun g => P g ∨ w.heap.size + 1 ≤ g) (.slice a2 l.length c2) l) := Lib.hid (hd1.wide (fun g _ hg => hg.imp id (fun h => by simpa using h)))
  clear hd1
  have hrow : w1.heap[w.heap.size]? = some (.cells #[.int .i64 0, .int .i64 0, .string ⟨#[]⟩, .slice none 0 0] 24 (0, 0)) := by
    rw [hb1.block w.heap.size (by simp)]
    show (w.heap.push _)[w.heap.size]? = _
    rw [Array.getElem?_push, if_pos rfl]
  obtain ⟨⟨e0, e1, e2, e3⟩, ef⟩ := four_of hrow
  have HR := Lib.hid hrow
  have HB : Hid (Below w.heap.size w w1) := Lib.hid ((below1 w _).trans (hb1.mono (by simp)))
  have HS : Hid (w.heap.size < w1.heap.size) := Lib.hid (by have := hb1.size; simp at this; omega)
  clear hrow hb1
  go_wp2_with fail
  have hr := set_four HR.out (.int .i64 7) (.int .i64 1) (.string ⟨#[]⟩) (.slice a2 l.length c2)
  refine bodyPost_ret (v := .agg #[.int .i64 7, .int .i64 1, .string ⟨#[]⟩, .slice a2 l.length c2]) (results_cell_row rfl _ _ w.heap.size _ _ _ _ rfl hr Try.underlying24 rfl (by kernel_rfl)) rfl ?_
  have hbs := set_fourB (W := w1) (Nat.le_refl w.heap.size) (.int .i64 7) (.int .i64 1) (.string ⟨#[]⟩) (.slice a2 l.length c2)
  refine ⟨_, rfl, HB.out.trans hbs, ?_⟩
  refine DcIn.wide (P := fun g => (P g ∨ w.heap.size + 1 ≤ g)) (fun g _ hg => hg.imp id (fun h => by omega)) (DcIn.keep ?_ (HD.out.dc 7 1 ⟨#[]⟩))
  refine ⟨hbs.size, fun g hg hl => ?_⟩
  have hne : g ≠ w.heap.size := by rcases hg with hg | hg; exact Nat.ne_of_lt (hP g hg); omega
  rw [Below.heap_setCell _ _ _ _ hne, Below.heap_setCell _ _ _ _ hne, Below.heap_setCell _ _ _ _ hne, Below.heap_setCell _ _ _ _ hne]
set_option maxRecDepth 100000 in
set_option maxHeartbeats 4000000 in
theorem cat_any (l : List Dc) (hl : dcntL l ≤ 100000) (hz : dtzL 1048576 l) (v : Value) (w : World) (P : Nat → Prop) (hP : ∀ g, P g → g < w.heap.size) (h : DrIn w P v l) :
    Calls Try.prog 17 #[v] w fun e w' => MdA w P (.mk 5 0 ⟨#[]⟩ l) e w' := by
  have H := Lib.hid (fun W (hb : Below w.heap.size w W) => own_any l hl hz v W P (fun g hg => Nat.lt_of_lt_of_le (hP g hg) hb.size) (h.keep ⟨hb.size, fun g _ hl => hb.block g hl⟩))
  go_enter Try.func17, Try.ntmps17
  go_wp2_with fail
  refine (H.out _ (below1 _ _)).mono ?_
  rintro e w1 ⟨v2, rfl, hb1, ⟨a2, c2, rfl⟩, hd1⟩
  have HD : Hid (DrIn w1 (fun g => P g ∨ w.heap.size + 1 ≤ g) (.slice a2 l.length c2) l) := Lib.hid (hd1.wide (fun g _ hg => hg.imp id (fun h => by simpa using h)))
  clear hd1
  have hrow : w1.heap[w.heap.size]? = some (.cells #[.int .i64 0, .int .i64 0, .string ⟨#[]⟩, .slice none 0 0] 24 (0, 0)) := by
    rw [hb1.block w.heap.size (by simp)]
    show (w.heap.push _)[w.heap.size]? = _
    rw [Array.getElem?_push, if_pos rfl]
  obtain ⟨⟨e0, e1, e2, e3⟩, ef⟩ := four_of hrow
  have HR := Lib.hid hrow
  have HB : Hid (Below w.heap.size w w1) := Lib.hid ((below1 w _).trans (hb1.mono (by simp)))
  have HS : Hid (w.heap.size < w1.heap.size) := Lib.hid (by have := hb1.size; simp at this; omega)
  clear hrow hb1
  go_wp2_with fail
  have hr := set_four HR.out (.int .i64 5) (.int .i64 0) (.string ⟨#[]⟩) (.slice a2 l.length c2)
  refine bodyPost_ret (v := .agg #[.int .i64 5, .int .i64 0, .string ⟨#[]⟩, .slice a2 l.length c2]) (results_cell_row rfl _ _ w.heap.size _ _ _ _ rfl hr Try.underlying24 rfl (by kernel_rfl)) rfl ?_
  have hbs := set_fourB (W := w1) (Nat.le_refl w.heap.size) (.int .i64 5) (.int .i64 0) (.string ⟨#[]⟩) (.slice a2 l.length c2)
  refine ⟨_, rfl, HB.out.trans hbs, ?_⟩
  refine DcIn.wide (P := fun g => (P g ∨ w.heap.size + 1 ≤ g)) (fun g _ hg => hg.imp id (fun h => by omega)) (DcIn.keep ?_ (HD.out.dc 5 0 ⟨#[]⟩))
  refine ⟨hbs.size, fun g hg hl => ?_⟩
  have hne : g ≠ w.heap.size := by rcases hg with hg | hg; exact Nat.ne_of_lt (hP g hg); omega
  rw [Below.heap_setCell _ _ _ _ hne, Below.heap_setCell _ _ _ _ hne, Below.heap_setCell _ _ _ _ hne, Below.heap_setCell _ _ _ _ hne]
end Go.Proofs.Ytnmpapmjkihfcaa
