/-
  Trees that a function builds: their rows lie in blocks of a kind (P); what leaves those blocks leaves the tree.
-/
import Derived.Test.YtbjgoigdhijbgaaDoorTreeMath
set_option linter.all false
namespace Go.Proofs.YtbjgoigdhijbgaaDoor
open Go.RowKit Go.PlainAid

/-- W' has all blocks of the kind as W had them. -/
def Keeps (P : Nat → Prop) (W W' : World) : Prop := W.heap.size ≤ W'.heap.size ∧ ∀ g, P g → g < W.heap.size → W'.heap[g]? = W.heap[g]?
theorem Keeps.refl (P : Nat → Prop) (W : World) : Keeps P W W := ⟨Nat.le_refl _, fun _ _ _ => rfl⟩
theorem Keeps.trans {P : Nat → Prop} {A B C : World} (h : Keeps P A B) (k : Keeps P B C) : Keeps P A C :=
  ⟨Nat.le_trans h.1 k.1, fun g hp hg => (k.2 g hp (Nat.lt_of_lt_of_le hg h.1)).trans (h.2 g hp hg)⟩
theorem keeps_below {P : Nat → Prop} {W W' : World} (hb : Below W.heap.size W W') : Keeps P W W' := ⟨hb.size, fun g _ hg => hb.block g hg⟩
theorem keeps_set {P : Nat → Prop} (W : World) {B : Nat} (hB : ¬ P B) (i : Nat) (u : Value) : Keeps P W (W.setCell ⟨B, i, none⟩ u) :=
  ⟨by simp, fun g hp _ => Below.heap_setCell _ _ _ _ (by intro e; exact hB (by have e : g = B := e; rw [← e]; exact hp))⟩
theorem keeps_cell {P : Nat → Prop} {W W' : World} (h : Keeps P W W') {g j : Nat} (hp : P g) (hg : g < W.heap.size) : W'.cell? ⟨g, j, none⟩ = W.cell? ⟨g, j, none⟩ := by
  unfold World.cell?
  simp only
  rw [h.2 g hp hg]
/-- A row of texts in a block of the kind. -/
def StIn (W : World) (P : Nat → Prop) (v : Value) (L : List ByteArray) : Prop :=
  ∃ a cap, v = .slice a L.length cap ∧ (0 < L.length → ∃ g o, a = some ⟨g, o, none⟩ ∧ P g ∧ g < W.heap.size ∧ ∀ i x, L[i]? = some x → W.cell? ⟨g, o + i, none⟩ = some (.string x))
theorem StIn.at {W : World} {P : Nat → Prop} {v : Value} {L : List ByteArray} (h : StIn W P v L) : StAt W v L := by
  obtain ⟨a, cap, h1, h2⟩ := h
  refine ⟨a, cap, h1, fun h0 => ?_⟩
  obtain ⟨g, o, g1, -, g3, g4⟩ := h2 h0
  exact ⟨g, o, g1, g3, g4⟩
theorem StIn.keep {W W' : World} {P : Nat → Prop} (hk : Keeps P W W') {v : Value} {L : List ByteArray} (h : StIn W P v L) : StIn W' P v L := by
  obtain ⟨a, cap, h1, h2⟩ := h
  refine ⟨a, cap, h1, fun h0 => ?_⟩
  obtain ⟨g, o, g1, g2, g3, g4⟩ := h2 h0
  exact ⟨g, o, g1, g2, Nat.lt_of_lt_of_le g3 hk.1, fun i x hx => (keeps_cell hk g2 g3).trans (g4 i x hx)⟩
/-- A row of nodes in a block of the kind. -/
def SlIn (W : World) (P : Nat → Prop) (v : Value) (n : Nat) (cs : Nat → List Value) : Prop :=
  ∃ a cap, v = .slice a n cap ∧ (0 < n → ∃ g o, a = some ⟨g, o, none⟩ ∧ P g ∧ g < W.heap.size ∧ ∀ i, i < n → ∀ j x, (cs i)[j]? = some x → W.cell? ⟨g, o + i * 7 + j, none⟩ = some x)
theorem SlIn.at {W : World} {P : Nat → Prop} {v : Value} {n : Nat} {cs : Nat → List Value} (h : SlIn W P v n cs) : SlAt W v n cs := by
  obtain ⟨a, cap, h1, h2⟩ := h
  refine ⟨a, cap, h1, fun h0 => ?_⟩
  obtain ⟨g, o, g1, -, g3, g4⟩ := h2 h0
  exact ⟨g, o, g1, g3, g4⟩
theorem SlIn.keep {W W' : World} {P : Nat → Prop} (hk : Keeps P W W') {v : Value} {n : Nat} {cs : Nat → List Value} (h : SlIn W P v n cs) : SlIn W' P v n cs := by
  obtain ⟨a, cap, h1, h2⟩ := h
  refine ⟨a, cap, h1, fun h0 => ?_⟩
  obtain ⟨g, o, g1, g2, g3, g4⟩ := h2 h0
  exact ⟨g, o, g1, g2, Nat.lt_of_lt_of_le g3 hk.1, fun i hi j x hx => (keeps_cell hk g2 g3).trans (g4 i hi j x hx)⟩
/-- These cells are that tree, whose rows lie in blocks of the kind. -/
inductive NdIn (W : World) (P : Nat → Prop) : List Value → Nd → Prop where
  | mk (k : Int) (t : ByteArray) (l : List Nd) (br bl : Bool) (no ta : List ByteArray) (lv nv tv : Value) (cs : Nat → List Value) (hn : StIn W P nv no) (ht : StIn W P tv ta) (hl : SlIn W P lv l.length cs) (hc : ∀ i x, l[i]? = some x → NdIn W P (cs i) x) :
    NdIn W P [.int .i64 k, .string t, lv, .bool br, .bool bl, nv, tv] (.mk k t l br bl no ta)
theorem NdIn.nd {W : World} {P : Nat → Prop} {c : List Value} {n : Nd} (h : NdIn W P c n) : NdAt W c n := by
  induction h with
  | mk k t l br bl no ta lv nv tv cs hn ht hl hc ih => exact .mk k t l br bl no ta lv nv tv cs hn.at ht.at hl.at ih
theorem NdIn.keep {W W' : World} {P : Nat → Prop} (hk : Keeps P W W') {c : List Value} {n : Nd} (h : NdIn W P c n) : NdIn W' P c n := by
  induction h with
  | mk k t l br bl no ta lv nv tv cs hn ht hl hc ih => exact .mk k t l br bl no ta lv nv tv cs (hn.keep hk) (ht.keep hk) (hl.keep hk) ih
end Go.Proofs.YtbjgoigdhijbgaaDoor
