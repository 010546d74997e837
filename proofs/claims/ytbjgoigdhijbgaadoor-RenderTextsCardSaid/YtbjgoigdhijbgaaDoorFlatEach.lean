/-
  THE PROGRAM's way over the leaves of documents: flat.each, for any function that is called of each.
-/
import Derived.Test.YtbjgoigdhijbgaaDoorFlatMath
import Derived.Test.YtbjgoigdhijbgaaDoorDocProg
import Derived.Deep.LoopGhost
set_option linter.all false
namespace Go.Proofs.YtbjgoigdhijbgaaDoor
open Go.RowKit Go.PlainAid Go.Shelf

/-- A document's cells at a place. -/
def LfC (W : World) (x : Dc) (g o : Nat) : Prop := g < W.heap.size ∧ ∃ a cap, W.cell? ⟨g, o, none⟩ = some (.int .i64 (dkd x)) ∧ W.cell? ⟨g, o + 1, none⟩ = some (.int .i64 (dnn x)) ∧ W.cell? ⟨g, o + 2, none⟩ = some (.string (dtx x)) ∧ W.cell? ⟨g, o + 3, none⟩ = some (.slice a (dks x).length cap)
/-- What the function must do that is called of each leaf: J: what is so when these have come; Jx: when it has answered false. Sf: what it never turns. -/
structure DoC (K : FuncId) (b s : Nat) (Sf : World → Nat → Prop) (J Jx : List Dc → World → Prop) (Ls : List Dc) : Prop where
  en : ∀ args w, (callFunc K args).run Tryd.prog w = .ok (.enter K args) w
  loc : ∀ A B g, Sf A g → B.heap[g]? = A.heap[g]? → Sf B g
  ty : ∀ pre W g cs fr, J pre W → W.heap[g]? = some (.cells cs 22 fr) → Sf W g
  st : ∀ pre A B, J pre A → (∀ g, g < A.heap.size → ¬ Sf A g → B.heap[g]? = A.heap[g]?) → Below s A B → J pre B
  call : ∀ pre x rest W g o, pre ++ x :: rest = Ls → J pre W → Sf W g → LfC W x g o → Calls Tryd.prog K #[.pointer (some ⟨g, o, none⟩), .pointer (some ⟨b, 0, none⟩)] W fun e W' =>
    ∃ v, e = .returned (.bool v) ∧ (if v = true then J (pre ++ [x]) W' else Jx (pre ++ [x]) W') ∧ Tn (fun g => ¬ Sf W g) W W'
theorem tn_sf {Sf : World → Nat → Prop} (loc : ∀ A B g, Sf A g → B.heap[g]? = A.heap[g]? → Sf B g) {A B C : World} (h : Tn (fun g => ¬ Sf A g) A B) (k : Tn (fun g => ¬ Sf B g) B C) : Tn (fun g => ¬ Sf A g) A C :=
  ⟨k.os.trans h.os, k.tape.trans h.tape, k.output.trans h.output, Nat.le_trans h.size k.size, fun g hg hm => by
    have h1 := h.block g hg hm
    exact (k.block g (Nat.lt_of_lt_of_le hg h.size) (fun hk => hm (fun hs => hk (loc _ _ _ hs h1)))).trans h1⟩
/-- Blocks of one's own above a bound have turned alone. -/
theorem tn_hi {O : Nat → Prop} {A B C : World} (h : Tn O A B) (k : Below A.heap.size B C) : Tn O A C :=
  ⟨k.os.trans h.os, k.tape.trans h.tape, k.output.trans h.output, Nat.le_trans h.size k.size, fun g hg hm => (k.block g hg).trans (h.block g hg hm)⟩
theorem ownsRow_ty {W W' : World} {base : Nat} {e : TypeId} {size : Nat} {v : Value} {n : Nat} {xs : List Value} (h : W.ownsRow base e size v n xs) (hb : ∀ g cs fr, base ≤ g → W.heap[g]? = some (.cells cs e fr) → W'.heap[g]? = W.heap[g]?) : W'.ownsRow base e size v n xs := by
  obtain ⟨h1, h2 | ⟨g, cap, cur, rfl, h4, h5, h6⟩⟩ := h
  · exact ⟨h1, .inl h2⟩
  · exact ⟨h1, .inr ⟨g, cap, cur, rfl, h4, by rw [hb g _ _ h4 h5]; exact h5, h6⟩⟩
theorem Itr.keep2 {F : Nat} {W W' : World} {P : Nat → Prop} {b : Nat} {v : Value} {S : List (Value × List Dc)} (h : Itr F W P b v S) {Sf : World → Nat → Prop} (hm : Tn (fun g => ¬ Sf W g) W W') (hp : ∀ g, P g → Sf W g) (ht : ∀ g cs fr, W.heap[g]? = some (.cells cs 22 fr) → Sf W g) : Itr F W' P b v S :=
  ⟨ownsRow_ty h.row (fun g cs fr _ hg => hm.block g (lt_of_block hg) (fun ho => ho (ht g cs fr hg))), fun f hf => (h.ok f hf).keep (tn_keeps hm (fun g hg ho => ho (hp g hg))), h.few, h.pp⟩
/-- The open lists' own row is none of what the function owns. -/
theorem Itr.rowty {F : Nat} {W : World} {P : Nat → Prop} {b : Nat} {g n c : Nat} {S : List (Value × List Dc)} (h : Itr F W P b (.slice (some ⟨g, 0, none⟩) n c) S) (hn : 0 < S.length) : ∃ cs fr, W.heap[g]? = some (.cells cs 22 fr) := by
  obtain ⟨-, ⟨h0, -⟩ | ⟨g', cap', cur, hv, -, hg, -⟩⟩ := h.row
  · simp at h0
  · simp only [Value.slice.injEq, Option.some.injEq, Addr.mk.injEq, and_true] at hv
    obtain ⟨rfl, -⟩ := hv
    exact ⟨_, _, hg⟩
theorem DIn.lf {W : World} {P : Nat → Prop} {g o : Nat} {x : Dc} (h : DIn W P g o x) : LfC W x g o := by
  cases x with
  | mk k n t l =>
    obtain ⟨a, cap, h0, h1, h2, h3, -⟩ := h.open
    exact ⟨h.2.1, a, cap, h0, h1, h2, h3⟩
end Go.Proofs.YtbjgoigdhijbgaaDoor
