/-
  The document's own answers for package word (galleyref1's Letter, Digit, Inner, Begins, Reserved, Plain) are the same.
-/
import Derived.Test.YtjenofochgcjmaaDoorWordWalks
import Derived.Test.YtjenofochgcjmaaDoorAid
namespace Go.Proofs.YtjenofochgcjmaaDoor
open Go.RowKit Go.PlainAid

/-- The letters and digits of ASCII. -/
def letB (c : Int) : Bool := decide (97 ≤ c) && decide (c ≤ 122) || decide (65 ≤ c) && decide (c ≤ 90)
def digB (c : Int) : Bool := decide (48 ≤ c) && decide (c ≤ 57)
theorem inn_ref (c : Int) : inn c = (letB c || digB c || c == 95 || c == 64) := by
  unfold inn beg letB digB
  split
  · rename_i h; simp [h.1, h.2]
  · rename_i h
    split
    · rename_i h1
      rcases h1 with ⟨h1, h2⟩ | h1
      · simp [h1, h2]
      · subst h1; rfl
    · rename_i h1
      split
      · rename_i h2; simp [h2.1, h2.2]
      · rename_i h2
        have a1 : (decide (97 ≤ c) && decide (c ≤ 122)) = false := by rw [← Bool.decide_and]; exact decide_eq_false h
        have a2 : (decide (65 ≤ c) && decide (c ≤ 90)) = false := by rw [← Bool.decide_and]; exact decide_eq_false fun h => h1 (.inl h)
        have a3 : (decide (48 ≤ c) && decide (c ≤ 57)) = false := by rw [← Bool.decide_and]; exact decide_eq_false h2
        have a4 : (c == 95) = false := beq_false_of_ne fun h => h1 (.inr h)
        rw [a1, a2, a3, a4]; rfl
/-- The words lie in a block of their own. -/
def WordsAt (w w' : World) : Prop := (∀ k, k < 24 → w'.cell? ⟨w.heap.size, k, none⟩ = some (.string (wd k))) ∧ Below w.heap.size w w'
theorem words_at (w : World) (cs : Array Value) (t : TypeId) (h : cs = (ws.map fun l => Value.string ⟨l.toArray⟩).toArray) : WordsAt w (w.alloc (.cells cs t)) := by
  refine ⟨fun k hk => ?_, (Below.refl _ _).alloc (Nat.le_refl _) _⟩
  rw [World.cell?_alloc_new, h]
  unfold wd
  have hk' : k < ws.length := hk
  simp [List.getD_eq_getElem?_getD, List.getElem?_eq_getElem hk']
end Go.Proofs.YtjenofochgcjmaaDoor
