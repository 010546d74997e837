/-
  THE PROGRAM's walker: what it calls of each node that is left.
-/
import Derived.Test.YtkdaombcbcegfaaTreeWalker
namespace Go.Proofs.Ytkdaombcbcegfaa
open Go.RowKit Go.PlainAid

def hd : List Fr → Option Addr
  | [] => none
  | f :: _ => some ⟨f.g, f.o, none⟩
/-- What is called for each node that is left (function K, with what it has captured): it brings J from T to T and that node's Tail, and turns only what is its own. -/
structure Lv (P : Nat → Prop) (K : Nat) (cp : Array Value) (Q : List ByteArray) (J : World → (Nat → Prop) → List ByteArray → Prop) : Prop where
  keep : ∀ W W' M T, J W M T → W.heap.size ≤ W'.heap.size → (∀ g, M g → W'.heap[g]? = W.heap[g]?) → J W' M T
  lt : ∀ W M T, J W M T → ∀ g, M g → g < W.heap.size
  go : ∀ W M T g o x, J W M T → NIn W P g o x → (∀ g, P g → ¬ M g) → (∃ Z, T ++ tla x ++ Z = Q) →
    Calls Try.prog K (#[.pointer (some ⟨g, o, none⟩)] ++ cp) W fun e W' => e = .returned (.tuple #[]) ∧ ∃ M', J W' M' (T ++ tla x) ∧ Mv M W M' W'
end Go.Proofs.Ytkdaombcbcegfaa
