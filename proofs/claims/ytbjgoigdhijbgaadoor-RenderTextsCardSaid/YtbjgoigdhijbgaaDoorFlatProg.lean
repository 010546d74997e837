/-
  THE PROGRAM's Flat, Width and First: what they answer.
-/
import Derived.Test.YtbjgoigdhijbgaaDoorFlatUse
set_option linter.all false
namespace Go.Proofs.YtbjgoigdhijbgaaDoor
open Go.RowKit Go.PlainAid Go.Shelf

theorem fsum_le : ∀ (L : List Dc), (∀ x ∈ L, (dtx x).size ≤ 1048576) → fsum L ≤ L.length * 1048576
  | [], _ => Nat.zero_le _
  | x :: t, h => by
    have h1 := fsum_le t (fun y hy => h y (List.mem_cons_of_mem _ hy))
    have h2 := h x (List.mem_cons_self ..)
    have h3 := ct_le (dtx x) (dtx x).size 0 (by omega)
    simp only [fsum, List.length_cons]
    split <;> omega
/-! ### Flat's builder -/
/-- What its calls never turn. -/
def SfB (B b : Nat) (W : World) (g : Nat) : Prop := g ≠ b ∧ (g < B ∨ ∃ o, W.heap[g]? = some o ∧ ∀ c fz, o ≠ .cells c 5 fz)
structure JB (w0 : World) (B b : Nat) (pre : List Dc) (W : World) : Prop where
  hi : w0.heap.size ≤ B
  bel : Below w0.heap.size w0 W
  lt : B ≤ W.heap.size
  bld : Lib.IsBuilderF 51 5 B b (Lib.byteCells (ctx pre).data.toList) W
theorem bld_block {T e : TypeId} {B b : Nat} {bs : List Value} {W : World} (h : Lib.IsBuilderF T e B b bs W) : ∃ p v, W.heap[b]? = some (.cells #[p, v] T (0, 0)) := by
  rcases h with ⟨_, v, hb, _⟩ | ⟨_, v, hb, _⟩
  · exact ⟨_, v, hb⟩
  · exact ⟨_, v, hb⟩
theorem bld_keep1 {T : TypeId} {B b : Nat} {p : Value} {bs : List Value} {A C : World} (h : Lib.BuilderAtF T 5 B b p bs A) (hk : ∀ g, g < A.heap.size → ¬ SfB B b A g → C.heap[g]? = A.heap[g]?) : Lib.BuilderAtF T 5 B b p bs C := by
  obtain ⟨hB, v, hb, ⟨h1, h2⟩, hne⟩ := h
  refine ⟨hB, v, (hk b (lt_of_block hb) (fun k => k.1 rfl)).trans hb, ⟨h1, ?_⟩, hne⟩
  rcases h2 with h2 | ⟨g, cap, cur, fz, rfl, h3, h4, h5⟩
  · exact .inl h2
  · refine .inr ⟨g, cap, cur, fz, rfl, h3, ?_, h5⟩
    rw [hk g (lt_of_block h4) (fun k => by
      rcases k.2 with k | ⟨o, ho, hn⟩
      · omega
      · rw [h4] at ho
        cases ho
        exact hn _ _ rfl)]
    exact h4
theorem bld_keep {T : TypeId} {B b : Nat} {bs : List Value} {A C : World} (h : Lib.IsBuilderF T 5 B b bs A) (hk : ∀ g, g < A.heap.size → ¬ SfB B b A g → C.heap[g]? = A.heap[g]?) : Lib.IsBuilderF T 5 B b bs C :=
  h.elim (fun h => .inl (bld_keep1 h hk)) (fun h => .inr (bld_keep1 h hk))
theorem tn_bld {B b : Nat} {A C : World} (hb : Below B A C) (ho : Lib.OthersKept 5 (some b) A C) : Tn (fun g => ¬ SfB B b A g) A C :=
  ⟨hb.os, hb.tape, hb.output, hb.size, fun g hg hm => by
    have hm := Classical.not_not.1 hm
    rcases hm.2 with h | ⟨o, h1, h2⟩
    · exact hb.block g h
    · rw [h1]
      exact ho g o h1 (fun e => hm.1 (by cases e; rfl)) h2⟩
theorem ctx_snoc : ∀ (L : List Dc) (x : Dc), ctx (L ++ [x]) = ctx L ++ wrt x
  | [], x => by show wrt x ++ (⟨#[]⟩ : ByteArray) = (⟨#[]⟩ : ByteArray) ++ wrt x; apply ByteArray.ext; simp
  | y :: t, x => by show wrt y ++ ctx (t ++ [x]) = (wrt y ++ ctx t) ++ wrt x; rw [ctx_snoc t x, ByteArray.append_assoc]
theorem ctx_le : ∀ (L : List Dc), (∀ x ∈ L, (wrt x).size ≤ 1048576) → (ctx L).size ≤ L.length * 1048576
  | [], _ => Nat.zero_le _
  | x :: t, h => by
    have h1 := ctx_le t (fun y hy => h y (List.mem_cons_of_mem _ hy))
    have h2 := h x (List.mem_cons_self ..)
    simp only [ctx, List.length_cons, ByteArray.size_append]
    omega
end Go.Proofs.YtbjgoigdhijbgaaDoor
