/-
  Behind the loop that fills both pools: what the document's holds is put again.
-/
import Derived.Test.YtkngnkonddpbeaaPoolTwo
namespace Go.Proofs.Ytkngnkonddpbeaa
open Go.RowKit Go.PlainAid

/-- The program's pool p holds xs; the document's, in block b, too, in blocks of the kind G, which stand. -/
def Tl (PA : World → (Nat → Prop) → (Nat → Prop) → Value → List Nd → Prop) (w : World) (G : Nat → Prop) (b : Nat) (p v : Value) (xs : List Nd) (W : World) : Prop :=
  ∃ F : Nat → Prop, PA W G F p xs ∧ (∀ k, G k → ¬ F k ∧ k < W.heap.size) ∧ (∀ k, F k → w.heap.size ≤ k) ∧ Pk xs ∧ (∀ y ∈ xs, OkQ y) ∧ G b ∧ W.heap[b]? = some (.cells #[v] 28) ∧ OwnN W G b v xs ∧ Below w.heap.size w W
section
variable {PA : World → (Nat → Prop) → (Nat → Prop) → Value → List Nd → Prop} {w : World} {b : Nat} {p v : Value} {xs : List Nd} {W : World} {G : Nat → Prop}
theorem Tw.tail (I : PoolI PA) (h : Tw PA w b p v xs xs W) : ∃ G, Tl PA w G b p v xs W := by
  obtain ⟨F, h1, h2, h3, h4, h5, h6, h7, h8, h9⟩ := h
  refine ⟨fun k => ¬ F k ∧ k < W.heap.size, F, I.more h1 (fun k hk => ⟨fun hf => by have := (h2 k hf).1; have hk : k < w.heap.size := hk; omega, by have hk : k < w.heap.size := hk; have := h9.size; omega⟩), fun k hk => hk, fun k hk => (h2 k hk).1, h3, h4, ⟨fun hf => (h2 b hf).2 rfl, lt_of_block h6⟩, h6, h7.weak (fun k hk hl => ⟨hk.2, hl⟩) (Nat.le_refl _), h9⟩
theorem Tl.below (I : PoolI PA) (h : Tl PA w G b p v xs W) {W' : World} (hb : Below W.heap.size W W') : Tl PA w G b p v xs W' := by
  obtain ⟨F, h1, h2, h3, h4, h5, h6, h7, h8, h9⟩ := h
  exact ⟨F, I.keep h1 ⟨hb.size, fun k _ hl => hb.block k hl⟩, fun k hk => ⟨(h2 k hk).1, Nat.lt_of_lt_of_le (h2 k hk).2 hb.size⟩, h3, h4, h5, h6, (hb.block _ (lt_of_block h7)).trans h7, h8.below hb, h9.trans (hb.mono h9.size)⟩
theorem Tl.cell (h : Tl PA w G b p v xs W) : W.cell? ⟨b, 0, none⟩ = some v := by
  obtain ⟨F, h1, h2, h3, h4, h5, h6, h7, h8⟩ := h
  exact cell_of_one h7
theorem Tl.bel (h : Tl PA w G b p v xs W) : Below w.heap.size w W := by
  obtain ⟨F, h1, h2, h3, h4, h5, h6, h7, h8, h9⟩ := h
  exact h9
theorem Tl.own (h : Tl PA w G b p v xs W) : OwnN W G b v xs := by
  obtain ⟨F, h1, h2, h3, h4, h5, h6, h7, h8, h9⟩ := h
  exact h8
theorem Tl.put (I : PoolI PA) (h : Tl PA w G b p v xs W) {i : Nat} {x : Nd} {c : List Value} (hx : xs[i]? = some x) (hn : NdIn W G c x) (hl : xs.length + cnt x ≤ 50000) :
    Calls Try.prog 10 #[p, .agg c.toArray] W fun e W' => e = .returned (.int .i64 ((i + 1 : Nat) : Int)) ∧ Tl PA w G b p v xs W' ∧ Keeps G W W' := by
  obtain ⟨F, h1, h2, h3, h4, h5, h6, h7, h8, h9⟩ := h
  have ho := h5 x (List.mem_of_getElem? hx)
  have h := I.put W G F p xs x c h1 h4 (fun y hy => (h5 y hy).p) hn h2 ho.p hl
  rw [pad_same x xs h4 (has_iff.2 ⟨i, x, hx, lk_refl' false x⟩), pidx_has h4 hx (lk_refl' false x)] at h
  refine h.mono ?_
  rintro e W' ⟨rfl, F', g1, g2, g3, g4⟩
  have hk : Keeps G W W' := ⟨g3.1, fun k hk hl => g3.2 k (h2 k hk).1 hl⟩
  refine ⟨rfl, ⟨F', g1, fun k hk' => ⟨fun hf => ?_, Nat.lt_of_lt_of_le (h2 k hk').2 g3.1⟩, fun k hf => ?_, h4, h5, h6, (hk.2 b h6 (lt_of_block h7)).trans h7, h8.keepP hk, h9.trans (g4 _ h3 h9.size)⟩, hk⟩
  · rcases g2 k hf with h | h
    · exact (h2 k hk').1 h
    · have := (h2 k hk').2; omega
  · rcases g2 k hf with h | h
    · exact h3 k h
    · have := h9.size; omega
theorem Tl.live (h : Tl PA w G b p v xs W) {j : Nat} (hj : G j) : j < W.heap.size := by
  obtain ⟨F, h1, h2, -⟩ := h
  exact (h2 j hj).2
theorem Tl.nodes (h : Tl PA w G b p v xs W) : ∀ y ∈ xs, OkQ y := by
  obtain ⟨F, h1, h2, h3, h4, h5, h6⟩ := h
  exact h5
theorem belK {W W' : World} {G : Nat → Prop} (hb : Below W.heap.size W W') : Keeps G W W' := ⟨hb.size, fun k _ hl => hb.block k hl⟩
theorem Tl.row (h : Tl PA w G b p v xs W) {q : Nat} {y : Nd} (hy : xs[q]? = some y) :
    ∃ g cap c, v = .slice (some ⟨g, 0, none⟩) xs.length cap ∧ G g ∧ W.rangeAt g (q * 7) c ∧ NdIn W G c y := by
  have ho := h.own
  obtain ⟨g, cap, c, rfl, h1, h2⟩ := ho.cells q y hy
  obtain ⟨css, -, -, -, h5⟩ := ho
  exact ⟨g, cap, c, rfl, h5 g rfl, h1, h2.weak (fun k hk _ => hk.1)⟩
theorem Tl.len (I : PoolI PA) (h : Tl PA w G b p v xs W) : Calls Try.prog 12 #[p] W fun e W' => e = .returned (.int .i64 (xs.length : Int)) ∧ Tl PA w G b p v xs W' := by
  have h' := h
  obtain ⟨F, h1, -⟩ := h
  exact (I.len W G F p xs h1).mono fun e W' ⟨g1, g2⟩ => ⟨g1, h'.below I g2⟩
theorem Tl.size (I : PoolI PA) (h : Tl PA w G b p v xs W) (id : Int) : Calls Try.prog 13 #[p, .int .i64 id] W fun e W' => e = .returned (.int .i64 (psz xs id : Int)) ∧ Tl PA w G b p v xs W' ∧ Below W.heap.size W W' := by
  have h' := h
  obtain ⟨F, h1, -⟩ := h
  exact (I.size W G F p xs id h1).mono fun e W' ⟨g1, g2⟩ => ⟨g1, h'.below I g2, g2⟩
end
theorem psz_at {xs : List Nd} {i : Nat} {x : Nd} (h : xs[i]? = some x) : psz xs ((i : Int) + 1) = cnt x := by
  have hi : i < xs.length := (List.getElem?_eq_some_iff.1 h).1
  unfold psz
  rw [if_pos ⟨by omega, by omega⟩, show ((i : Int) + 1).toNat - 1 = i by omega, h]
  rfl
theorem psz_zero (xs : List Nd) : psz xs 0 = 0 := by unfold psz; rw [if_neg (by omega)]
theorem psz_past (xs : List Nd) : psz xs ((xs.length : Int) + 1) = 0 := by unfold psz; rw [if_neg (by omega)]
end Go.Proofs.Ytkngnkonddpbeaa
