/-
  The program's pool and the document's beside one another.
-/
import Derived.Test.YtkngnkonddpbeaaPoolDefs
import Derived.Test.YtkngnkonddpbeaaRefPut
namespace Go.Proofs.Ytkngnkonddpbeaa
open Go.RowKit Go.PlainAid

theorem OwnN.keepP {W W' : World} {P : Nat → Prop} {base : Nat} {v : Value} {T : List Nd} (h : OwnN W P base v T) (hk : Keeps P W W') : OwnN W' P base v T := by
  obtain ⟨css, h1, h2, ⟨h3, h4⟩, h5⟩ := h
  refine ⟨css, h1, fun i c x hc hx => (h2 i c x hc hx).keep ⟨hk.1, fun g hg hl => hk.2 g hg.1 hl⟩, ⟨h3, ?_⟩, h5⟩
  rcases h4 with h4 | ⟨g, cap, cur, rfl, k1, k2, k3⟩
  · exact .inl h4
  · exact .inr ⟨g, cap, cur, rfl, k1, (hk.2 g (h5 g rfl) (lt_of_block k2)).trans k2, k3⟩
theorem okQ_pad {xs : List Nd} (h : ∀ x ∈ xs, OkQ x) (n : Nd) (ho : OkQ n) : ∀ x ∈ pad n xs, OkQ x := fun x hx =>
  ⟨allOk_pad (fun y hy => (h y hy).1) n ho.1 x hx, szt_pad (cnt n) n (Nat.le_refl _) ho.2 xs (fun y hy => (h y hy).2) x hx⟩
/-- The program's pool p holds xs; the document's, in block b, holds ys. -/
def Tw (PA : World → (Nat → Prop) → (Nat → Prop) → Value → List Nd → Prop) (w : World) (b : Nat) (p v : Value) (xs ys : List Nd) (W : World) : Prop :=
  ∃ F : Nat → Prop, PA W (fun k => k < w.heap.size) F p xs ∧ (∀ k, F k → w.heap.size ≤ k ∧ k ≠ b) ∧ Pk xs ∧ (∀ y ∈ xs, OkQ y) ∧ (∀ y ∈ ys, OkQ y) ∧ W.heap[b]? = some (.cells #[v] 28) ∧ OwnN W (fun k => k ≠ b ∧ ¬ F k) b v ys ∧ w.heap.size ≤ b ∧ Below w.heap.size w W
section
variable {PA : World → (Nat → Prop) → (Nat → Prop) → Value → List Nd → Prop} {w : World} {b : Nat} {p v : Value} {xs ys : List Nd} {W : World}
theorem Tw.below (I : PoolI PA) (h : Tw PA w b p v xs ys W) {W' : World} (hb : Below W.heap.size W W') : Tw PA w b p v xs ys W' := by
  obtain ⟨F, h1, h2, h3, h4, h5, h6, h7, h8, h9⟩ := h
  exact ⟨F, I.keep h1 ⟨hb.size, fun k _ hl => hb.block k hl⟩, h2, h3, h4, h5, (hb.block _ (lt_of_block h6)).trans h6, h7.below hb, h8, h9.trans (hb.mono h9.size)⟩
theorem Tw.cell (h : Tw PA w b p v xs ys W) : W.cell? ⟨b, 0, none⟩ = some v := by
  obtain ⟨F, h1, h2, h3, h4, h5, h6, h7⟩ := h
  exact cell_of_one h6
theorem Tw.slice (h : Tw PA w b p v xs ys W) : ∃ a c, v = .slice a ys.length c := by
  obtain ⟨F, h1, h2, h3, h4, h5, h6, h7, h8⟩ := h
  exact h7.slice
theorem Tw.bel (h : Tw PA w b p v xs ys W) : Below w.heap.size w W := by
  obtain ⟨F, h1, h2, h3, h4, h5, h6, h7, h8, h9⟩ := h
  exact h9
theorem Tw.putp (I : PoolI PA) (h : Tw PA w b p v xs ys W) {n : Nd} {c : List Value} (hn : NdIn w (fun k => k < w.heap.size) c n) (ho : OkQ n) (hl : xs.length + cnt n ≤ 50000) :
    Calls Try.prog 10 #[p, .agg c.toArray] W fun e W' => e = .returned (.int .i64 (pidx n xs : Int)) ∧ Tw PA w b p v (pad n xs) ys W' := by
  obtain ⟨F, h1, h2, h3, h4, h5, h6, h7, h8, h9⟩ := h
  refine (I.put W _ F p xs n c h1 h3 (fun y hy => (h4 y hy).p) (hn.keep (keeps_below h9)) (fun k hk => ⟨fun hf => by have := (h2 k hf).1; have hk : k < w.heap.size := hk; omega, by have hk : k < w.heap.size := hk; have := h9.size; omega⟩) ho.p hl).mono ?_
  rintro e W' ⟨rfl, F', g1, g2, g3, g4⟩
  have hbl := lt_of_block h6
  have hFb : ¬ F b := fun hf => (h2 b hf).2 rfl
  refine ⟨rfl, F', g1, fun k hk => ?_, pk_pad n xs h3, okQ_pad h4 n ho, h5, (g3.2 b hFb hbl).trans h6, ?_, h8, h9.trans (g4 _ (fun k hk => (h2 k hk).1) h9.size)⟩
  · rcases g2 k hk with h | h
    · exact h2 k h
    · have := h9.size; omega
  · refine ((h7.weak (P' := fun k => (k ≠ b ∧ ¬ F k) ∧ k < W.heap.size) (fun k hk hl => ⟨hk, hl⟩) (Nat.le_refl _)).keepP ⟨g3.1, fun k hk hl => g3.2 k hk.1.2 hl⟩).weak (fun k hk _ => ⟨hk.1.1, fun hf => ?_⟩) (Nat.le_refl _)
    rcases g2 k hf with h | h
    · exact hk.1.2 h
    · omega
theorem Tw.putx (I : PoolI PA) (h : Tw PA w b p v xs ys W) {n : Nd} {c : List Value} (hn : NdIn w (fun k => k < w.heap.size) c n) (ho : OkQ n) (hl : ys.length + cnt n ≤ 50000) :
    Calls Try.prog 11 #[.pointer (some ⟨b, 0, none⟩), .agg c.toArray] W fun e W' => e = .returned (.int .i64 (pidx n ys : Int)) ∧ ∃ v', Tw PA w b p v' xs (pad n ys) W' := by
  obtain ⟨F, h1, h2, h3, h4, h5, h6, h7, h8, h9⟩ := h
  have hFl := I.lt h1
  refine (rpool_put (fun k => ¬ F k) b 28 b (Nat.le_refl _) (cnt n) n (Nat.le_refl _) ho.1 ys v c W (fun y hy => (h5 y hy).1) (by omega) (fun g hg hf => by have := hFl g hf; omega) h6 h7 ((hn.keep (keeps_below h9)).weak (fun k hk _ => ⟨by omega, fun hf => by have := (h2 k hf).1; omega, fun e => by have := (h7.lt k e).1; omega⟩))).mono ?_
  rintro e W' ⟨rfl, v', g1, g2, g3, g4, g5⟩
  refine ⟨rfl, v', F, I.keep h1 ⟨g4.1, fun k hk hl => g4.2 k ⟨?_, ?_, hl⟩ hl⟩, h2, h3, h4, okQ_pad h5 n ho, g1, g2, h8, h9.trans (g5.mono h8)⟩
  · rcases hk with hk | hk
    · exact (h2 k hk).2
    · have hk : k < w.heap.size := hk; omega
  · intro e
    rcases hk with hk | hk
    · exact (h7.own k e).2 hk
    · have hk : k < w.heap.size := hk
      have := (h7.lt k e).1; omega
theorem Tw.len (I : PoolI PA) (h : Tw PA w b p v xs ys W) : Calls Try.prog 12 #[p] W fun e W' => e = .returned (.int .i64 (xs.length : Int)) ∧ Tw PA w b p v xs ys W' := by
  have h' := h
  obtain ⟨F, h1, -⟩ := h
  exact (I.len W _ F p xs h1).mono fun e W' ⟨g1, g2⟩ => ⟨g1, h'.below I g2⟩
theorem Tw.size (I : PoolI PA) (h : Tw PA w b p v xs ys W) (id : Int) : Calls Try.prog 13 #[p, .int .i64 id] W fun e W' => e = .returned (.int .i64 (psz xs id : Int)) ∧ Tw PA w b p v xs ys W' := by
  have h' := h
  obtain ⟨F, h1, -⟩ := h
  exact (I.size W _ F p xs id h1).mono fun e W' ⟨g1, g2⟩ => ⟨g1, h'.below I g2⟩
/-- Where it begins. -/
theorem tw_new (I : PoolI PA) {w1 : World} {p : Value} (h : PAt PA (fun k => k < w.heap.size) w.heap.size p [] w1) (hb : Below w.heap.size w w1) : Tw PA w w1.heap.size p (.slice none 0 0) [] [] (w1.alloc (.cells #[.slice none 0 0] 28)) := by
  obtain ⟨F, h1, h2, h3, h4, h5⟩ := h
  have hb1 := below1 w1 (.cells #[.slice none 0 0] 28)
  refine ⟨F, I.keep h1 ⟨hb1.size, fun k _ hl => hb1.block k hl⟩, fun k hk => ⟨h2 k hk, by have := I.lt h1 k hk; omega⟩, pk_nil, fun y h => by simp at h, fun y h => by simp at h, ?_, OwnN.nil _ _ _, hb.size, hb.trans (hb1.mono hb.size)⟩
  show (w1.heap.push _)[w1.heap.size]? = _
  rw [Array.getElem?_push, if_pos rfl]
end
end Go.Proofs.Ytkngnkonddpbeaa
