/-
  THE PROGRAM's copies of documents: own.
-/
import Derived.Test.YtnmpapmjkihfcaaDocClone
import Derived.Test.YtnmpapmjkihfcaaDocIter
import Derived.Deep.LoopGhost
import Derived.Deep.CutRange
import Derived.Deep.RegionLaw
set_option linter.all false
namespace Go.Proofs.Ytnmpapmjkihfcaa
open Go.RowKit Go.PlainAid

/-- How many parts the open lists have. -/
def tS : List (Value × List Dc) → Nat
  | [] => 0
  | f :: r => dcntL f.2 + tS r
/-- The copy so far: what it says, which lists are open. -/
structure Ow (W : World) (B : Nat) (N : Nat → Prop) (rv : Value) (l : List Dc) (v : Value) (S : List (Value × List Dc)) : Prop where
  res : DrIn W N rv l
  row : W.ownsRow B 22 1 v S.length (rowS S)
  ok : ∀ f ∈ S, DrIn W N f.1 f.2
  nw : ∀ f ∈ S, f.2 ≠ [] → ∃ g o n c, f.1 = .slice (some ⟨g, o, none⟩) n c ∧ B ≤ g ∧ ∀ i, W.frozen? ⟨g, i, none⟩ = false
  ap : ∀ g, v.ownBlock = some g → ¬ N g
  lt : ∀ g, N g → g < W.heap.size
theorem DrIn.blk {W : World} {P : Nat → Prop} {g o n c : Nat} {l : List Dc} (h : DrIn W P (.slice (some ⟨g, o, none⟩) n c) l) (hl : l ≠ []) : P g ∧ g < W.heap.size := by
  obtain ⟨cs, ⟨a, cap, e, -, -, h3⟩, -⟩ := h
  obtain ⟨g', o', e2, h4, h5, -⟩ := h3 (List.length_pos_iff.2 hl)
  simp only [Value.slice.injEq] at e
  rw [e2] at e
  simp only [Option.some.injEq, Addr.mk.injEq, and_true] at e
  rw [e.1.1]
  exact ⟨h4, h5⟩
section
variable {W W' : World} {B : Nat} {N N' : Nat → Prop} {rv v : Value} {l : List Dc} {S : List (Value × List Dc)}
theorem Ow.slice (h : Ow W B N rv l v S) : ∃ a c, v = .slice a S.length c ∧ S.length ≤ c ∧ c ≤ maxLen := by
  obtain ⟨-, ⟨rfl, e⟩ | ⟨g, cap, cur, rfl, -, -, h5, h6, -⟩⟩ := h.row
  · exact ⟨_, _, by rw [e], by omega, Nat.zero_le _⟩
  · exact ⟨_, _, rfl, h5, h6⟩
theorem Ow.top {f : Value × List Dc} (h : Ow W B N rv l v (f :: S)) :
    ∃ g cap, v = .slice (some ⟨g, 0, none⟩) (S.length + 1) cap ∧ B ≤ g ∧ W.cell? ⟨g, S.length, none⟩ = some f.1 ∧ S.length + 1 ≤ cap ∧ cap ≤ maxLen := by
  obtain ⟨-, ⟨rfl, h0⟩ | ⟨g, cap, cur, rfl, hb, hg, hn, hcm, hz, ht⟩⟩ := h.row
  · simp at h0
  · have hl := rowS_len S
    simp only [List.length_cons, Nat.mul_one] at hn hz ht
    have e0 : (rowS (f :: S))[S.length]? = some f.1 := by
      rw [rowS, List.getElem?_append_right (by omega), hl, Nat.sub_self]; rfl
    rw [← ht, List.getElem?_take_of_lt (by omega), Array.getElem?_toList] at e0
    exact ⟨g, cap, rfl, hb, by rw [cell_of_row W _ _ _ _ _ hg]; exact e0, hn, hcm⟩
theorem Ow.pop {g cap : Nat} {f : Value × List Dc} (h : Ow W B N rv l (.slice (some ⟨g, 0, none⟩) (S.length + 1) cap) (f :: S)) : Ow W B N rv l (.slice (some ⟨g, 0, none⟩) S.length cap) S := by
  obtain ⟨hl, ⟨h0, -⟩ | ⟨g', cap', cur, hv, hb, hg, hn, hcm, hz, ht⟩⟩ := h.row
  · simp at h0
  · simp only [Value.slice.injEq, Option.some.injEq, Addr.mk.injEq, and_true] at hv
    obtain ⟨rfl, -, rfl⟩ := hv
    have hlr := rowS_len S
    simp only [List.length_cons] at hn
    refine ⟨h.res, ⟨by rw [hlr, Nat.mul_one], .inr ⟨g, cap, cur, rfl, hb, hg, by omega, hcm, hz, ?_⟩⟩, fun f' hf' => h.ok f' (by simp [hf']), fun f' hf' => h.nw f' (by simp [hf']), fun g2 e => h.ap g2 e, h.lt⟩
    have h2 := congrArg (List.take S.length) ht
    rw [List.take_take, Nat.min_eq_left (by simp only [List.length_cons]; omega)] at h2
    rw [Nat.mul_one, h2, rowS, List.take_append_of_le_length (by omega), List.take_of_length_le (by omega)]
/-- New blocks have come; more are documents' now. -/
theorem Ow.grow (h : Ow W B N rv l v S) (hb : Below W.heap.size W W') (hN : ∀ g, N g → N' g) (hN' : ∀ g, N' g → N g ∨ (W.heap.size ≤ g ∧ g < W'.heap.size)) : Ow W' B N' rv l v S := by
  have hk : Keeps N W W' := ⟨hb.size, fun g _ hl => hb.block g hl⟩
  refine ⟨(h.res.keep hk).wide (fun g _ => hN g), ownsRow_tn h.row (fun g _ hl => hb.block g hl), fun f hf => ((h.ok f hf).keep hk).wide (fun g _ => hN g), fun f hf hne => ?_, fun g e hn => ?_, fun g hg => ?_⟩
  · obtain ⟨g, o, n, c, e, h1, h2⟩ := h.nw f hf hne
    have hlt := ((e ▸ h.ok f hf : DrIn W N (.slice (some ⟨g, o, none⟩) n c) f.2).blk hne).2
    exact ⟨g, o, n, c, e, h1, fun i => (World.frozen?_of_block (hb.block g hlt)).trans (h2 i)⟩
  · rcases hN' g hn with h1 | h1
    · exact h.ap g e h1
    · obtain ⟨-, ⟨rfl, -⟩ | ⟨g', cap, cur, rfl, -, hg, -⟩⟩ := h.row
      · cases e
      · have e2 : g' = g := by cases e; rfl
        have h2 : g' < W.heap.size := lt_of_block hg
        omega
  · rcases hN' g hg with h1 | h1
    · have := h.lt g h1; have := hb.size; omega
    · exact h1.2
/-- A cell of a document is turned into one that says the same. -/
theorem Ow.repl {g off : Nat} {a0 : Option Addr} {n0 c0 : Nat} {v2 : Value} {lx : List Dc} (h : Ow W B N rv l v S) (hg : N g) (hold : W.cell? ⟨g, off, none⟩ = some (.slice a0 n0 c0)) (hl : DrIn W N (.slice a0 n0 c0) lx) (h2 : DrIn W N v2 lx) : Ow (W.setCell ⟨g, off, none⟩ v2) B N rv l v S := by
  refine ⟨DrIn.repl hold hl h2 _ _ _ (Nat.le_refl _) h.res, ?_, fun f hf => DrIn.repl hold hl h2 _ _ _ (Nat.le_refl _) (h.ok f hf), fun f hf hne => by obtain ⟨g', o, n, c, e, h1, h2⟩ := h.nw f hf hne; exact ⟨g', o, n, c, e, h1, fun i => by rw [World.frozen?_setCell]; exact h2 i⟩, h.ap, fun g hg => by simpa using h.lt g hg⟩
  obtain ⟨e1, h2 | ⟨g', cap, cur, rfl, h4, h5, h6⟩⟩ := h.row
  · exact ⟨e1, .inl h2⟩
  · exact ⟨e1, .inr ⟨g', cap, cur, rfl, h4, by rw [Below.heap_setCell _ _ _ _ (fun e => h.ap g' rfl (by have e : g' = g := e; rw [e]; exact hg))]; exact h5, h6⟩⟩
/-- A text's cell is written as it was. -/
theorem set_same {W : World} {g i : Nat} {u : Value} (h : W.cell? ⟨g, i, none⟩ = some u) (g' j : Nat) : (W.setCell ⟨g, i, none⟩ u).cell? ⟨g', j, none⟩ = W.cell? ⟨g', j, none⟩ := by
  by_cases e : g' = g
  · subst e
    by_cases e2 : i = j
    · subst e2
      rw [h]; exact World.cell?_setCell_same' _ _ _ (by rw [h]; rfl)
    · exact cell_set_off e2 _
  · exact cell_set_ne e
theorem DsIn.same (hs : W.heap.size ≤ W'.heap.size) (hc : ∀ g j, W'.cell? ⟨g, j, none⟩ = W.cell? ⟨g, j, none⟩) {v : Value} {n : Nat} {cs : Nat → List Value} (h : DsIn W N v n cs) : DsIn W' N v n cs := by
  obtain ⟨a, cap, e, h1, h2, h3⟩ := h
  refine ⟨a, cap, e, h1, h2, fun h0 => ?_⟩
  obtain ⟨g, o, g1, g2, g3, g4⟩ := h3 h0
  exact ⟨g, o, g1, g2, Nat.lt_of_lt_of_le g3 hs, fun i hi j u hu => (hc _ _).trans (g4 i hi j u hu)⟩
theorem DcIn.same (hs : W.heap.size ≤ W'.heap.size) (hc : ∀ g j, W'.cell? ⟨g, j, none⟩ = W.cell? ⟨g, j, none⟩) {c : List Value} {x : Dc} (h : DcIn W N c x) : DcIn W' N c x := by
  induction h with
  | mk k n t l lv cs hl hk ih => exact .mk k n t l lv cs (hl.same hs hc) ih
theorem DrIn.same (hs : W.heap.size ≤ W'.heap.size) (hc : ∀ g j, W'.cell? ⟨g, j, none⟩ = W.cell? ⟨g, j, none⟩) {v : Value} {l : List Dc} (h : DrIn W N v l) : DrIn W' N v l := by
  obtain ⟨cs, h1, h2⟩ := h
  exact ⟨cs, h1.same hs hc, fun i x hx => (h2 i x hx).same hs hc⟩
theorem Ow.text {g off : Nat} {t : ByteArray} (h : Ow W B N rv l v S) (hg : N g) (hold : W.cell? ⟨g, off, none⟩ = some (.string t)) : Ow (W.setCell ⟨g, off, none⟩ (.string t)) B N rv l v S := by
  have hs : W.heap.size ≤ (W.setCell ⟨g, off, none⟩ (.string t)).heap.size := by simp
  have hc := fun g' j => set_same hold g' j
  refine ⟨h.res.same hs hc, ?_, fun f hf => (h.ok f hf).same hs hc, fun f hf hne => by obtain ⟨g', o, n, c, e, h1, h2⟩ := h.nw f hf hne; exact ⟨g', o, n, c, e, h1, fun i => by rw [World.frozen?_setCell]; exact h2 i⟩, h.ap, fun g hg => by simpa using h.lt g hg⟩
  obtain ⟨e1, h2 | ⟨g', cap, cur, rfl, h4, h5, h6⟩⟩ := h.row
  · exact ⟨e1, .inl h2⟩
  · exact ⟨e1, .inr ⟨g', cap, cur, rfl, h4, by rw [Below.heap_setCell _ _ _ _ (fun e => h.ap g' rfl (by have e : g' = g := e; rw [e]; exact hg))]; exact h5, h6⟩⟩
/-- One list more is open. -/
theorem Ow.push {w' : World} {v' u : Value} {lx : List Dc} {o : Obj} (h : Ow W B N rv l v S) (hu : DrIn W N u lx) (hun : lx ≠ [] → ∃ g o n c, u = .slice (some ⟨g, o, none⟩) n c ∧ B ≤ g ∧ ∀ i, W.frozen? ⟨g, i, none⟩ = false) (hown : w'.ownsRow B 22 1 v' (S.length + 1) (rowS S ++ [u])) (hg : (W.alloc o).grownBy w' v.ownBlock) (hat : v'.ownBlock = v.ownBlock ∨ v'.ownBlock = some (W.heap.size + 1)) (hB : B ≤ W.heap.size) :
    Ow w' B N rv l v' ((u, lx) :: S) ∧ Below B W w' ∧ Keeps N W w' := by
  have hv : ∀ g, v.ownBlock = some g → B ≤ g := by
    intro g hg
    obtain ⟨-, ⟨rfl, -⟩ | ⟨g', cap, cur, rfl, hb, -⟩⟩ := h.row
    · cases hg
    · cases hg; exact hb
  have hb : Below B W w' := ((Below.refl B W).alloc hB o).grown hg (by simp; omega) (fun k e => hv k e)
  have hk : Keeps N W w' := ⟨hb.size, fun g hn hl => (hg.block g (by simp; omega) (fun e => h.ap g e.symm hn)).trans (Below.heap_alloc _ _ _ hl)⟩
  refine ⟨⟨h.res.keep hk, hown, ?_, ?_, ?_, fun g hn => by have := h.lt g hn; have := hb.size; omega⟩, hb, hk⟩
  · intro f hf
    rcases List.mem_cons.1 hf with e | e
    · rw [e]; exact hu.keep hk
    · exact (h.ok f e).keep hk
  · have fz : ∀ g, N g → ∀ i, W.frozen? ⟨g, i, none⟩ = false → w'.frozen? ⟨g, i, none⟩ = false := fun g hn i hf => (World.frozen?_of_block (hk.2 g hn (h.lt g hn))).trans hf
    intro f hf hne
    rcases List.mem_cons.1 hf with e | e
    · subst e
      obtain ⟨g, o, n, c, e, h1, h2⟩ := hun hne
      have hN := ((e ▸ hu : DrIn W N (.slice (some ⟨g, o, none⟩) n c) lx).blk hne).1
      exact ⟨g, o, n, c, e, h1, fun i => fz g hN i (h2 i)⟩
    · obtain ⟨g, o, n, c, e2, h1, h2⟩ := h.nw f e hne
      have hN := ((e2 ▸ h.ok f e : DrIn W N (.slice (some ⟨g, o, none⟩) n c) f.2).blk hne).1
      exact ⟨g, o, n, c, e2, h1, fun i => fz g hN i (h2 i)⟩
  · intro g e hn
    rcases hat with h1 | h1
    · rw [h1] at e; exact h.ap g e hn
    · rw [h1] at e
      have := h.lt g hn
      cases e
      omega
end
end Go.Proofs.Ytnmpapmjkihfcaa
