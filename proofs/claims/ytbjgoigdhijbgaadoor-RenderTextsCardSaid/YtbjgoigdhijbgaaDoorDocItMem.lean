/-
  THE PROGRAM's way over a document's parts: what is open, plainly and in memory.
-/
import Derived.Test.YtbjgoigdhijbgaaDoorDocMath
import Derived.Test.YtbjgoigdhijbgaaDoorRangeLaw
import Derived.OneCell
import Derived.Lib.BufferMore
import Derived.Laws.AppendOwn
import Derived.Maps.AppendAt
set_option linter.all false
namespace Go.Proofs.YtbjgoigdhijbgaaDoor
open Go.RowKit Go.PlainAid

/-! ### plainly -/
mutual
/-- A document and all that is in it, each ahead of what is in it, with how deep it stands. -/
def ord : Nat → Dc → List (Dc × Nat)
  | p, .mk k n t l => (.mk k n t l, p) :: ordL (p + 1) l
def ordL : Nat → List Dc → List (Dc × Nat)
  | _, [] => []
  | p, x :: t => ord p x ++ ordL p t
end
theorem ord_eq (p : Nat) (x : Dc) : ord p x = (x, p) :: ordL (p + 1) (dks x) := by cases x; simp only [ord, dks]
mutual
theorem ord_len : ∀ (p : Nat) (x : Dc), (ord p x).length = dcnt x
  | p, .mk k n t l => by simp only [ord, dcnt, List.length_cons, ordL_len (p + 1) l]; omega
theorem ordL_len : ∀ (p : Nat) (l : List Dc), (ordL p l).length = dcntL l
  | _, [] => by simp only [ordL, dcntL, List.length_nil]
  | p, x :: t => by simp only [ordL, dcntL, List.length_append, ord_len p x, ordL_len p t]
end
/-- What is still to come of the open lists, the last one first. -/
def rmS : List (List Dc) → List (Dc × Nat)
  | [] => []
  | l :: r => ordL (r.length + 1) l ++ rmS r
theorem rmS_nil (r : List (List Dc)) : rmS ([] :: r) = rmS r := by simp only [rmS, ordL, List.nil_append]
theorem rmS_cons (x : Dc) (l : List Dc) (r : List (List Dc)) : rmS ((x :: l) :: r) = (x, r.length + 1) :: rmS (dks x :: l :: r) := by
  simp only [rmS, ordL, ord_eq, List.length_cons, List.cons_append, List.append_assoc]
/-! ### in memory -/
/-- The open lists' cells, the last one's last. -/
def rowS : List (Value × List Dc) → List Value
  | [] => []
  | f :: r => rowS r ++ [f.1]
theorem rowS_len : ∀ S : List (Value × List Dc), (rowS S).length = S.length
  | [] => rfl
  | f :: r => by rw [rowS, List.length_append, rowS_len r]; rfl
def lsS (S : List (Value × List Dc)) : List (List Dc) := S.map (·.2)
/-- THE OPEN LISTS: their row, in a block at or above b; what they are. -/
structure Itr (F : Nat) (W : World) (P : Nat → Prop) (b : Nat) (v : Value) (S : List (Value × List Dc)) : Prop where
  row : W.ownsRow b 22 1 v S.length (rowS S)
  ok : ∀ f ∈ S, DrIn W P f.1 f.2
  few : S.length + (rmS (lsS S)).length ≤ F
  pp : ∀ g, P g → g < b
section
variable {F : Nat}
theorem ownsRow_tn {W W' : World} {base : Nat} {e : TypeId} {size : Nat} {v : Value} {n : Nat} {xs : List Value} (h : W.ownsRow base e size v n xs) (hb : ∀ g, base ≤ g → g < W.heap.size → W'.heap[g]? = W.heap[g]?) : W'.ownsRow base e size v n xs := by
  obtain ⟨h1, h2 | ⟨g, cap, cur, rfl, h4, h5, h6⟩⟩ := h
  · exact ⟨h1, .inl h2⟩
  · exact ⟨h1, .inr ⟨g, cap, cur, rfl, h4, by rw [hb g h4 (lt_of_block h5)]; exact h5, h6⟩⟩
theorem tn_keeps {M : Nat → Prop} {W W' : World} (h : Tn M W W') {P : Nat → Prop} (hp : ∀ g, P g → ¬ M g) : Keeps P W W' := ⟨h.size, fun g hg hl => h.block g hl (hp g hg)⟩
theorem Itr.keep {W W' : World} {P : Nat → Prop} {b : Nat} {v : Value} {S : List (Value × List Dc)} (h : Itr F W P b v S) {M : Nat → Prop} (hm : Tn M W W') (hp : ∀ g, P g → ¬ M g) (ho : ∀ g, b ≤ g → ¬ M g) : Itr F W' P b v S :=
  ⟨ownsRow_tn h.row (fun g hg hl => hm.block g hl (ho g hg)), fun f hf => (h.ok f hf).keep (tn_keeps hm hp), h.few, h.pp⟩
theorem Itr.slice {W : World} {P : Nat → Prop} {b : Nat} {v : Value} {S : List (Value × List Dc)} (h : Itr F W P b v S) : ∃ a c, v = .slice a S.length c ∧ S.length ≤ c ∧ c ≤ maxLen := by
  obtain ⟨-, ⟨rfl, e⟩ | ⟨g, cap, cur, rfl, -, -, h5, h6, -⟩⟩ := h.row
  · exact ⟨_, _, by rw [e], by omega, Nat.zero_le _⟩
  · exact ⟨_, _, rfl, h5, h6⟩
/-- The last of the open lists, its cell. -/
theorem Itr.top {W : World} {P : Nat → Prop} {b : Nat} {v : Value} {f : Value × List Dc} {r : List (Value × List Dc)} (h : Itr F W P b v (f :: r)) :
    ∃ g cap, v = .slice (some ⟨g, 0, none⟩) (r.length + 1) cap ∧ b ≤ g ∧ g < W.heap.size ∧ W.cell? ⟨g, r.length, none⟩ = some f.1 ∧ r.length + 1 ≤ cap ∧ cap ≤ maxLen ∧ r.length + 1 ≤ F ∧ W.frozen? ⟨g, r.length, none⟩ = false := by
  have hf := h.few
  obtain ⟨-, ⟨rfl, h0⟩ | ⟨g, cap, cur, rfl, hb, hg, hn, hcm, hz, ht⟩⟩ := h.row
  · simp at h0
  · have hl := rowS_len r
    simp only [List.length_cons, Nat.mul_one] at hn hz ht hf
    have e0 : (rowS (f :: r))[r.length]? = some f.1 := by
      rw [rowS, List.getElem?_append_right (by omega), hl, Nat.sub_self]; rfl
    rw [← ht, List.getElem?_take_of_lt (by omega), Array.getElem?_toList] at e0
    exact ⟨g, cap, rfl, hb, lt_of_block hg, by rw [cell_of_row W _ _ _ _ _ hg]; exact e0, hn, hcm, by omega, frz_of hg _⟩
/-- The last one is done. -/
theorem Itr.pop {W : World} {P : Nat → Prop} {b g cap : Nat} {f : Value × List Dc} {r : List (Value × List Dc)} (h : Itr F W P b (.slice (some ⟨g, 0, none⟩) (r.length + 1) cap) (f :: r)) :
    Itr F W P b (.slice (some ⟨g, 0, none⟩) r.length cap) r := by
  obtain ⟨hl, ⟨h0, -⟩ | ⟨g', cap', cur, hv, hb, hg, hn, hcm, hz, ht⟩⟩ := h.row
  · simp at h0
  · simp only [Value.slice.injEq, Option.some.injEq, Addr.mk.injEq, and_true] at hv
    obtain ⟨rfl, -, rfl⟩ := hv
    have hlr := rowS_len r
    simp only [List.length_cons] at hn
    refine ⟨⟨by rw [hlr, Nat.mul_one], .inr ⟨g, cap, cur, rfl, hb, hg, by omega, hcm, hz, ?_⟩⟩, fun f' hf' => h.ok f' (by simp [hf']), ?_, h.pp⟩
    · have h2 := congrArg (List.take r.length) ht
      rw [List.take_take, Nat.min_eq_left (by simp only [List.length_cons]; omega)] at h2
      rw [Nat.mul_one, h2, rowS, List.take_append_of_le_length (by omega), List.take_of_length_le (by omega)]
    · have := h.few
      simp only [List.length_cons, lsS, List.map_cons, rmS, List.length_append] at this
      simp only [lsS]
      omega
/-- One more has come: what is left of the list is put in its place. -/
theorem Itr.seen {W : World} {P : Nat → Prop} {b g cap : Nat} {v u : Value} {x : Dc} {l : List Dc} {r : List (Value × List Dc)} (h : Itr F W P b (.slice (some ⟨g, 0, none⟩) (r.length + 1) cap) ((v, x :: l) :: r)) (hu : DrIn W P u l) :
    Itr F (W.setCell ⟨g, r.length, none⟩ u) P b (.slice (some ⟨g, 0, none⟩) (r.length + 1) cap) ((u, l) :: r) := by
  obtain ⟨hl, ⟨h0, -⟩ | ⟨g', cap', cur, hv, hb, hg, hn, hcm, hz, ht⟩⟩ := h.row
  · simp at h0
  · simp only [Value.slice.injEq, Option.some.injEq, Addr.mk.injEq, and_true] at hv
    obtain ⟨rfl, -, rfl⟩ := hv
    have hlr := rowS_len r
    have hk : Keeps P W (W.setCell ⟨g, r.length, none⟩ u) := keeps_set W (fun hp => by have := h.pp g hp; omega) _ _
    refine ⟨⟨by rw [rowS_len, Nat.mul_one], .inr ⟨g, cap, cur.setIfInBounds r.length u, rfl, hb, heap_setCell_same W g _ cur _ _ hg, hn, hcm, by rw [Array.size_setIfInBounds]; exact hz, ?_⟩⟩, ?_, ?_, h.pp⟩
    · rw [show (cur.setIfInBounds r.length u).toList = cur.toList.set r.length u by simp, List.take_set]
      rw [show ((u, l) :: r : List (Value × List Dc)).length = ((v, x :: l) :: r : List (Value × List Dc)).length from rfl, ht]
      simp only [rowS]
      rw [List.set_append_right _ _ (by omega), hlr, Nat.sub_self]
      rfl
    · intro f' hf'
      rcases List.mem_cons.1 hf' with e | e
      · rw [e]; exact hu.keep hk
      · exact (h.ok f' (by simp [e])).keep hk
    · have := h.few
      simp only [List.length_cons, lsS, List.map_cons, rmS_cons, List.length_cons, rmS, List.length_append] at this ⊢
      omega
theorem cell_set_ne {W : World} {g i g' j : Nat} {u : Value} (h : g' ≠ g) : (W.setCell ⟨g, i, none⟩ u).cell? ⟨g', j, none⟩ = W.cell? ⟨g', j, none⟩ := by
  unfold World.cell?
  simp only
  rw [Below.heap_setCell _ _ _ _ h]
theorem row_some {W : World} {base : Nat} {e : TypeId} {size : Nat} {v : Value} {k : Nat} {xs : List Value} (h : W.ownsRow base e size v (k + 1) xs) : ∃ g cap, v = .slice (some ⟨g, 0, none⟩) (k + 1) cap ∧ base ≤ g := by
  obtain ⟨-, ⟨-, h0⟩ | ⟨g, cap, cur, rfl, hb, -⟩⟩ := h
  · omega
  · exact ⟨g, cap, rfl, hb⟩
theorem Tn.hi {M : Nat → Prop} {W A B : World} {s : Nat} (h : Tn M W A) (hb : Below s A B) (hs : W.heap.size ≤ s) : Tn M W B :=
  ⟨hb.os.trans h.os, hb.tape.trans h.tape, hb.output.trans h.output, Nat.le_trans h.size hb.size, fun g hg hm => (hb.block g (by omega)).trans (h.block g hg hm)⟩
/-- What is in the last one is put on top. -/
theorem Itr.push {W w' : World} {P : Nat → Prop} {b : Nat} {v v' : Value} {S : List (Value × List Dc)} (h : Itr F W P b v S) (u : Value) (l : List Dc) (hu : DrIn W P u l) {o : Obj} (hown : w'.ownsRow b 22 1 v' (S.length + 1) (rowS S ++ [u])) (hg : (W.alloc o).grownBy w' v.ownBlock) (hf : (S.length + 1) + (rmS (l :: lsS S)).length ≤ F) (hb : b ≤ W.heap.size) :
    Itr F w' P b v' ((u, l) :: S) ∧ Below b W w' := by
  have hv : ∀ g, v.ownBlock = some g → b ≤ g := by
    intro g hg
    obtain ⟨-, ⟨rfl, -⟩ | ⟨g', cap, cur, rfl, hb, -⟩⟩ := h.row
    · cases hg
    · cases hg; exact hb
  have hB : Below b W w' := ((Below.refl b W).alloc hb o).grown hg (by simp; omega) (fun k e => hv k e)
  refine ⟨⟨hown, ?_, hf, h.pp⟩, hB⟩
  have hk : Keeps P W w' := ⟨hB.size, fun g hp _ => hB.block g (h.pp g hp)⟩
  intro f hf'
  rcases List.mem_cons.1 hf' with e | e
  · rw [e]; exact hu.keep hk
  · exact (h.ok f e).keep hk
end
end Go.Proofs.YtbjgoigdhijbgaaDoor
