/-
  THE PROGRAM's Flat, Width and First.
-/
import Derived.Test.YtbjgoigdhijbgaaDoorFlatEach
import Derived.Test.YtbjgoigdhijbgaaDoorCellWid
import Derived.Test.YtbjgoigdhijbgaaDoorBuildLay
import Derived.BigRegion
import Derived.Deep.RegionHeld3
set_option linter.all false
namespace Go.Proofs.YtbjgoigdhijbgaaDoor
open Go.RowKit Go.PlainAid Go.Shelf

/-- What stands for a leaf on one line. -/
def wrt (x : Dc) : ByteArray := if dkd x = 1 then dtx x else if dkd x = 2 then ⟨#[32]⟩ else ⟨#[]⟩
/-- Widths of leaves, one behind the other. -/
def wsum : List Dc → Nat
  | [] => 0
  | x :: t => ct (wrt x) 0 + wsum t
/-- The width ahead of the first that is no text. -/
def fsum : List Dc → Nat
  | [] => 0
  | x :: t => if dkd x = 1 then ct (dtx x) 0 + fsum t else 0
/-- The texts of leaves, one behind the other. -/
def ctx : List Dc → ByteArray
  | [] => ⟨#[]⟩
  | x :: t => wrt x ++ ctx t
/-- A counter in a block of its own, above the tables. -/
structure JW (w0 : World) (b : Nat) (f : List Dc → Nat) (pre : List Dc) (W : World) : Prop where
  hi : w0.heap.size ≤ b
  bel : Below w0.heap.size w0 W
  cnt : ∃ c : Nat, Bx W b 3 (.int .i64 (c : Int)) ∧ ∀ rest, f (pre ++ rest) = c + f rest
structure JS (w0 : World) (b : Nat) (f : List Dc → Nat) (pre : List Dc) (W : World) : Prop where
  bel : Below w0.heap.size w0 W
  cnt : ∃ c : Nat, Bx W b 3 (.int .i64 (c : Int)) ∧ ∀ rest, f (pre ++ rest) = c
def SfC (b : Nat) (W : World) (g : Nat) : Prop := g ≠ b
theorem jw_st {w0 : World} {b s : Nat} {f : List Dc → Nat} (hs : w0.heap.size ≤ s) (pre : List Dc) (A B : World) (h : JW w0 b f pre A) (hk : ∀ g, g < A.heap.size → ¬ SfC b A g → B.heap[g]? = A.heap[g]?) (hb : Below s A B) : JW w0 b f pre B := by
  obtain ⟨h0, h1, c, h2, h3⟩ := h
  refine ⟨h0, h1.trans (hb.mono hs), c, ?_, h3⟩
  unfold Bx at h2 ⊢
  rw [hk b (lt_of_block h2) (fun k => k rfl)]
  exact h2
theorem jw_ty {w0 : World} {b : Nat} {f : List Dc → Nat} (pre : List Dc) (W : World) (g : Nat) (cs : Array Value) (fr : Nat × Nat) (h : JW w0 b f pre W) (hg : W.heap[g]? = some (.cells cs 22 fr)) : SfC b W g := by
  obtain ⟨_, _, c, h2, _⟩ := h
  intro e
  subst e
  unfold Bx at h2
  rw [h2] at hg
  simp at hg
theorem tn_one {b : Nat} {A B : World} (h : Below A.heap.size A B) (hb : b < A.heap.size) (u : Value) : Tn (fun g => ¬ SfC b A g) A (B.setCell ⟨b, 0, none⟩ u) :=
  (tn_of_below h).set (b := b) (fun k => k rfl) 0 u
theorem wsum_le : ∀ (L : List Dc), (∀ x ∈ L, (wrt x).size ≤ 1048576) → wsum L ≤ L.length * 1048576
  | [], _ => Nat.zero_le _
  | x :: t, h => by
    have h1 := wsum_le t (fun y hy => h y (List.mem_cons_of_mem _ hy))
    have h2 := h x (List.mem_cons_self ..)
    have h3 := ct_le (wrt x) (wrt x).size 0 (by omega)
    simp only [wsum, List.length_cons]
    omega
mutual
theorem lvs_len : ∀ d : Dc, (lvs d).length ≤ dcnt d
  | .mk k n t l => by
    have := lvsL_len l
    simp only [lvs, dcnt]
    split
    · simp only [List.length_cons, List.length_nil]; omega
    · omega
theorem lvsL_len : ∀ l : List Dc, (lvsL l).length ≤ dcntL l
  | [] => Nat.zero_le _
  | x :: t => by have := lvs_len x; have := lvsL_len t; simp only [lvsL, dcntL, List.length_append]; omega
end
mutual
theorem lvs_sz {b : Nat} : ∀ d : Dc, dtz b d → ∀ x ∈ lvs d, (dtx x).size ≤ b
  | .mk k n t l, h => by
    have h : t.size ≤ b ∧ dtzL b l := by simpa only [dtz] using h
    have := lvsL_sz l h.2
    intro x hx
    simp only [lvs] at hx
    split at hx
    · simp only [List.mem_cons, List.not_mem_nil, or_false] at hx
      subst hx
      exact h.1
    · exact this x hx
theorem lvsL_sz {b : Nat} : ∀ l : List Dc, dtzL b l → ∀ x ∈ lvsL l, (dtx x).size ≤ b
  | [], _ => by intro x hx; simp [lvsL] at hx
  | y :: t, h => by
    have h : dtz b y ∧ dtzL b t := by simpa only [dtzL] using h
    intro x hx
    simp only [lvsL, List.mem_append] at hx
    rcases hx with hx | hx
    · exact lvs_sz y h.1 x hx
    · exact lvsL_sz t h.2 x hx
end
theorem wrt_sz {x : Dc} (h : (dtx x).size ≤ 1048576) : (wrt x).size ≤ 1048576 := by
  unfold wrt
  split
  · exact h
  split
  · show (1 : Nat) ≤ 1048576; omega
  · show (0 : Nat) ≤ 1048576; omega
theorem Below.drew2 {W B : World} (h : Below W.drew.heap.size W.drew B) : Below W.heap.size W B := (Below.drew (Below.refl W.heap.size W)).trans h
theorem drew_lf {W : World} {x : Dc} {g o : Nat} (h : LfC W x g o) : LfC W.drew x g o := h
end Go.Proofs.YtbjgoigdhijbgaaDoor
