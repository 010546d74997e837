/-
  Trees that are few: how far the statements' own count goes, and what it bounds.
-/
import Derived.Test.YtkngnkonddpbeaaRefLikeA
namespace Go.Proofs.Ytkngnkonddpbeaa
open Go.RowKit Go.PlainAid

/-- One node may be: its own texts and rows are short. -/
def topOk : Nd → Bool
  | .mk _ t l _ _ no ta => decide (t.size ≤ 200) && decide (no.length ≤ 40) && decide (ta.length ≤ 40) && decide (l.length ≤ 400)
def kidsOf : Nd → List Nd
  | .mk _ _ l _ _ _ _ => l
/-- What the statements' few counts (1000 or more: too much), by how deep it may be. -/
def fewN : Nat → Nd → Nat
  | 0, _ => 1000
  | d + 1, n => if topOk n then (kidsOf n).foldl (fun k x => if k < 1000 then k + fewN d x else k) 1 else 1000
/-- The loop from a place on. -/
def fewL (d : Nat) (l : List Nd) (k : Nat) : Nat := l.foldl (fun k x => if k < 1000 then k + fewN d x else k) k
theorem fewL_nil (d k : Nat) : fewL d [] k = k := rfl
theorem fewL_cons (d : Nat) (x : Nd) (t : List Nd) (k : Nat) : fewL d (x :: t) k = fewL d t (if k < 1000 then k + fewN d x else k) := rfl
theorem fewL_done (d : Nat) : ∀ (l : List Nd) (k : Nat), 1000 ≤ k → fewL d l k = k
  | [], _, _ => rfl
  | x :: t, k, h => by rw [fewL_cons, if_neg (by omega)]; exact fewL_done d t k h
theorem few_le : ∀ (d : Nat) (n : Nd), fewN d n ≤ 1000 * (d + 1)
  | 0, _ => by simp [fewN]
  | d + 1, n => by
    simp only [fewN]
    split
    · have key : ∀ (l : List Nd) (k : Nat), k ≤ 1000 * (d + 2) → fewL d l k ≤ 1000 * (d + 2) := by
        intro l
        induction l with
        | nil => intro k hk; exact hk
        | cons x t ih =>
          intro k hk
          rw [fewL_cons]
          refine ih _ ?_
          have := few_le d x
          split <;> omega
      exact key _ 1 (by omega)
    · omega
theorem fewL_mono (d : Nat) : ∀ (l : List Nd) (k : Nat), k ≤ fewL d l k
  | [], k => Nat.le_refl _
  | x :: t, k => by
    rw [fewL_cons]
    have := fewL_mono d t (if k < 1000 then k + fewN d x else k)
    split at this <;> split <;> omega
mutual
/-- No node has more than so many comments at a place. -/
def smk (b : Nat) : Nd → Prop
  | .mk _ _ l _ _ no ta => no.length ≤ b ∧ ta.length ≤ b ∧ smkL b l
def smkL (b : Nat) : List Nd → Prop
  | [] => True
  | x :: t => smk b x ∧ smkL b t
end
mutual
theorem smk_sml {b : Nat} (hb : b ≤ 1000) : ∀ (n : Nd), smk b n → sml n
  | .mk _ _ l _ _ no ta, h => by
    simp only [smk] at h
    simp only [sml]
    exact ⟨by omega, by omega, smkL_smlL hb l h.2.2⟩
theorem smkL_smlL {b : Nat} (hb : b ≤ 1000) : ∀ (l : List Nd), smkL b l → smlL l
  | [], _ => by simp only [smlL]
  | x :: t, h => by
    simp only [smkL] at h
    simp only [smlL]
    exact ⟨smk_sml hb x h.1, smkL_smlL hb t h.2⟩
end
mutual
theorem nts_bound {b : Nat} : ∀ (n : Nd), smk b n → (nts n).length ≤ 2 * b * cnt n
  | .mk _ _ l _ _ no ta, h => by
    simp only [smk] at h
    have := ntsL_bound l h.2.2
    simp only [nts, cnt, List.length_append, Nat.mul_add]
    omega
theorem ntsL_bound {b : Nat} : ∀ (l : List Nd), smkL b l → (ntsL l).length ≤ 2 * b * cntL l
  | [], _ => by simp only [ntsL, cntL, List.length_nil]; omega
  | x :: t, h => by
    simp only [smkL] at h
    have h1 := nts_bound x h.1
    have h2 := ntsL_bound t h.2
    simp only [ntsL, cntL, List.length_append, Nat.mul_add]
    omega
end
mutual
theorem lts_bound : ∀ (n : Nd), (lts n).length ≤ cnt n
  | .mk k t l _ _ _ _ => by
    have := ltsL_bound l
    simp only [lts, cnt, List.length_append]
    split <;> simp <;> omega
theorem ltsL_bound : ∀ (l : List Nd), (ltsL l).length ≤ cntL l
  | [] => by simp only [ltsL, cntL, List.length_nil]; omega
  | x :: t => by
    have h1 := lts_bound x
    have h2 := ltsL_bound t
    simp only [ltsL, cntL, List.length_append]
    omega
end
/-- What is few is bounded: the count is right, comments are few. -/
theorem few_ok : ∀ (d : Nat) (n : Nd), fewN d n < 1000 → cnt n = fewN d n ∧ smk 40 n
  | 0, _, h => by simp [fewN] at h
  | d + 1, .mk kk t l br bl no ta, h => by
    simp only [fewN] at h ⊢
    split at h
    case isFalse => omega
    case isTrue ht =>
      rw [if_pos ht]
      simp only [topOk, Bool.and_eq_true, decide_eq_true_eq] at ht
      obtain ⟨⟨⟨h1, h2⟩, h3⟩, h4⟩ := ht
      have key : ∀ (l : List Nd) (k : Nat), fewL d l k < 1000 → fewL d l k = k + cntL l ∧ smkL 40 l := by
        intro l
        induction l with
        | nil => intro k _; exact ⟨by simp [fewL_nil, cntL], by simp only [smkL]⟩
        | cons x t ih =>
          intro k hk
          rw [fewL_cons] at hk ⊢
          by_cases hk1 : k < 1000
          · rw [if_pos hk1] at hk ⊢
            have hm := fewL_mono d t (k + fewN d x)
            obtain ⟨g1, g2⟩ := ih _ hk
            obtain ⟨g3, g4⟩ := few_ok d x (by omega)
            exact ⟨by rw [g1]; simp only [cntL]; omega, by simp only [smkL]; exact ⟨g4, g2⟩⟩
          · rw [if_neg hk1, fewL_done d t k (by omega)] at hk
            omega
      have hk : fewL d l 1 < 1000 := h
      obtain ⟨g1, g2⟩ := key l 1 hk
      exact ⟨by simp only [cnt]; exact g1.symm, by simp only [smk]; exact ⟨h2, h3, g2⟩⟩
/-- Few. -/
def fewB (n : Nd) : Bool := decide (fewN 40 n ≤ 400)
theorem fewB_ok {n : Nd} (h : fewB n = true) : cnt n ≤ 400 ∧ smk 40 n := by
  have h : fewN 40 n ≤ 400 := of_decide_eq_true h
  obtain ⟨h1, h2⟩ := few_ok 40 n (by omega)
  exact ⟨by omega, h2⟩
end Go.Proofs.Ytkngnkonddpbeaa
