/-
  A tree whose texts are no longer than what can come in.
-/
import Derived.Test.YtkdaombcbcegfaaTreeMath
namespace Go.Proofs.Ytkdaombcbcegfaa
open Go.RowKit Go.PlainAid

/-- Of a text: no longer than what can come in; no longer than what can be cloned. -/
def Sr (t : ByteArray) : Prop := t.size ≤ 140737488351232
def Sz (t : ByteArray) : Prop := t.size ≤ 281474976710656
theorem Sr.sz {t : ByteArray} (h : Sr t) : Sz t := by unfold Sr at h; unfold Sz; omega
/-- Of a tree: its comments and literals. -/
def Szd (n : Nd) : Prop := (∀ t ∈ nts n, Sz t) ∧ (∀ t ∈ lts n, Sz t)
theorem mem_nts : ∀ {l : List Nd} {t : ByteArray}, t ∈ ntsL l → ∃ x ∈ l, t ∈ nts x
  | [], t, h => by simp [ntsL] at h
  | x :: r, t, h => by
    simp only [ntsL, List.mem_append] at h
    rcases h with h | h
    · exact ⟨x, by simp, h⟩
    · obtain ⟨y, hy, ht⟩ := mem_nts h
      exact ⟨y, by simp [hy], ht⟩
theorem mem_lts : ∀ {l : List Nd} {t : ByteArray}, t ∈ ltsL l → ∃ x ∈ l, t ∈ lts x
  | [], t, h => by simp [ltsL] at h
  | x :: r, t, h => by
    simp only [ltsL, List.mem_append] at h
    rcases h with h | h
    · exact ⟨x, by simp, h⟩
    · obtain ⟨y, hy, ht⟩ := mem_lts h
      exact ⟨y, by simp [hy], ht⟩
theorem szd_mk {k : Int} {t : ByteArray} {l : List Nd} {br bl : Bool} {no ta : List ByteArray} (ht : Sz t) (hn : ∀ x ∈ no, Sz x) (hta : ∀ x ∈ ta, Sz x) (hl : ∀ x ∈ l, Szd x) : Szd (.mk k t l br bl no ta) := by
  constructor
  · intro u hu
    simp only [nts, List.mem_append] at hu
    rcases hu with (hu | hu) | hu
    · exact hn u hu
    · obtain ⟨x, hx, hu⟩ := mem_nts hu
      exact (hl x hx).1 u hu
    · exact hta u hu
  · intro u hu
    simp only [lts, List.mem_append] at hu
    rcases hu with hu | hu
    · split at hu
      · simp only [List.mem_cons, List.not_mem_nil, or_false] at hu
        rw [hu]; exact ht
      · simp at hu
    · obtain ⟨x, hx, hu⟩ := mem_lts hu
      exact (hl x hx).2 u hu
end Go.Proofs.Ytkdaombcbcegfaa
