/-
  A tree whose texts are no longer than what can come in.
-/
import Derived.Test.YtbjgoigdhijbgaaTreeMath
namespace Go.Proofs.Ytbjgoigdhijbgaa
open Go.RowKit Go.PlainAid

/-- Of a text: no longer than what can come in; no longer than what can be cloned. -/
def Sr (t : ByteArray) : Prop := t.size ≤ 140737488351232
def Sz (t : ByteArray) : Prop := t.size ≤ 281474976710656
theorem Sr.sz {t : ByteArray} (h : Sr t) : Sz t := by unfold Sr at h; unfold Sz; omega
/-- Of a tree: its comments and literals. -/
def Szd (n : Nd) : Prop := (∀ t ∈ nts n, Sz t) ∧ (∀ t ∈ lts n, Sz t)
theorem mem_nts : ∀ {l : List Nd} {t : ByteArray}, t ∈ ntsL l → ∃ x ∈ l, t ∈ nts x
  | [], t, h => by simp [ntsL] at h
  | x :: r, t, h => by
    simp only [ntsL, List.mem_append] at h
    rcases h with h | h
    · exact ⟨x, by simp, h⟩
    · obtain ⟨y, hy, ht⟩ := mem_nts h
      exact ⟨y, by simp [hy], ht⟩
theorem mem_lts : ∀ {l : List Nd} {t : ByteArray}, t ∈ ltsL l → ∃ x ∈ l, t ∈ lts x
  | [], t, h => by simp [ltsL] at h
  | x :: r, t, h => by
    simp only [ltsL, List.mem_append] at h
    rcases h with h | h
    · exact ⟨x, by simp, h⟩
    · obtain ⟨y, hy, ht⟩ := mem_lts h
      exact ⟨y, by simp [hy], ht⟩
theorem szd_mk {k : Int} {t : ByteArray} {l : List Nd} {br bl : Bool} {no ta : List ByteArray} (ht : Sz t) (hn : ∀ x ∈ no, Sz x) (hta : ∀ x ∈ ta, Sz x) (hl : ∀ x ∈ l, Szd x) : Szd (.mk k t l br bl no ta) := by
  constructor
  · intro u hu
    simp only [nts, List.mem_append] at hu
    rcases hu with (hu | hu) | hu
    · exact hn u hu
    · obtain ⟨x, hx, hu⟩ := mem_nts hu
      exact (hl x hx).1 u hu
    · exact hta u hu
  · intro u hu
    simp only [lts, List.mem_append] at hu
    rcases hu with hu | hu
    · split at hu
      · simp only [List.mem_cons, List.not_mem_nil, or_false] at hu
        rw [hu]; exact ht
      · simp at hu
    · obtain ⟨x, hx, hu⟩ := mem_lts hu
      exact (hl x hx).2 u hu
mutual
/-- All texts of all nodes. -/
def txs : Nd → List ByteArray
  | .mk _ t l _ _ no ta => t :: (no ++ ta ++ txsL l)
def txsL : List Nd → List ByteArray
  | [] => []
  | x :: r => txs x ++ txsL r
end
theorem mem_txs : ∀ {l : List Nd} {t : ByteArray}, t ∈ txsL l → ∃ x ∈ l, t ∈ txs x
  | [], t, h => by simp [txsL] at h
  | x :: r, t, h => by
    simp only [txsL, List.mem_append] at h
    rcases h with h | h
    · exact ⟨x, by simp, h⟩
    · obtain ⟨y, hy, ht⟩ := mem_txs h
      exact ⟨y, by simp [hy], ht⟩
theorem txs_mem : ∀ {l : List Nd} {x : Nd} {t : ByteArray}, x ∈ l → t ∈ txs x → t ∈ txsL l
  | y :: r, x, t, hx, ht => by
    simp only [txsL, List.mem_append]
    rcases List.mem_cons.1 hx with rfl | hx
    · exact .inl ht
    · exact .inr (txs_mem hx ht)
mutual
/-- All kinds of all nodes. -/
def kds : Nd → List Int
  | .mk k _ l _ _ _ _ => k :: kdsL l
def kdsL : List Nd → List Int
  | [] => []
  | x :: r => kds x ++ kdsL r
end
theorem mem_kds : ∀ {l : List Nd} {t : Int}, t ∈ kdsL l → ∃ x ∈ l, t ∈ kds x
  | [], t, h => by simp [kdsL] at h
  | x :: r, t, h => by
    simp only [kdsL, List.mem_append] at h
    rcases h with h | h
    · exact ⟨x, by simp, h⟩
    · obtain ⟨y, hy, ht⟩ := mem_kds h
      exact ⟨y, by simp [hy], ht⟩
theorem kds_mem : ∀ {l : List Nd} {x : Nd} {t : Int}, x ∈ l → t ∈ kds x → t ∈ kdsL l
  | y :: r, x, t, hx, ht => by
    simp only [kdsL, List.mem_append]
    rcases List.mem_cons.1 hx with rfl | hx
    · exact .inl ht
    · exact .inr (kds_mem hx ht)
/-- Of a kind: an int. -/
def Kw (k : Int) : Prop := (Lit.int .i64 k).wf = true
/-- Of a tree: all its texts and kinds. -/
def Szt (n : Nd) : Prop := (∀ t ∈ txs n, Sz t) ∧ ∀ k ∈ kds n, Kw k
theorem szt_mk {k : Int} {t : ByteArray} {l : List Nd} {br bl : Bool} {no ta : List ByteArray} (hk : Kw k) (ht : Sz t) (hn : ∀ x ∈ no, Sz x) (hta : ∀ x ∈ ta, Sz x) (hl : ∀ x ∈ l, Szt x) : Szt (.mk k t l br bl no ta) := by
  constructor
  · intro u hu
    simp only [txs, List.mem_cons, List.mem_append] at hu
    rcases hu with rfl | (hu | hu) | hu
    · exact ht
    · exact hn u hu
    · exact hta u hu
    · obtain ⟨x, hx, hu⟩ := mem_txs hu
      exact (hl x hx).1 u hu
  · intro u hu
    simp only [kds, List.mem_cons] at hu
    rcases hu with rfl | hu
    · exact hk
    · obtain ⟨x, hx, hu⟩ := mem_kds hu
      exact (hl x hx).2 u hu
theorem Szt.inv {k : Int} {t : ByteArray} {l : List Nd} {br bl : Bool} {no ta : List ByteArray} (h : Szt (.mk k t l br bl no ta)) : Sz t ∧ (∀ x ∈ no, Sz x) ∧ (∀ x ∈ ta, Sz x) ∧ ∀ x ∈ l, Szt x :=
  ⟨h.1 t (by simp [txs]), fun x hx => h.1 x (by simp [txs, hx]), fun x hx => h.1 x (by simp [txs, hx]), fun x hx => ⟨fun u hu => h.1 u (by simp [txs, txs_mem hx hu]), fun u hu => h.2 u (by simp [kds, kds_mem hx hu])⟩⟩
theorem Szt.kw {k : Int} {t : ByteArray} {l : List Nd} {br bl : Bool} {no ta : List ByteArray} (h : Szt (.mk k t l br bl no ta)) : Kw k := h.2 k (by simp [kds])
def Sza (n : Nd) : Prop := Szd n ∧ Szt n
theorem sza_mk {k : Int} {t : ByteArray} {l : List Nd} {br bl : Bool} {no ta : List ByteArray} (hk : Kw k) (ht : Sz t) (hn : ∀ x ∈ no, Sz x) (hta : ∀ x ∈ ta, Sz x) (hl : ∀ x ∈ l, Sza x) : Sza (.mk k t l br bl no ta) :=
  ⟨szd_mk ht hn hta (fun x hx => (hl x hx).1), szt_mk hk ht hn hta (fun x hx => (hl x hx).2)⟩
end Go.Proofs.Ytbjgoigdhijbgaa
