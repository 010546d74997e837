/-
  The items of two texts one behind the other; texts of whole forms and notes.
-/
import Derived.Test.YtaaijenbcfjdlaaSplitMath
import Derived.Test.YtaaijenbcfjdlaaGapTx
namespace Go.Proofs.Ytaaijenbcfjdlaa
open Go.RowKit Go.PlainAid

/-- The item that begins at token i is a note, or a form with its end. -/
def Closed (L : List Tk3) (i : Nat) : Prop := (∃ x, L[i]? = some x ∧ x.1 = 11) ∨ ∃ z ∈ L.drop i, z.1 = 10
theorem closed_app {L M : List Tk3} {i : Nat} (hi : i < L.length) (h : Closed L i) : itn ((L ++ M).drop i) = itn (L.drop i) := by
  rw [List.drop_append_of_le_length (by omega)]
  rcases h with ⟨x, h1, h2⟩ | ⟨z, h1, h2⟩
  · rw [drop_cons h1, List.cons_append, itn_note h2, itn_note h2]
  · exact itn_app h1 h2
theorem Closed.left {L M : List Tk3} {i : Nat} (hi : i < L.length) (h : Closed L i) : Closed (L ++ M) i := by
  rcases h with ⟨x, h1, h2⟩ | ⟨z, h1, h2⟩
  · exact .inl ⟨x, by rw [List.getElem?_append_left hi]; exact h1, h2⟩
  · exact .inr ⟨z, by rw [List.drop_append_of_le_length (by omega)]; exact List.mem_append_left _ h1, h2⟩
theorem Closed.right {L M : List Tk3} {i : Nat} (q : Nat) (h : Closed M i) : Closed (L ++ shf q M) (L.length + i) := by
  have e : (L ++ shf q M).drop (L.length + i) = shf q (M.drop i) := by
    rw [List.drop_append, List.drop_of_length_le (by omega), List.nil_append, Nat.add_sub_cancel_left, shf_drop]
  rcases h with ⟨x, h1, h2⟩ | ⟨z, h1, h2⟩
  · exact .inl ⟨(x.1, q + x.2.1, q + x.2.2), by rw [List.getElem?_append_right (by omega), Nat.add_sub_cancel_left]; exact shf_at h1, h2⟩
  · exact .inr ⟨(z.1, q + z.2.1, q + z.2.2), by rw [e]; unfold shf; exact List.mem_map.2 ⟨z, h1, rfl⟩, h2⟩
theorem closed_dot {L : List Tk3} {z : Tk3} {i : Nat} (hi : i < L.length) (hz : L[L.length - 1]? = some z) (hk : z.1 = 10) : Closed L i := by
  refine .inr ⟨z, ?_, hk⟩
  have : (L.drop i)[L.length - 1 - i]? = some z := by rw [List.getElem?_drop, show i + (L.length - 1 - i) = L.length - 1 by omega]; exact hz
  exact List.mem_of_getElem? this
/-- The first one's items stand. -/
theorem sp_left {s c : ByteArray} {L M : List Tk3} {j0 : Nat} (hL : sc s j0 = some L) : ∀ (m i : Nat), L.length - i ≤ m → i ≤ L.length → (∀ y ∈ sp s L i, Closed L y.1) → sp (s ++ c) (L ++ M) i = sp s L i ++ sp (s ++ c) (L ++ M) L.length := by
  intro m
  induction m with
  | zero =>
    intro i h1 h2 _
    obtain rfl : i = L.length := by omega
    rw [sp_end (s := s) (by omega)]; rfl
  | succ m ih =>
    intro i h1 h2 hc
    by_cases h : i < L.length
    · obtain ⟨x, hx⟩ : ∃ x, L[i]? = some x := ⟨_, List.getElem?_eq_getElem h⟩
      have hp := itn_pos (L.drop i)
      have hin := itn_in h
      rw [sp_go hx] at hc ⊢
      have hcl : Closed L i := hc _ (List.mem_cons_self ..)
      rw [sp_go (s := s ++ c) (L := L ++ M) (x := x) (by rw [List.getElem?_append_left h]; exact hx), closed_app h hcl, nls_left hL h,
        ih (i + itn (L.drop i)) (by omega) hin (fun y hy => hc y (List.mem_cons_of_mem _ hy))]
      rfl
    · obtain rfl : i = L.length := by omega
      rw [sp_end (s := s) (by omega)]; rfl
/-- The second one's, from its second token on. -/
theorem sp_right {s c : ByteArray} {L M : List Tk3} : ∀ (m i : Nat), M.length - i ≤ m → 1 ≤ i → sp (s ++ c) (L ++ shf s.size M) (L.length + i) = (sp c M i).map fun y => (L.length + y.1, L.length + y.2.1, y.2.2.1, y.2.2.2) := by
  have hlen : (L ++ shf s.size M).length = L.length + M.length := by rw [List.length_append, shf_len]
  have hdr : ∀ i, (L ++ shf s.size M).drop (L.length + i) = shf s.size (M.drop i) := fun i => by
    rw [List.drop_append, List.drop_of_length_le (by omega), List.nil_append, Nat.add_sub_cancel_left, shf_drop]
  intro m
  induction m with
  | zero => intro i h1 h2; rw [sp_end (by omega), sp_end (by omega)]; rfl
  | succ m ih =>
    intro i h1 h2
    by_cases h : i < M.length
    · obtain ⟨x, hx⟩ : ∃ x, M[i]? = some x := ⟨_, List.getElem?_eq_getElem h⟩
      have hp := itn_pos (M.drop i)
      rw [sp_go hx, sp_go (s := s ++ c) (L := L ++ shf s.size M) (i := L.length + i) (x := (x.1, s.size + x.2.1, s.size + x.2.2)) (by rw [List.getElem?_append_right (by omega), Nat.add_sub_cancel_left]; exact shf_at hx), hdr, itn_shf]
      obtain ⟨j, rfl⟩ : ∃ j, i = j + 1 := ⟨i - 1, by omega⟩
      rw [nls_right h, show L.length + (j + 1) + itn (M.drop (j + 1)) = L.length + ((j + 1) + itn (M.drop (j + 1))) by omega, ih _ (by omega) (by omega)]
      rfl
    · rw [sp_end (by omega), sp_end (by omega)]; rfl
/-- BOTH TEXTS' ITEMS. -/
theorem sp_join {s c : ByteArray} {L M : List Tk3} {j0 : Nat} (hL : sc s j0 = some L) (hc : ∀ y ∈ sp s L 0, Closed L y.1) :
    ∃ W : List It, sp (s ++ c) (L ++ shf s.size M) 0 = sp s L 0 ++ W ∧ W.length = (sp c M 0).length ∧ ∀ (i : Nat) (b : It), (sp c M 0)[i]? = some b →
      W[i]? = some (L.length + b.1, L.length + b.2.1, b.2.2.1, if i = 0 then decide (2 ≤ nls (s ++ c) (L ++ shf s.size M) L.length) else b.2.2.2) := by
  refine ⟨sp (s ++ c) (L ++ shf s.size M) L.length, sp_left hL _ 0 (Nat.le_refl _) (Nat.zero_le _) hc, ?_⟩
  have hlen : (L ++ shf s.size M).length = L.length + M.length := by rw [List.length_append, shf_len]
  by_cases h : 0 < M.length
  · obtain ⟨x, hx⟩ : ∃ x, M[0]? = some x := ⟨_, List.getElem?_eq_getElem h⟩
    have hp := itn_pos (M.drop 0)
    have hdr : (L ++ shf s.size M).drop L.length = shf s.size (M.drop 0) := by
      rw [List.drop_append, List.drop_of_length_le (by omega), List.nil_append, Nat.sub_self, shf_drop]
    rw [sp_go (s := c) hx, sp_go (s := s ++ c) (L := L ++ shf s.size M) (i := L.length) (x := (x.1, s.size + x.2.1, s.size + x.2.2)) (by rw [List.getElem?_append_right (by omega), Nat.sub_self]; exact shf_at hx), hdr, itn_shf, Nat.zero_add,
      sp_right _ _ (Nat.le_refl _) hp]
    refine ⟨by simp, fun i b hb => ?_⟩
    match i, hb with
    | 0, hb =>
      simp only [List.getElem?_cons_zero, Option.some.injEq] at hb
      subst hb
      simp
    | i + 1, hb =>
      simp only [List.getElem?_cons_succ] at hb ⊢
      rw [List.getElem?_map, hb, if_neg (by omega)]
      rfl
  · rw [sp_end (s := s ++ c) (by omega), sp_end (s := c) (by omega)]
    exact ⟨rfl, fun i b hb => by simp at hb⟩
theorem byt_left {s c : ByteArray} {L M : List Tk3} {f t : Nat} (hf : f < L.length) (ht0 : f < t) (ht : t ≤ L.length) (hb : (L.getD (t - 1) (0, 0, 0)).2.2 ≤ s.size) : byt (s ++ c) (L ++ M) f t = byt s L f t := by
  unfold byt
  simp only [List.getD_eq_getElem?_getD] at hb ⊢
  rw [List.getElem?_append_left hf, List.getElem?_append_left (by omega), ext_left7 _ _ hb]
theorem byt_right (s c : ByteArray) (L M : List Tk3) (f t : Nat) (hf : f < t) (ht : t ≤ M.length) : byt (s ++ c) (L ++ shf s.size M) (L.length + f) (L.length + t) = byt c M f t := by
  obtain ⟨x, hx⟩ : ∃ x, M[f]? = some x := ⟨_, List.getElem?_eq_getElem (by omega)⟩
  obtain ⟨y, hy⟩ : ∃ y, M[t - 1]? = some y := ⟨_, List.getElem?_eq_getElem (by omega)⟩
  unfold byt
  simp only [List.getD_eq_getElem?_getD]
  rw [List.getElem?_append_right (by omega), Nat.add_sub_cancel_left, shf_at hx, show L.length + t - 1 = L.length + (t - 1) by omega, List.getElem?_append_right (by omega), Nat.add_sub_cancel_left, shf_at hy, hx, hy]
  exact ext_right7 _ _ _ _
/-! ### texts that are put together of whole forms and notes -/
/-- What is told of each item: is it a note, is a blank line ahead, its bytes. -/
abbrev Tell := Bool × Bool × ByteArray
/-- The text scans as L, ends with a newline that no other one stands ahead of, and its items are these. -/
def Made (s : ByteArray) (L : List Tk3) (I : List Tell) : Prop :=
  scanR s = (L, 0) ∧ 0 < s.size ∧ bt s (s.size - 1) = 10 ∧ (∃ z, L[L.length - 1]? = some z ∧ z.2.2 ≤ s.size ∧ nlr s z.2.2 (s.size - z.2.2) = 1) ∧ (sp s L 0).length = I.length ∧
  ∀ (j : Nat) (y : It), (sp s L 0)[j]? = some y → Closed L y.1 ∧ I[j]? = some (y.2.2.1, y.2.2.2, byt s L y.1 y.2.1)
theorem nlr_add (s : ByteArray) (e n : Nat) : ∀ m, nlr s e (n + m) = nlr s e n + nlr s (e + n) m
  | 0 => rfl
  | m + 1 => by
    rw [← Nat.add_assoc]
    simp only [nlr]
    rw [nlr_add s e n m, Nat.add_assoc e n m]
    omega
theorem Made.join {s c : ByteArray} {L M : List Tk3} {I : List Tell} {note b : Bool} {wd : ByteArray} (h : Made s L I) (hc : Made c M [(note, b, wd)]) {x : Tk3} (hx : M[0]? = some x) (hz : s.size + c.size ≤ 65536) :
    Made (s ++ c) (L ++ shf s.size M) (I ++ [(note, decide (1 ≤ nlr c 0 x.2.1), wd)]) := by
  obtain ⟨a1, a2, a3, ⟨z, a4, a5, a6⟩, a7, a8⟩ := h
  obtain ⟨c1, c2, c3, ⟨u, c4, c5, c6⟩, c7, c8⟩ := hc
  obtain ⟨-, -, hsL⟩ := scan_good a1
  have hLl : 0 < L.length := by
    have := (List.getElem?_eq_some_iff.1 a4).1; omega
  have hMl : 0 < M.length := by
    have := (List.getElem?_eq_some_iff.1 hx).1; omega
  have hlen : (L ++ shf s.size M).length = L.length + M.length := by rw [List.length_append, shf_len]
  have hcl : ∀ y ∈ sp s L 0, Closed L y.1 := fun y hy => by
    obtain ⟨j, hj⟩ := List.getElem?_of_mem hy
    exact (a8 j y hj).1
  obtain ⟨W, w1, w2, w3⟩ := sp_join (s := s) (c := c) (L := L) (M := M) hsL hcl
  have hcl1 : (sp c M 0).length = 1 := by rw [c7]; rfl
  obtain ⟨v, hv⟩ : ∃ v, (sp c M 0)[0]? = some v := ⟨_, List.getElem?_eq_getElem (by omega)⟩
  obtain ⟨v1, v2⟩ := c8 0 v hv
  have hw := w3 0 v hv
  rw [if_pos rfl] at hw
  have hbl : nls (s ++ c) (L ++ shf s.size M) (L.length : Nat) = 1 + nlr c 0 x.2.1 := by
    obtain ⟨k, hk⟩ : ∃ k, L.length = k + 1 := ⟨L.length - 1, by omega⟩
    rw [hk, Nat.add_sub_cancel] at a4
    have e : ((L.length : Nat) : Int) = (k : Int) + 1 := by omega
    rw [e, nls_in (x := z) (y := (x.1, s.size + x.2.1, s.size + x.2.2)) (by rw [List.getElem?_append_left (by omega)]; exact a4) (by rw [← hk, List.getElem?_append_right (by omega), Nat.sub_self]; exact shf_at hx)]
    simp only
    rw [show s.size + x.2.1 - z.2.2 = (s.size - z.2.2) + x.2.1 by omega, nlr_add, nlr_left _ (by omega), a6, show z.2.2 + (s.size - z.2.2) = s.size + 0 by omega, nlr_right]
  have hblk : decide (2 ≤ nls (s ++ c) (L ++ shf s.size M) (L.length : Nat)) = decide (1 ≤ nlr c 0 x.2.1) := by
    rw [hbl]; exact decide_eq_decide.2 (by omega)
  rw [hblk] at hw
  have hz2 : (s ++ c).size = s.size + c.size := ByteArray.size_append
  refine ⟨joinN_is a2 a3 a1 c1 hz, by omega, ?_, ⟨(u.1, s.size + u.2.1, s.size + u.2.2), ?_, by simp only; omega, ?_⟩, ?_, ?_⟩
  · rw [hz2, show s.size + c.size - 1 = s.size + (c.size - 1) by omega, bt_app_r]; exact c3
  · rw [hlen, List.getElem?_append_right (by omega), show L.length + M.length - 1 - L.length = M.length - 1 by omega]; exact shf_at c4
  · simp only
    rw [nlr_right, hz2, show s.size + c.size - (s.size + u.2.2) = c.size - u.2.2 by omega]; exact c6
  · rw [w1, List.length_append, List.length_append, w2, hcl1, a7]; rfl
  · intro j y hy
    rw [w1] at hy
    by_cases hj : j < (sp s L 0).length
    · rw [List.getElem?_append_left hj] at hy
      obtain ⟨g1, g2⟩ := a8 j y hy
      obtain ⟨-, -, p3, -, p5, p6, -⟩ := sp_each s L _ 0 (Nat.le_refl _) j y hy
      have hp := itn_pos (L.drop y.1)
      refine ⟨g1.left p5, ?_⟩
      rw [List.getElem?_append_left (by omega), byt_left p5 (by omega) p6]
      · exact g2
      · have hin : y.2.1 - 1 < L.length := by omega
        rw [List.getD_eq_getElem?_getD, List.getElem?_eq_getElem hin]
        simp only [Option.getD_some]
        by_cases hlast : y.2.1 - 1 + 1 < L.length
        · obtain ⟨t1, t2, t3, t4⟩ := sc_pair L _ hsL (y.2.1 - 1) _ _ (List.getElem?_eq_getElem hin) (List.getElem?_eq_getElem hlast)
          omega
        · have e : y.2.1 - 1 = L.length - 1 := by omega
          have e2 : L[y.2.1 - 1] = z := by
            have h3 : L[y.2.1 - 1]? = some z := by rw [e]; exact a4
            rw [List.getElem?_eq_getElem hin] at h3
            exact Option.some.inj h3
          rw [e2]; exact a5
    · have hj2 : j = (sp s L 0).length := by
        have := (List.getElem?_eq_some_iff.1 hy).1
        rw [List.length_append, w2, hcl1] at this
        omega
      subst hj2
      rw [List.getElem?_append_right (Nat.le_refl _), Nat.sub_self, hw] at hy
      simp only [Option.some.injEq] at hy
      subst hy
      obtain ⟨-, -, p3, -, p5, p6, p7, -⟩ := sp_each c M _ 0 (Nat.le_refl _) 0 v hv
      have hp := itn_pos (M.drop v.1)
      refine ⟨v1.right s.size, ?_⟩
      rw [a7, List.getElem?_append_right (Nat.le_refl _), Nat.sub_self]
      simp only [List.getElem?_cons_zero, Option.some.injEq] at v2 ⊢
      rw [byt_right s c L M v.1 v.2.1 (by omega) p6]
      simp only [Prod.mk.injEq] at v2 ⊢
      exact ⟨v2.1, trivial, v2.2.2⟩
end Go.Proofs.Ytaaijenbcfjdlaa
