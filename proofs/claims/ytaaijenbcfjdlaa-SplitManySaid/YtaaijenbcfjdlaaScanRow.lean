/-
  What a row of tokens reads as; what Scan answers for a text that is known: neither side's code.
-/
import Derived.Test.YtaaijenbcfjdlaaScanDefs
import Derived.Test.YtaaijenbcfjdlaaScanPure
namespace Go.Proofs.Ytaaijenbcfjdlaa
open Go.RowKit Go.PlainAid

/-- v is the row of these tokens. -/
def TkAt (W : World) (v : Value) (s : ByteArray) (L : List Tk3) : Prop :=
  ∃ a cap, v = .slice a L.length cap ∧ (0 < L.length → ∃ g, a = some ⟨g, 0, none⟩ ∧ g < W.heap.size ∧ ∀ i x, L[i]? = some x →
    W.cell? ⟨g, i * 3, none⟩ = some (.int .i64 x.1) ∧ W.cell? ⟨g, i * 3 + 1, none⟩ = some (.string (s.extract x.2.1 x.2.2)) ∧ W.cell? ⟨g, i * 3 + 2, none⟩ = some (.int .i64 x.2.1))
theorem TkAt.below {W W' : World} {v : Value} {s : ByteArray} {L : List Tk3} (h : TkAt W v s L) (hb : Below W.heap.size W W') : TkAt W' v s L := by
  obtain ⟨a, cap, h1, h2⟩ := h
  refine ⟨a, cap, h1, fun h0 => ?_⟩
  obtain ⟨g, g1, g2, g3⟩ := h2 h0
  refine ⟨g, g1, Nat.lt_of_lt_of_le g2 hb.size, fun i x hx => ?_⟩
  obtain ⟨c1, c2, c3⟩ := g3 i x hx
  exact ⟨(hb.cell (p := ⟨g, i * 3, none⟩) g2).trans c1, (hb.cell (p := ⟨g, i * 3 + 1, none⟩) g2).trans c2, (hb.cell (p := ⟨g, i * 3 + 2, none⟩) g2).trans c3⟩
theorem flat_at (s : ByteArray) : ∀ (L : List Tk3) (i : Nat) (x : Tk3), L[i]? = some x → ∀ j, j < 3 → (tkcs s L)[i * 3 + j]? = (tkc s x)[j]?
  | [], i, x, h, _, _ => by simp at h
  | y :: t, 0, x, h, j, hj => by
    simp at h
    subst h
    show ((tkc s y ++ tkcs s t))[0 * 3 + j]? = _
    rw [List.getElem?_append_left (by show 0 * 3 + j < 3; omega)]
    simp
  | y :: t, i + 1, x, h, j, hj => by
    simp at h
    show ((tkc s y ++ tkcs s t))[(i + 1) * 3 + j]? = _
    rw [List.getElem?_append_right (by show 3 ≤ (i + 1) * 3 + j; omega)]
    have : (i + 1) * 3 + j - (tkc s y).length = i * 3 + j := by show (i + 1) * 3 + j - 3 = i * 3 + j; omega
    rw [this]
    exact flat_at s t i x h j hj
theorem tkAt_of {W : World} {base : Nat} {v : Value} {s : ByteArray} {L : List Tk3} (h : W.ownsRow base 34 3 v L.length (tkcs s L)) : TkAt W v s L := by
  obtain ⟨h1, ⟨rfl, h2⟩ | ⟨g, cap, cur, rfl, hb, hg, hn, hc, hz, ht⟩⟩ := h
  · exact ⟨none, 0, by rw [h2], fun h0 => by omega⟩
  · refine ⟨some ⟨g, 0, none⟩, cap, rfl, fun _ => ⟨g, rfl, (Array.getElem?_eq_some_iff.1 hg).1, fun i x hx => ?_⟩⟩
    have hi : i < L.length := (List.getElem?_eq_some_iff.1 hx).1
    have hcell : ∀ j, j < 3 → W.cell? ⟨g, i * 3 + j, none⟩ = (tkc s x)[j]? := fun j hj => by
      rw [cell_of_row W g _ _ _ _ hg, ← flat_at s L i x hx j hj, ← ht, List.getElem?_take_of_lt (by omega), Array.getElem?_toList]
    exact ⟨hcell 0 (by omega), hcell 1 (by omega), hcell 2 (by omega)⟩
/-- Scan's answer for a text that is known. -/
def scanF (s : ByteArray) : List Tk3 × Int :=
  if 65536 < s.size then ([], 3) else if vdF s s.size 0 = false then ([], 2) else match scF s s.size (fwF bl s s.size 0) with
    | none => ([], 4)
    | some l => (l, 0)
theorem scan_F (s : ByteArray) : scanR s = scanF s := by
  unfold scanR scanF
  rw [vd_F s s.size 0 (by omega), fw_F bl s s.size 0 (by omega), sc_F s s.size _ (by omega)]
  generalize scF s s.size (fwF bl s s.size 0) = o
  cases o <;> rfl
theorem sc_len {s : ByteArray} : ∀ (l : List Tk3) (k : Nat), sc s k = some l → l.length ≤ s.size - k
  | [], _, _ => Nat.zero_le _
  | x :: l, k, h => by
    obtain ⟨h1, h2, h3, h4, h5, h6, h7⟩ := sc_cons h
    have h8 := fw_ge bl s x.2.2
    have := sc_len l _ h7
    simp only [List.length_cons]
    omega
theorem scan_len (s : ByteArray) : (scanR s).1.length ≤ s.size := by
  unfold scanR
  split
  · exact Nat.zero_le _
  · split
    · exact Nat.zero_le _
    · cases h : sc s (fw bl s 0) with
      | none => exact Nat.zero_le _
      | some l => exact Nat.le_trans (sc_len l _ h) (Nat.sub_le _ _)
theorem scan_good {s : ByteArray} {L : List Tk3} (h : scanR s = (L, 0)) : s.size ≤ 65536 ∧ vd s 0 = true ∧ sc s (fw bl s 0) = some L := by
  unfold scanR at h
  by_cases h1 : 65536 < s.size
  · rw [if_pos h1] at h; exact absurd (congrArg Prod.snd h) (show ¬ ((3 : Int) = 0) by decide)
  · rw [if_neg h1] at h
    by_cases h2 : vd s 0 = false
    · rw [if_pos h2] at h; exact absurd (congrArg Prod.snd h) (show ¬ ((2 : Int) = 0) by decide)
    · rw [if_neg h2] at h
      cases h3 : sc s (fw bl s 0) with
      | none => rw [h3] at h; exact absurd (congrArg Prod.snd h) (show ¬ ((4 : Int) = 0) by decide)
      | some l =>
        rw [h3] at h
        have h4 : l = L := congrArg Prod.fst h
        exact ⟨by omega, by simpa using h2, by rw [h4]⟩
theorem scan_of {s : ByteArray} {L : List Tk3} (h1 : s.size ≤ 65536) (h2 : vd s 0 = true) (h3 : sc s (fw bl s 0) = some L) : scanR s = (L, 0) := by
  unfold scanR
  rw [if_neg (by omega), if_neg (by rw [h2]; decide), h3]
theorem scan_bad {s : ByteArray} {L : List Tk3} {c : Int} (h : scanR s = (L, c)) (hc : c ≠ 0) : L = [] := by
  unfold scanR at h
  by_cases h1 : 65536 < s.size
  · rw [if_pos h1] at h; exact (congrArg Prod.fst h).symm
  · rw [if_neg h1] at h
    by_cases h2 : vd s 0 = false
    · rw [if_pos h2] at h; exact (congrArg Prod.fst h).symm
    · rw [if_neg h2] at h
      cases h3 : sc s (fw bl s 0) with
      | none => rw [h3] at h; exact (congrArg Prod.fst h).symm
      | some l => rw [h3] at h; exact absurd (congrArg Prod.snd h).symm hc
/-- The token that comes next, where some do. -/
theorem tok_at {s : ByteArray} {L : List Tk3} {k q : Nat} (h : sc s (fw bl s q) = some (L.drop k)) (hk : k < L.length) (hv : vd s 0 = true) :
    ∃ (K : Int) (a n : Nat), L[k]? = some (K, a, a + n) ∧ a = fw bl s q ∧ q ≤ a ∧ 0 < n ∧ a + n ≤ s.size ∧ K ≠ 0 ∧ one s a = (K, a + n) ∧ bl (bt s a) = false ∧ vd s a = true ∧ (a + n = s.size ∨ bt s (a + n) < 128) ∧ sc s (fw bl s (a + n)) = some (L.drop (k + 1)) := by
  rw [List.drop_eq_getElem_cons hk] at h
  obtain ⟨h1, h2, h3, h4, h5, h6, h7⟩ := sc_cons h
  have hx : L[k]? = some (L[k]) := List.getElem?_eq_getElem hk
  generalize L[k] = x at h1 h2 h3 h4 h5 h6 h7 hx
  obtain ⟨K, a, e⟩ := x
  simp only at h2 h3 h4 h5 h6 h7
  rw [← h3] at h1 h2 h5
  have hge := fw_ge bl s q
  refine ⟨K, a, e - a, ?_, h3, by omega, by omega, by omega, h4, ?_, ?_, ?_, ?_, ?_⟩
  · rw [hx, show a + (e - a) = e by omega]
  · rw [h2, show a + (e - a) = e by omega]
  · rw [h3]; exact fw_not bl s q (by omega)
  · exact vd_lead h1 (one_ascii h1 (by rw [h2]; exact h4)) _ 0 (Nat.le_refl _) (Nat.zero_le _) hv
  · rw [show a + (e - a) = e by omega]; exact behind h6 h7
  · rw [show a + (e - a) = e by omega]; exact h7
theorem no_tok {s : ByteArray} {L : List Tk3} {k q : Nat} (h : sc s (fw bl s q) = some (L.drop k)) (hk : ¬ k < L.length) : ∀ j, q ≤ j → j < s.size → bl (bt s j) = true := by
  rw [List.drop_eq_nil_of_le (by omega)] at h
  have := sc_nil h
  exact fun j h1 h2 => fw_all bl s q j h1 (by omega)
theorem bl_four {c : Int} (h : bl c = true) : c = 32 ∨ c = 9 ∨ c = 10 ∨ c = 13 := by
  unfold bl at h
  simp only [Bool.or_eq_true, beq_iff_eq] at h
  omega
theorem ext_app (X Y : ByteArray) : (X ++ Y).extract 0 X.size = X := by
  apply ByteArray.ext
  apply Array.toList_inj.1
  rw [Lib.extract_data]
  simp only [ByteArray.toList_data_append]
  have hl : X.data.toList.length = X.size := by rw [Array.length_toList]; rfl
  show ((X.data.toList ++ Y.data.toList).drop 0).take (X.size - 0) = _
  rw [List.drop_zero, Nat.sub_zero, ← hl, List.take_left]
theorem kd2_two (s : ByteArray) (k M : Nat) (K : Int) : kd2 s k M K = K ∨ (K = 9 ∧ kd2 s k M K = 10 ∧ M = 1 ∧ bt s k = 46) := by
  unfold kd2
  split
  · rename_i g; exact .inr ⟨g.1, rfl, g.2.2, g.2.1⟩
  · exact .inl rfl
theorem one_byte {X : ByteArray} {n : Nat} (hn : X.size = n) (h1 : n = 1) (hb : bt X 0 = 46) : (X.toList == [46]) = true := by
  rw [ByteArray.toList_eq]
  have hl : X.data.toList.length = 1 := by rw [Array.length_toList]; show X.size = 1; omega
  match hd : X.data.toList, hl with
  | [b], _ =>
    have h0 : 0 < X.size := by omega
    have hg := get_bt X 0 h0
    have e1 : X[0]'h0 = b := by
      have : X.data.toList[0]'(by rw [hd]; exact Nat.zero_lt_one) = b := by simp only [hd, List.getElem_cons_zero]
      exact this
    rw [e1, hb] at hg
    have : b = 46 := UInt8.toNat_inj.1 (by show b.toNat = 46; omega)
    rw [this]; rfl
theorem byte_one {X : ByteArray} (h : (X.toList == [46]) = true) : X = { data := #[46] } := by
  have h1 := (by rw [← ByteArray.toList_eq]; simpa using h : X.data.toList = [46])
  apply ByteArray.ext
  apply Array.toList_inj.1
  exact h1
theorem dot_kind {s : ByteArray} {k e : Nat} {K : Int} (h : one s k = (K, e)) (hb : bt s k = 46) (hK : K ≠ 0) : K = 9 ∨ K = 10 := by
  unfold one at h
  rw [hb, if_neg (by decide)] at h
  by_cases c : (46 : Int) = 46 ∧ (k + 1 = s.size ∨ bt s (k + 1) = 37 ∨ k + 1 < fw bl s (k + 1))
  · rw [if_pos c] at h
    exact .inr (congrArg Prod.fst h).symm
  · rw [if_neg c, if_neg (by decide), if_neg (by decide), if_neg (by decide), if_neg (by decide), if_neg (by decide), if_neg (by decide)] at h
    by_cases c2 : lgL (s.data.toList.drop k) = 0
    · rw [if_pos c2] at h; exact absurd (congrArg Prod.fst h).symm hK
    · rw [if_neg c2] at h; exact .inl (congrArg Prod.fst h).symm
theorem kd2_dot {s : ByteArray} {a n : Nat} {K : Int} (ho : one s a = (K, a + n)) (hK : K ≠ 0) (he : a + n ≤ s.size) (h : ((s.extract a (a + n)).toList == [46]) = true) : kd2 s a n K = 10 := by
  have h1 := byte_one h
  have hz := size_ext s a (a + n) he
  rw [h1] at hz
  have h2 : ({ data := #[46] } : ByteArray).size = 1 := rfl
  have hn : n = 1 := by omega
  have hb : bt s a = 46 := by
    have := bt_ext s a (a + n) 0 he (by omega)
    rw [h1, Nat.add_zero] at this
    rw [← this]; decide
  unfold kd2
  rcases dot_kind ho hb hK with h3 | h3
  · rw [if_pos ⟨h3, hb, hn⟩]
  · rw [if_neg (by omega), h3]
theorem kd2_not {s : ByteArray} {a n : Nat} {K : Int} (he : a + n ≤ s.size) (h : ((s.extract a (a + n)).toList == [46]) = false) : kd2 s a n K = K := by
  rcases kd2_two s a n K with h1 | ⟨-, -, h3, h4⟩
  · exact h1
  · have hz := size_ext s a (a + n) he
    have := one_byte (X := s.extract a (a + n)) (n := n) (by omega) h3 (by rw [bt_ext s a (a + n) 0 he (by omega), Nat.add_zero]; exact h4)
    rw [h] at this; cases this
theorem nlj_size {s : ByteArray} : ∀ (l : List Tk3) (k : Nat), sc s k = some l → (nlj s l).size ≤ 2 * (s.size - k)
  | [], _, _ => Nat.zero_le _
  | x :: l, k, h => by
    obtain ⟨h1, h2, h3, h4, h5, h6, h7⟩ := sc_cons h
    have ih := nlj_size l _ h7
    have h8 := fw_ge bl s x.2.2
    have hz := size_ext s x.2.1 x.2.2 h6
    have h10 : (⟨#[10]⟩ : ByteArray).size = 1 := rfl
    show (s.extract x.2.1 x.2.2 ++ (⟨#[10]⟩ ++ nlj s l)).size ≤ _
    rw [ByteArray.size_append, ByteArray.size_append, hz, h10]
    omega
theorem fw_nlj {s : ByteArray} {k : Nat} : ∀ (l : List Tk3), sc s k = some l → (k < s.size → bl (bt s k) = false) → fw bl (nlj s l) 0 = 0
  | [], _, _ => by
    have h1 := fw_ge bl (nlj s []) 0
    have h2 := fw_le bl (nlj s []) 0 (Nat.zero_le _)
    have h3 : (nlj s []).size = 0 := rfl
    omega
  | x :: l, h, hb => by
    obtain ⟨h1, h2, h3, h4, h5, h6, h7⟩ := sc_cons h
    have hz := size_ext s x.2.1 x.2.2 h6
    refine fw_stop ?_
    show bl (bt (s.extract x.2.1 x.2.2 ++ (⟨#[10]⟩ ++ nlj s l)) 0) = false
    rw [bt_app_l _ _ _ (by omega), bt_ext s x.2.1 x.2.2 0 h6 (by omega), Nat.add_zero, h3]
    exact hb h1
theorem rel_len (s : ByteArray) : ∀ (l : List Tk3) (p : Nat), (rel s p l).length = l.length
  | [], _ => rfl
  | x :: l, p => by
    show (rel s _ l).length + 1 = l.length + 1
    rw [rel_len s l]
theorem ext_mid (y X r : ByteArray) : (y ++ (X ++ r)).extract y.size (y.size + X.size) = X := by
  apply ByteArray.ext
  apply Array.toList_inj.1
  rw [Lib.extract_data]
  simp only [ByteArray.toList_data_append]
  have hl : X.data.toList.length = X.size := by rw [Array.length_toList]; rfl
  have hy : y.data.toList.length = y.size := by rw [Array.length_toList]; rfl
  rw [List.drop_append_of_le_length (by omega), List.drop_of_length_le (by omega), List.nil_append, show y.size + X.size - y.size = X.data.toList.length by omega, List.take_left]
theorem rel_at {s : ByteArray} : ∀ (l : List Tk3) (k : Nat) (y : ByteArray), sc s k = some l → ∀ (i : Nat) (x : Tk3), l[i]? = some x →
    ∃ P, (rel s y.size l)[i]? = some (kd2 s x.2.1 (x.2.2 - x.2.1) x.1, P, P + (x.2.2 - x.2.1)) ∧ (y ++ nlj s l).extract P (P + (x.2.2 - x.2.1)) = s.extract x.2.1 x.2.2
  | [], _, _, _, i, x, hx => by simp at hx
  | z :: l, k, y, h, i, x, hx => by
    obtain ⟨h1, h2, h3, h4, h5, h6, h7⟩ := sc_cons h
    have hz := size_ext s z.2.1 z.2.2 h6
    have h10 : (⟨#[10]⟩ : ByteArray).size = 1 := rfl
    match i, hx with
    | 0, hx =>
      simp only [List.getElem?_cons_zero, Option.some.injEq] at hx
      subst hx
      refine ⟨y.size, rfl, ?_⟩
      have := ext_mid y (s.extract z.2.1 z.2.2) (⟨#[10]⟩ ++ nlj s l)
      rw [hz] at this
      exact this
    | i + 1, hx =>
      simp only [List.getElem?_cons_succ] at hx
      have hy : (y ++ (s.extract z.2.1 z.2.2 ++ (⟨#[10]⟩ : ByteArray))).size = y.size + (z.2.2 - z.2.1) + 1 := by rw [ByteArray.size_append, ByteArray.size_append, hz, h10]; omega
      obtain ⟨P, p1, p2⟩ := rel_at l _ (y ++ (s.extract z.2.1 z.2.2 ++ ⟨#[10]⟩)) h7 i x hx
      rw [hy] at p1
      rw [← app_assoc3] at p2
      exact ⟨P, p1, p2⟩
/-- v is the row of these tokens, each with a newline behind. -/
def RelAt (W : World) (v : Value) (s : ByteArray) (L : List Tk3) : Prop :=
  ∃ a cap, v = .slice a L.length cap ∧ (0 < L.length → ∃ g, a = some ⟨g, 0, none⟩ ∧ g < W.heap.size ∧ ∀ (i : Nat) (x : Tk3), L[i]? = some x →
    W.cell? ⟨g, i * 3, none⟩ = some (.int .i64 (kd2 s x.2.1 (x.2.2 - x.2.1) x.1)) ∧ W.cell? ⟨g, i * 3 + 1, none⟩ = some (.string (s.extract x.2.1 x.2.2)))
/-- The two tokens' cells. -/
def Kr (W : World) (g : Nat) (X Y : ByteArray) (A B : Int) : Prop :=
  (W.cell? ⟨g, 0, none⟩ = some (.int .i64 A) ∧ W.cell? ⟨g, 1, none⟩ = some (.string X) ∧ W.cell? ⟨g, 3, none⟩ = some (.int .i64 B) ∧ W.cell? ⟨g, 4, none⟩ = some (.string Y) ∧ W.cell? ⟨g, 5, none⟩ = some (.int .i64 ((X.size : Int) + 1))) ∧ g < W.heap.size
theorem Kr.below {W W' : World} {g : Nat} {X Y : ByteArray} {A B : Int} (h : Kr W g X Y A B) (hb : Below W.heap.size W W') : Kr W' g X Y A B := by
  obtain ⟨⟨h1, h2, h3, h4, h5⟩, h6⟩ := h
  exact ⟨⟨(hb.cell (p := ⟨g, 0, none⟩) h6).trans h1, (hb.cell (p := ⟨g, 1, none⟩) h6).trans h2, (hb.cell (p := ⟨g, 3, none⟩) h6).trans h3, (hb.cell (p := ⟨g, 4, none⟩) h6).trans h4, (hb.cell (p := ⟨g, 5, none⟩) h6).trans h5⟩, Nat.lt_of_lt_of_le h6 hb.size⟩
end Go.Proofs.Ytaaijenbcfjdlaa
