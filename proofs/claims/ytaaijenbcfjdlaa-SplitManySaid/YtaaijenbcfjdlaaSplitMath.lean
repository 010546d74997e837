/-
  Items, plainly: where each ends, what is said of it, those of two texts.
-/
import Derived.Test.YtaaijenbcfjdlaaScanLast
import Derived.Test.YtaaijenbcfjdlaaGapDefs
namespace Go.Proofs.Ytaaijenbcfjdlaa
open Go.RowKit Go.PlainAid

/-- From, To, Note, Blank. -/
abbrev It := Nat × Nat × Bool × Bool
/-- How many tokens the form has that begins at the front; n were passed, e is its end so far. -/
def fe : List Tk3 → Nat → Nat → Nat
  | [], _, e => e
  | x :: t, n, e => if x.1 = 10 then n + 1 else fe t (n + 1) (if x.1 = 11 then e else n + 1)
/-- How many tokens the item at the front has. -/
def itn : List Tk3 → Nat
  | [] => 1
  | x :: t => if x.1 = 11 then 1 else fe (x :: t) 0 1
/-- What is true of a form's end: no TDot ahead of its last token, which is no comment. -/
def Fits (T : List Tk3) (n : Nat) : Prop := 1 ≤ n ∧ n ≤ T.length ∧ (∀ (j : Nat) (x : Tk3), j + 1 < n → T[j]? = some x → x.1 ≠ 10) ∧ ∀ x : Tk3, T[n - 1]? = some x → x.1 ≠ 11
theorem fe_spec : ∀ (T : List Tk3) (n e : Nat), fe T n e = e ∨ (n < fe T n e ∧ fe T n e ≤ n + T.length ∧ (∀ (j : Nat) (x : Tk3), n + j + 1 < fe T n e → T[j]? = some x → x.1 ≠ 10) ∧ ∀ x : Tk3, T[fe T n e - 1 - n]? = some x → x.1 ≠ 11)
  | [], _, _ => .inl rfl
  | y :: t, n, e => by
    by_cases h10 : y.1 = 10
    · have e1 : fe (y :: t) n e = n + 1 := by simp only [fe]; rw [if_pos h10]
      rw [e1]
      refine .inr ⟨by omega, by simp, fun j x hj _ => by omega, fun x hx => ?_⟩
      rw [show n + 1 - 1 - n = 0 by omega] at hx
      simp only [List.getElem?_cons_zero, Option.some.injEq] at hx
      subst hx; omega
    · obtain ⟨e', he'⟩ : ∃ e', e' = if y.1 = 11 then e else n + 1 := ⟨_, rfl⟩
      have e1 : fe (y :: t) n e = fe t (n + 1) e' := by simp only [fe]; rw [if_neg h10, he']
      rw [e1]
      rcases fe_spec t (n + 1) e' with h | ⟨h1, h2, h3, h4⟩
      · rw [h]
        by_cases h11 : y.1 = 11
        · rw [if_pos h11] at he'; exact .inl he'
        · rw [if_neg h11] at he'
          subst he'
          refine .inr ⟨by omega, by simp, fun j x hj _ => by omega, fun x hx => ?_⟩
          rw [show n + 1 - 1 - n = 0 by omega] at hx
          simp only [List.getElem?_cons_zero, Option.some.injEq] at hx
          subst hx; exact h11
      · refine .inr ⟨by omega, by simp only [List.length_cons]; omega, fun j x hj hx => ?_, fun x hx => ?_⟩
        · match j, hx with
          | 0, hx => simp only [List.getElem?_cons_zero, Option.some.injEq] at hx; subst hx; exact h10
          | j + 1, hx => simp only [List.getElem?_cons_succ] at hx; exact h3 j x (by omega) hx
        · rw [show fe t (n + 1) e' - 1 - n = (fe t (n + 1) e' - 1 - (n + 1)) + 1 by omega] at hx
          simp only [List.getElem?_cons_succ] at hx
          exact h4 x hx
theorem fe_first {y : Tk3} {t : List Tk3} (h : y.1 ≠ 11) : Fits (y :: t) (fe (y :: t) 0 1) := by
  rcases fe_spec (y :: t) 0 1 with h1 | ⟨h1, h2, h3, h4⟩
  · rw [h1]
    refine ⟨by omega, by simp, fun j x hj _ => by omega, fun x hx => ?_⟩
    simp only [Nat.sub_self, List.getElem?_cons_zero, Option.some.injEq] at hx
    subst hx; exact h
  · exact ⟨by omega, by omega, fun j x hj hx => h3 j x (by omega) hx, fun x hx => h4 x (by rw [Nat.sub_zero]; exact hx)⟩
theorem itn_note {y : Tk3} {t : List Tk3} (h : y.1 = 11) : itn (y :: t) = 1 := by simp only [itn]; rw [if_pos h]
theorem itn_form {y : Tk3} {t : List Tk3} (h : y.1 ≠ 11) : itn (y :: t) = fe (y :: t) 0 1 := by simp only [itn]; rw [if_neg h]
theorem itn_pos : ∀ T, 1 ≤ itn T
  | [] => Nat.le_refl _
  | y :: t => by
    by_cases h : y.1 = 11
    · rw [itn_note h]; exact Nat.le_refl _
    · rw [itn_form h]; exact (fe_first h).1
theorem itn_le : ∀ T, T ≠ [] → itn T ≤ T.length
  | [], h => absurd rfl h
  | y :: t, _ => by
    by_cases h : y.1 = 11
    · rw [itn_note h]; simp
    · rw [itn_form h]; exact (fe_first h).2.1
/-- ALL ITEMS from token i on. -/
def sp (s : ByteArray) (L : List Tk3) (i : Nat) : List It :=
  if _h : i < L.length then (i, i + itn (L.drop i), (L.getD i (0, 0, 0)).1 == 11, decide (2 ≤ nls s L i)) :: sp s L (i + itn (L.drop i)) else []
termination_by L.length - i
decreasing_by have := itn_pos (L.drop i); omega
theorem sp_end {s : ByteArray} {L : List Tk3} {i : Nat} (h : ¬ i < L.length) : sp s L i = [] := by rw [sp, dif_neg h]
theorem sp_go {s : ByteArray} {L : List Tk3} {i : Nat} {x : Tk3} (h : L[i]? = some x) : sp s L i = (i, i + itn (L.drop i), x.1 == 11, decide (2 ≤ nls s L i)) :: sp s L (i + itn (L.drop i)) := by
  have hi : i < L.length := (List.getElem?_eq_some_iff.1 h).1
  rw [sp, dif_pos hi, List.getD_eq_getElem?_getD, h]
  rfl
theorem drop_cons {L : List Tk3} {i : Nat} {x : Tk3} (h : L[i]? = some x) : L.drop i = x :: L.drop (i + 1) := by
  have hi : i < L.length := (List.getElem?_eq_some_iff.1 h).1
  have h2 : L[i] = x := (List.getElem?_eq_some_iff.1 h).2
  rw [List.drop_eq_getElem_cons hi, h2]
theorem itn_in {L : List Tk3} {i : Nat} (h : i < L.length) : i + itn (L.drop i) ≤ L.length := by
  have := itn_le (L.drop i) (by intro e; have := congrArg List.length e; rw [List.length_drop] at this; simp at this; omega)
  rw [List.length_drop] at this
  omega
/-- What each item is. -/
theorem sp_each (s : ByteArray) (L : List Tk3) : ∀ (m i : Nat), L.length - i ≤ m → ∀ (k : Nat) (y : It), (sp s L i)[k]? = some y →
    (∃ x, L[y.1]? = some x ∧ y.2.2.1 = (x.1 == 11)) ∧ i ≤ y.1 ∧ y.2.1 = y.1 + itn (L.drop y.1) ∧ y.2.2.2 = decide (2 ≤ nls s L y.1) ∧ y.1 < L.length ∧ y.2.1 ≤ L.length ∧
    (k = 0 → y.1 = i) ∧ (∀ z, (sp s L i)[k + 1]? = some z → z.1 = y.2.1) ∧ ((sp s L i)[k + 1]? = none → y.2.1 = L.length) := by
  intro m
  induction m with
  | zero =>
    intro i hi k y hy
    rw [sp_end (by omega)] at hy
    simp at hy
  | succ m ih =>
    intro i hi k y hy
    by_cases h : i < L.length
    · obtain ⟨x, hx⟩ : ∃ x, L[i]? = some x := ⟨_, List.getElem?_eq_getElem h⟩
      have hp := itn_pos (L.drop i)
      have hin := itn_in h
      rw [sp_go hx] at hy ⊢
      match k, hy with
      | 0, hy =>
        simp only [List.getElem?_cons_zero, Option.some.injEq] at hy
        subst hy
        refine ⟨⟨x, hx, rfl⟩, Nat.le_refl _, rfl, rfl, h, hin, fun _ => rfl, fun z hz => ?_, fun hz => ?_⟩
        · simp only [List.getElem?_cons_succ] at hz
          exact (ih _ (by omega) 0 z hz).2.2.2.2.2.2.1 rfl
        · simp only [List.getElem?_cons_succ] at hz
          by_cases h2 : i + itn (L.drop i) < L.length
          · obtain ⟨x2, hx2⟩ : ∃ x, L[i + itn (L.drop i)]? = some x := ⟨_, List.getElem?_eq_getElem h2⟩
            rw [sp_go hx2] at hz; simp at hz
          · show i + itn (L.drop i) = L.length; omega
      | k + 1, hy =>
        simp only [List.getElem?_cons_succ] at hy ⊢
        obtain ⟨g1, g2, g3, g4, g5, g6, g7, g8, g9⟩ := ih _ (by omega) k y hy
        exact ⟨g1, by omega, g3, g4, g5, g6, fun h => by omega, g8, g9⟩
    · rw [sp_end h] at hy; simp at hy
theorem sp_len (s : ByteArray) (L : List Tk3) : ∀ (m i : Nat), L.length - i ≤ m → (sp s L i).length ≤ L.length - i := by
  intro m
  induction m with
  | zero => intro i h; rw [sp_end (by omega)]; simp
  | succ m ih =>
    intro i hi
    by_cases h : i < L.length
    · obtain ⟨x, hx⟩ : ∃ x, L[i]? = some x := ⟨_, List.getElem?_eq_getElem h⟩
      have hp := itn_pos (L.drop i)
      have := ih (i + itn (L.drop i)) (by omega)
      rw [sp_go hx, List.length_cons]
      omega
    · rw [sp_end h]; simp
/-! ### two texts -/
theorem fe_app {T U : List Tk3} {z : Tk3} (hz : z ∈ T) (hk : z.1 = 10) : ∀ n e, fe (T ++ U) n e = fe T n e := by
  induction T with
  | nil => simp at hz
  | cons y t ih =>
    intro n e
    simp only [List.cons_append, fe]
    by_cases h10 : y.1 = 10
    · rw [if_pos h10, if_pos h10]
    · rw [if_neg h10, if_neg h10]
      exact ih (by
        rcases List.mem_cons.1 hz with rfl | h
        · exact absurd hk h10
        · exact h) _ _
theorem itn_app {T U : List Tk3} {z : Tk3} (hz : z ∈ T) (hk : z.1 = 10) : itn (T ++ U) = itn T := by
  match T, hz with
  | y :: t, hz =>
    by_cases h : y.1 = 11
    · rw [List.cons_append, itn_note h, itn_note h]
    · rw [List.cons_append, itn_form h, itn_form h, ← List.cons_append, fe_app hz hk]
theorem shf_len (n : Nat) (m : List Tk3) : (shf n m).length = m.length := by unfold shf; rw [List.length_map]
theorem shf_at {n : Nat} {m : List Tk3} {i : Nat} {x : Tk3} (h : m[i]? = some x) : (shf n m)[i]? = some (x.1, n + x.2.1, n + x.2.2) := by unfold shf; rw [List.getElem?_map, h]; rfl
theorem shf_drop (n : Nat) (m : List Tk3) (i : Nat) : (shf n m).drop i = shf n (m.drop i) := by unfold shf; rw [List.map_drop]
theorem fe_shf (q : Nat) : ∀ (T : List Tk3) (n e : Nat), fe (shf q T) n e = fe T n e
  | [], _, _ => rfl
  | y :: t, n, e => by
    show fe ((y.1, q + y.2.1, q + y.2.2) :: shf q t) n e = _
    simp only [fe]
    rw [fe_shf q t]
theorem itn_shf (q : Nat) : ∀ (T : List Tk3), itn (shf q T) = itn T
  | [] => rfl
  | y :: t => by
    show itn ((y.1, q + y.2.1, q + y.2.2) :: shf q t) = _
    by_cases h : y.1 = 11
    · rw [itn_note (show ((y.1, q + y.2.1, q + y.2.2) : Tk3).1 = 11 from h), itn_note h]
    · rw [itn_form (show ((y.1, q + y.2.1, q + y.2.2) : Tk3).1 ≠ 11 from h), itn_form h]
      exact fe_shf q (y :: t) 0 1
theorem nlr_left {s c : ByteArray} {e : Nat} : ∀ n, e + n ≤ s.size → nlr (s ++ c) e n = nlr s e n
  | 0, _ => rfl
  | n + 1, h => by simp only [nlr]; rw [nlr_left n (by omega), bt_app_l _ _ _ (by omega)]
theorem nlr_right (s c : ByteArray) (e : Nat) : ∀ n, nlr (s ++ c) (s.size + e) n = nlr c e n
  | 0 => rfl
  | n + 1 => by simp only [nlr]; rw [nlr_right s c e n, show s.size + e + n = s.size + (e + n) by omega, bt_app_r]
/-- Lines between the first one's tokens. -/
theorem nls_left {s c : ByteArray} {L M : List Tk3} {j0 : Nat} (hL : sc s j0 = some L) {i : Nat} (hi : i < L.length) : nls (s ++ c) (L ++ M) i = nls s L i := by
  match i with
  | 0 => rw [nls_out (.inl (by decide)), nls_out (.inl (by decide))]
  | i + 1 =>
    obtain ⟨x, hx⟩ : ∃ x, L[i]? = some x := ⟨_, List.getElem?_eq_getElem (by omega)⟩
    obtain ⟨y, hy⟩ : ∃ y, L[i + 1]? = some y := ⟨_, List.getElem?_eq_getElem hi⟩
    obtain ⟨p1, p2, p3, p4⟩ := sc_pair L j0 hL i x y hx hy
    have e : ((i + 1 : Nat) : Int) = (i : Int) + 1 := by omega
    rw [e, nls_in hx hy, nls_in (x := x) (y := y) (by rw [List.getElem?_append_left (by omega)]; exact hx) (by rw [List.getElem?_append_left hi]; exact hy)]
    exact nlr_left _ (by omega)
/-- Lines between the second one's. -/
theorem nls_right {s c : ByteArray} {L M : List Tk3} {i : Nat} (hi : i + 1 < M.length) : nls (s ++ c) (L ++ shf s.size M) ((L.length + (i + 1) : Nat) : Int) = nls c M ((i : Int) + 1) := by
  obtain ⟨x, hx⟩ : ∃ x, M[i]? = some x := ⟨_, List.getElem?_eq_getElem (by omega)⟩
  obtain ⟨y, hy⟩ : ∃ y, M[i + 1]? = some y := ⟨_, List.getElem?_eq_getElem hi⟩
  have e : ((L.length + (i + 1) : Nat) : Int) = ((L.length + i : Nat) : Int) + 1 := by omega
  rw [e, nls_in hx hy, nls_in (x := (x.1, s.size + x.2.1, s.size + x.2.2)) (y := (y.1, s.size + y.2.1, s.size + y.2.2))
    (by rw [List.getElem?_append_right (by omega), Nat.add_sub_cancel_left]; exact shf_at hx)
    (by rw [show L.length + i + 1 = L.length + (i + 1) by omega, List.getElem?_append_right (by omega), Nat.add_sub_cancel_left]; exact shf_at hy)]
  simp only
  rw [nlr_right, show s.size + y.2.1 - (s.size + x.2.2) = y.2.1 - x.2.2 by omega]
/-! ### where tokens stand -/
theorem sc_bd {s : ByteArray} : ∀ (L : List Tk3) (j : Nat), sc s j = some L → ∀ (k : Nat) (x : Tk3), L[k]? = some x → x.2.1 < x.2.2 ∧ x.2.2 ≤ s.size
  | [], _, _, _, _, h => by simp at h
  | z :: l, j, h, k, x, hx => by
    obtain ⟨h1, h2, h3, h4, h5, h6, h7⟩ := sc_cons h
    match k, hx with
    | 0, hx =>
      simp only [List.getElem?_cons_zero, Option.some.injEq] at hx
      subst hx
      exact ⟨by omega, h6⟩
    | k + 1, hx =>
      simp only [List.getElem?_cons_succ] at hx
      exact sc_bd l _ h7 k x hx
theorem sc_le {s : ByteArray} {L : List Tk3} {j : Nat} (h : sc s j = some L) (k : Nat) (x : Tk3) (hx : L[k]? = some x) : ∀ (n : Nat) (y : Tk3), L[k + n]? = some y → x.2.1 ≤ y.2.1
  | 0, y, hy => by rw [Nat.add_zero, hx] at hy; rw [Option.some.inj hy]; exact Nat.le_refl _
  | n + 1, y, hy => by
    have hl := (List.getElem?_eq_some_iff.1 hy).1
    obtain ⟨z, hz⟩ : ∃ z, L[k + n]? = some z := ⟨_, List.getElem?_eq_getElem (by omega)⟩
    have h1 := sc_le h k x hx n z hz
    obtain ⟨p1, p2, p3, p4⟩ := sc_pair L j h (k + n) z y hz (by rw [← hy]; rfl)
    omega
/-- The bytes of the tokens from f up to t. -/
def byt (s : ByteArray) (L : List Tk3) (f t : Nat) : ByteArray := s.extract (L.getD f (0, 0, 0)).2.1 (L.getD (t - 1) (0, 0, 0)).2.2
/-- .. of any numbers. -/
def bytI (s : ByteArray) (L : List Tk3) (f t : Int) : ByteArray := if f < 0 ∨ t ≤ f ∨ (L.length : Int) < t then { data := #[] } else byt s L f.toNat t.toNat
theorem bytI_out {s : ByteArray} {L : List Tk3} {f t : Int} (h : f < 0 ∨ t ≤ f ∨ (L.length : Int) < t) : bytI s L f t = { data := #[] } := by unfold bytI; rw [if_pos h]
theorem bytI_in {s : ByteArray} {L : List Tk3} {f t : Nat} (h1 : f < t) (h2 : t ≤ L.length) : bytI s L f t = byt s L f t := by
  unfold bytI; rw [if_neg (by omega)]; rfl
theorem byt_at {s : ByteArray} {L : List Tk3} {f t : Nat} {x y : Tk3} (hx : L[f]? = some x) (hy : L[t]? = some y) : byt s L f (t + 1) = s.extract x.2.1 y.2.2 := by
  unfold byt
  rw [List.getD_eq_getElem?_getD, List.getD_eq_getElem?_getD, Nat.add_sub_cancel, hx, hy]
  rfl
end Go.Proofs.Ytaaijenbcfjdlaa
