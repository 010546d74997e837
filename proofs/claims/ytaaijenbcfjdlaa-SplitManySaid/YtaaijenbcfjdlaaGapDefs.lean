/-
  What the walks between tokens speak of: a row of tokens as it stands in memory, how many lines end in a part of a text, how deep tokens are.
-/
import Derived.Test.YtaaijenbcfjdlaaScanRow
namespace Go.Proofs.Ytaaijenbcfjdlaa
open Go.RowKit Go.PlainAid

/-- A token as it stands in memory: its kind, its text, its place. -/
abbrev Tok := Int × ByteArray × Int
/-- v is the row of these tokens. -/
def TRow (W : World) (v : Value) (T : List Tok) : Prop :=
  ∃ a cap, v = .slice a T.length cap ∧ (0 < T.length → ∃ g o, a = some ⟨g, o, none⟩ ∧ g < W.heap.size ∧ ∀ i x, T[i]? = some x →
    W.cell? ⟨g, o + i * 3, none⟩ = some (.int .i64 x.1) ∧ W.cell? ⟨g, o + i * 3 + 1, none⟩ = some (.string x.2.1) ∧ W.cell? ⟨g, o + i * 3 + 2, none⟩ = some (.int .i64 x.2.2))
theorem TRow.below {W W' : World} {v : Value} {T : List Tok} (h : TRow W v T) (hb : Below W.heap.size W W') : TRow W' v T := by
  obtain ⟨a, cap, h1, h2⟩ := h
  refine ⟨a, cap, h1, fun h0 => ?_⟩
  obtain ⟨g, o, g1, g2, g3⟩ := h2 h0
  refine ⟨g, o, g1, Nat.lt_of_lt_of_le g2 hb.size, fun i x hx => ?_⟩
  obtain ⟨c1, c2, c3⟩ := g3 i x hx
  exact ⟨(hb.cell (p := ⟨g, o + i * 3, none⟩) g2).trans c1, (hb.cell (p := ⟨g, o + i * 3 + 1, none⟩) g2).trans c2, (hb.cell (p := ⟨g, o + i * 3 + 2, none⟩) g2).trans c3⟩
def tok3 (s : ByteArray) (x : Tk3) : Tok := (x.1, s.extract x.2.1 x.2.2, (x.2.1 : Int))
def toks (s : ByteArray) (L : List Tk3) : List Tok := L.map (tok3 s)
theorem toks_len (s : ByteArray) (L : List Tk3) : (toks s L).length = L.length := by unfold toks; rw [List.length_map]
theorem toks_at {s : ByteArray} {L : List Tk3} {i : Nat} {x : Tk3} (h : L[i]? = some x) : (toks s L)[i]? = some (tok3 s x) := by unfold toks; rw [List.getElem?_map, h]; rfl
theorem trow_of {W : World} {v : Value} {s : ByteArray} {L : List Tk3} (h : TkAt W v s L) : TRow W v (toks s L) := by
  obtain ⟨a, cap, h1, h2⟩ := h
  refine ⟨a, cap, by rw [toks_len]; exact h1, fun h0 => ?_⟩
  rw [toks_len] at h0
  obtain ⟨g, g1, g2, g3⟩ := h2 h0
  refine ⟨g, 0, g1, g2, fun i x hx => ?_⟩
  unfold toks at hx
  rw [List.getElem?_map] at hx
  obtain ⟨y, hy, rfl⟩ := Option.map_eq_some_iff.1 hx
  rw [Nat.zero_add]
  exact g3 i y hy
/-- How many lines end in the n bytes from e on. -/
def nlr (s : ByteArray) (e : Nat) : Nat → Nat
  | 0 => 0
  | n + 1 => nlr s e n + if bt s (e + n) = 10 then 1 else 0
theorem nlr_le (s : ByteArray) (e : Nat) : ∀ n, nlr s e n ≤ n
  | 0 => Nat.le_refl _
  | n + 1 => by have := nlr_le s e n; simp only [nlr]; split <;> omega
theorem nlr_hit {s : ByteArray} {e n : Nat} (h : bt s (e + n) = 10) : nlr s e (n + 1) = nlr s e n + 1 := by simp [nlr, h]
theorem nlr_miss {s : ByteArray} {e n : Nat} (h : bt s (e + n) ≠ 10) : nlr s e (n + 1) = nlr s e n := by simp [nlr, h]
theorem nlr_mono (s : ByteArray) (e : Nat) {a b : Nat} (h : a ≤ b) : nlr s e a ≤ nlr s e b := by
  induction b with
  | zero => obtain rfl : a = 0 := by omega
            exact Nat.le_refl _
  | succ b ih =>
    by_cases hb : a = b + 1
    · subst hb; exact Nat.le_refl _
    · have := ih (by omega)
      simp only [nlr]; split <;> omega
/-- The lines that end between the tokens k - 1 and k. -/
def nls (s : ByteArray) (L : List Tk3) (k : Int) : Nat :=
  if k < 1 ∨ (L.length : Int) ≤ k then 0 else nlr s (L.getD (k.toNat - 1) (0, 0, 0)).2.2 ((L.getD k.toNat (0, 0, 0)).2.1 - (L.getD (k.toNat - 1) (0, 0, 0)).2.2)
theorem nls_out {s : ByteArray} {L : List Tk3} {k : Int} (h : k < 1 ∨ (L.length : Int) ≤ k) : nls s L k = 0 := by unfold nls; rw [if_pos h]
theorem nls_in {s : ByteArray} {L : List Tk3} {k : Nat} {x y : Tk3} (hx : L[k]? = some x) (hy : L[k + 1]? = some y) : nls s L ((k : Int) + 1) = nlr s x.2.2 (y.2.1 - x.2.2) := by
  have hl : k + 1 < L.length := (List.getElem?_eq_some_iff.1 hy).1
  unfold nls
  rw [if_neg (by omega), show ((k : Int) + 1).toNat = k + 1 by omega, List.getD_eq_getElem?_getD, List.getD_eq_getElem?_getD, hy, Nat.add_sub_cancel, hx]
  rfl
/-- 1 for what opens, -1 for what closes, else 0; t: what stands behind. -/
def par (t : List Tok) : Bool := match t with
  | [] => false
  | y :: _ => y.1 == 9 && y.2.1.toList == [40]
def isFun (s : ByteArray) : Bool := s.toList == [102, 117, 110]
def nh (x : Tok) (t : List Tok) : Int :=
  if x.1 = 9 then (if opq x.2.1.toList then 1 else if clq x.2.1.toList then -1 else 0)
  else if x.1 = 8 then (if opw x.2.1.toList then 1 else if clw x.2.1.toList then -1 else if isFun x.2.1 && par t then 1 else 0) else 0
theorem nh_bd (x : Tok) (t : List Tok) : -1 ≤ nh x t ∧ nh x t ≤ 1 := by
  unfold nh
  repeat' split
  all_goals omega
/-- How deep: o are open, m were the most. -/
def dl : List Tok → Int → Int → Int
  | [], _, m => m
  | x :: t, o, m => dl t (max (o + nh x t) 0) (max m (max (o + nh x t) 0))
theorem dl_bd : ∀ (T : List Tok) (o m : Int), m ≤ dl T o m
  | [], _, m => Int.le_refl _
  | x :: t, o, m => by
    have := dl_bd t (max (o + nh x t) 0) (max m (max (o + nh x t) 0))
    simp only [dl]; omega
theorem dl_drop {T : List Tok} {k : Nat} {x : Tok} (h : T[k]? = some x) (o m : Int) : dl (T.drop k) o m = dl (T.drop (k + 1)) (max (o + nh x (T.drop (k + 1))) 0) (max m (max (o + nh x (T.drop (k + 1))) 0)) := by
  have hk : k < T.length := (List.getElem?_eq_some_iff.1 h).1
  have h2 : T[k] = x := (List.getElem?_eq_some_iff.1 h).2
  rw [List.drop_eq_getElem_cons hk, h2]
  rfl
theorem par_next {T : List Tok} {k : Nat} {y : Tok} (h : T[k]? = some y) : par (T.drop k) = (y.1 == 9 && y.2.1.toList == [40]) := by
  have hk : k < T.length := (List.getElem?_eq_some_iff.1 h).1
  have h2 : T[k] = y := (List.getElem?_eq_some_iff.1 h).2
  rw [List.drop_eq_getElem_cons hk, h2]
  rfl
theorem par_none {T : List Tok} {k : Nat} (h : T.length ≤ k) : par (T.drop k) = false := by rw [List.drop_eq_nil_of_le h]; rfl
/-- The tokens of a text stand one behind the other. -/
theorem sc_pair {s : ByteArray} : ∀ (L : List Tk3) (j : Nat), sc s j = some L → ∀ (k : Nat) (x y : Tk3), L[k]? = some x → L[k + 1]? = some y → x.2.1 < x.2.2 ∧ x.2.2 ≤ y.2.1 ∧ y.2.1 < y.2.2 ∧ y.2.2 ≤ s.size
  | [], _, _, _, _, _, h, _ => by simp at h
  | z :: l, j, h, k, x, y, hx, hy => by
    obtain ⟨h1, h2, h3, h4, h5, h6, h7⟩ := sc_cons h
    match k, hx, hy with
    | 0, hx, hy =>
      simp only [List.getElem?_cons_zero, Option.some.injEq] at hx
      subst hx
      match l, h7, hy with
      | [], _, hy => simp at hy
      | u :: l', h7, hy =>
        simp only [List.getElem?_cons_succ, List.getElem?_cons_zero, Option.some.injEq] at hy
        subst hy
        obtain ⟨g1, g2, g3, g4, g5, g6, g7⟩ := sc_cons h7
        have := fw_ge bl s z.2.2
        exact ⟨by omega, by omega, by omega, g6⟩
    | k + 1, hx, hy =>
      simp only [List.getElem?_cons_succ] at hx hy
      exact sc_pair l _ h7 k x y hx hy
end Go.Proofs.Ytaaijenbcfjdlaa
