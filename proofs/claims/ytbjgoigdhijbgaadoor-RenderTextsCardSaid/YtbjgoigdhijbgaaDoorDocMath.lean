/-
  Documents, plainly: what they are, how they lie in memory, what is counted, forced, such as may be, the same.
-/
import Derived.Test.YtbjgoigdhijbgaaDoorTreeIn
set_option linter.all false
namespace Go.Proofs.YtbjgoigdhijbgaaDoor
open Go.RowKit Go.PlainAid

/-- A document: Kind, N, Text, L. -/
inductive Dc where
  | mk (k n : Int) (t : ByteArray) (l : List Dc)
def dks : Dc → List Dc | .mk _ _ _ l => l
def dkd : Dc → Int | .mk k _ _ _ => k
def dnn : Dc → Int | .mk _ n _ _ => n
def dtx : Dc → ByteArray | .mk _ _ t _ => t
mutual
/-- How many parts. -/
def dcnt : Dc → Nat
  | .mk _ _ _ l => 1 + dcntL l
def dcntL : List Dc → Nat
  | [] => 0
  | x :: t => dcnt x + dcntL t
end
/-- By itself: forced. -/
def dfr (k n : Int) : Bool := k == 4 || (k == 7 && n == 1)
mutual
def dfrc : Dc → Bool
  | .mk k n _ l => dfr k n || dfrcL l
def dfrcL : List Dc → Bool
  | [] => false
  | x :: t => dfrc x || dfrcL t
end
/-- By itself: may be. -/
def dal (k n : Int) (t : ByteArray) (e : Bool) : Bool :=
  if k = 1 then n == 0 && e && !t.data.toList.contains 10
  else if k = 2 ∨ k = 3 ∨ k = 4 then n == 0 && e && t.toList == []
  else if k = 5 then n == 0 && t.toList == []
  else if k = 6 then decide (0 ≤ n) && decide (n ≤ 1000) && t.toList == []
  else if k = 7 then (n == 0 || n == 1) && t.toList == []
  else false
mutual
def drt : Dc → Bool
  | .mk k n t l => dal k n t l.isEmpty && drtL l
def drtL : List Dc → Bool
  | [] => true
  | x :: t => drt x && drtL t
end
mutual
/-- The same. -/
def dsm : Dc → Dc → Bool
  | .mk k n t l, .mk k' n' t' l' => k == k' && n == n' && t.toList == t'.toList && dsmL l l'
def dsmL : List Dc → List Dc → Bool
  | [], [] => true
  | x :: t, y :: u => dsm x y && dsmL t u
  | _, _ => false
end
mutual
/-- How deep. -/
def ddp : Dc → Nat
  | .mk _ _ _ l => 1 + ddpL l
def ddpL : List Dc → Nat
  | [] => 0
  | x :: t => max (ddp x) (ddpL t)
end
theorem dcnt_pos (n : Dc) : 1 ≤ dcnt n := by cases n; simp only [dcnt]; omega
theorem dcntL_drop : ∀ {l : List Dc} {i : Nat} {x : Dc}, l[i]? = some x → dcntL (l.drop i) = dcnt x + dcntL (l.drop (i + 1))
  | [], _, _, h => by simp at h
  | y :: t, 0, x, h => by
    simp only [List.getElem?_cons_zero, Option.some.injEq] at h
    subst h
    simp only [List.drop_zero, dcntL, List.drop_succ_cons]
  | y :: t, i + 1, x, h => by
    simp only [List.getElem?_cons_succ] at h
    simp only [List.drop_succ_cons]
    exact dcntL_drop h
theorem dfrcL_drop : ∀ {l : List Dc} {i : Nat} {x : Dc}, l[i]? = some x → dfrcL (l.drop i) = (dfrc x || dfrcL (l.drop (i + 1)))
  | [], _, _, h => by simp at h
  | y :: t, 0, x, h => by
    simp only [List.getElem?_cons_zero, Option.some.injEq] at h
    subst h
    simp only [List.drop_zero, dfrcL, List.drop_succ_cons]
  | y :: t, i + 1, x, h => by
    simp only [List.getElem?_cons_succ] at h
    simp only [List.drop_succ_cons]
    exact dfrcL_drop h
theorem drtL_drop : ∀ {l : List Dc} {i : Nat} {x : Dc}, l[i]? = some x → drtL (l.drop i) = (drt x && drtL (l.drop (i + 1)))
  | [], _, _, h => by simp at h
  | y :: t, 0, x, h => by
    simp only [List.getElem?_cons_zero, Option.some.injEq] at h
    subst h
    simp only [List.drop_zero, drtL, List.drop_succ_cons]
  | y :: t, i + 1, x, h => by
    simp only [List.getElem?_cons_succ] at h
    simp only [List.drop_succ_cons]
    exact drtL_drop h
theorem ddpL_drop : ∀ {l : List Dc} {i : Nat} {x : Dc}, l[i]? = some x → ddpL (l.drop i) = max (ddp x) (ddpL (l.drop (i + 1)))
  | [], _, _, h => by simp at h
  | y :: t, 0, x, h => by
    simp only [List.getElem?_cons_zero, Option.some.injEq] at h
    subst h
    simp only [List.drop_zero, ddpL, List.drop_succ_cons]
  | y :: t, i + 1, x, h => by
    simp only [List.getElem?_cons_succ] at h
    simp only [List.drop_succ_cons]
    exact ddpL_drop h
theorem dsmL_drop : ∀ {l m : List Dc} {i : Nat} {x y : Dc}, l[i]? = some x → m[i]? = some y → dsmL (l.drop i) (m.drop i) = (dsm x y && dsmL (l.drop (i + 1)) (m.drop (i + 1)))
  | [], _, _, _, _, h, _ => by simp at h
  | _ :: _, [], _, _, _, _, h => by simp at h
  | p :: t, q :: u, 0, x, y, h, g => by
    simp only [List.getElem?_cons_zero, Option.some.injEq] at h g
    subst h g
    simp only [List.drop_zero, dsmL, List.drop_succ_cons]
  | p :: t, q :: u, i + 1, x, y, h, g => by
    simp only [List.getElem?_cons_succ] at h g
    simp only [List.drop_succ_cons]
    exact dsmL_drop h g
theorem dsmL_len : ∀ {l m : List Dc}, l.length ≠ m.length → dsmL l m = false
  | [], [], h => absurd rfl h
  | [], _ :: _, _ => by simp only [dsmL]
  | _ :: _, [], _ => by simp only [dsmL]
  | x :: t, y :: u, h => by
    simp only [dsmL]
    rw [dsmL_len (by intro e; exact h (by simp [e])), Bool.and_false]
mutual
theorem dsm_refl : ∀ x : Dc, dsm x x = true
  | .mk k n t l => by simp only [dsm, dsmL_refl l, beq_self_eq_true, Bool.and_self]
theorem dsmL_refl : ∀ l : List Dc, dsmL l l = true
  | [] => by simp only [dsmL]
  | x :: t => by simp only [dsmL, dsm_refl x, dsmL_refl t, Bool.and_self]
end
theorem len_dcntL : ∀ l : List Dc, l.length ≤ dcntL l
  | [] => Nat.le_refl _
  | x :: t => by have := dcnt_pos x; have := len_dcntL t; simp only [dcntL, List.length_cons]; omega
theorem dcnt_at : ∀ {l : List Dc} {i : Nat} {x : Dc}, l[i]? = some x → dcnt x ≤ dcntL l
  | [], _, _, h => by simp at h
  | y :: t, 0, x, h => by
    simp only [List.getElem?_cons_zero, Option.some.injEq] at h
    subst h
    simp only [dcntL]; omega
  | y :: t, i + 1, x, h => by
    simp only [List.getElem?_cons_succ] at h
    have := dcnt_at h
    simp only [dcntL]; omega
mutual
theorem ddp_cnt : ∀ x : Dc, ddp x ≤ dcnt x
  | .mk k n t l => by have := ddpL_cnt l; simp only [ddp, dcnt]; omega
theorem ddpL_cnt : ∀ l : List Dc, ddpL l ≤ dcntL l
  | [] => Nat.le_refl _
  | x :: t => by have := ddp_cnt x; have := ddpL_cnt t; simp only [ddpL, dcntL]; omega
end
/-! ### how they lie -/
/-- A row of documents, in a block of the kind, whose cells are these. -/
def DsIn (W : World) (P : Nat → Prop) (v : Value) (n : Nat) (cs : Nat → List Value) : Prop :=
  ∃ a cap, v = .slice a n cap ∧ n ≤ cap ∧ cap ≤ maxLen ∧ (0 < n → ∃ g o, a = some ⟨g, o, none⟩ ∧ P g ∧ g < W.heap.size ∧ ∀ i, i < n → ∀ j x, (cs i)[j]? = some x → W.cell? ⟨g, o + i * 4 + j, none⟩ = some x)
theorem DsIn.keep {W W' : World} {P : Nat → Prop} (hk : Keeps P W W') {v : Value} {n : Nat} {cs : Nat → List Value} (h : DsIn W P v n cs) : DsIn W' P v n cs := by
  obtain ⟨a, cap, h1, hc, hm, h2⟩ := h
  refine ⟨a, cap, h1, hc, hm, fun h0 => ?_⟩
  obtain ⟨g, o, g1, g2, g3, g4⟩ := h2 h0
  exact ⟨g, o, g1, g2, Nat.lt_of_lt_of_le g3 hk.1, fun i hi j x hx => (keeps_cell hk g2 g3).trans (g4 i hi j x hx)⟩
/-- THESE CELLS ARE THAT DOCUMENT, whose rows lie in blocks of the kind. -/
inductive DcIn (W : World) (P : Nat → Prop) : List Value → Dc → Prop where
  | mk (k n : Int) (t : ByteArray) (l : List Dc) (lv : Value) (cs : Nat → List Value) (hl : DsIn W P lv l.length cs) (hc : ∀ i x, l[i]? = some x → DcIn W P (cs i) x) :
    DcIn W P [.int .i64 k, .int .i64 n, .string t, lv] (.mk k n t l)
theorem DcIn.keep {W W' : World} {P : Nat → Prop} (hk : Keeps P W W') {c : List Value} {n : Dc} (h : DcIn W P c n) : DcIn W' P c n := by
  induction h with
  | mk k n t l lv cs hl hc ih => exact .mk k n t l lv cs (hl.keep hk) ih
theorem DcIn.inv {W : World} {P : Nat → Prop} {c : List Value} {k n : Int} {t : ByteArray} {l : List Dc} (h : DcIn W P c (.mk k n t l)) :
    ∃ lv cs, c = [.int .i64 k, .int .i64 n, .string t, lv] ∧ DsIn W P lv l.length cs ∧ ∀ i x, l[i]? = some x → DcIn W P (cs i) x := by
  cases h with
  | mk _ _ _ _ lv cs hl hc => exact ⟨lv, cs, rfl, hl, hc⟩
/-- A row of documents, in blocks of the kind. -/
def DrIn (W : World) (P : Nat → Prop) (v : Value) (l : List Dc) : Prop := ∃ cs, DsIn W P v l.length cs ∧ ∀ i x, l[i]? = some x → DcIn W P (cs i) x
theorem DrIn.keep {W W' : World} {P : Nat → Prop} (hk : Keeps P W W') {v : Value} {l : List Dc} (h : DrIn W P v l) : DrIn W' P v l := by
  obtain ⟨cs, h1, h2⟩ := h
  exact ⟨cs, h1.keep hk, fun i x hx => (h2 i x hx).keep hk⟩
/-- In any block there is. -/
def all (W : World) (g : Nat) : Prop := g < W.heap.size
abbrev DcAt (W : World) (c : List Value) (n : Dc) : Prop := DcIn W (fun g => g < W.heap.size) c n
theorem DsIn.wide {W : World} {P Q : Nat → Prop} (h : ∀ g, g < W.heap.size → P g → Q g) {v : Value} {n : Nat} {cs : Nat → List Value} (k : DsIn W P v n cs) : DsIn W Q v n cs := by
  obtain ⟨a, cap, h1, hc, hm, h2⟩ := k
  refine ⟨a, cap, h1, hc, hm, fun h0 => ?_⟩
  obtain ⟨g, o, g1, g2, g3, g4⟩ := h2 h0
  exact ⟨g, o, g1, h g g3 g2, g3, g4⟩
theorem DcIn.wide {W : World} {P Q : Nat → Prop} (h : ∀ g, g < W.heap.size → P g → Q g) {c : List Value} {n : Dc} (k : DcIn W P c n) : DcIn W Q c n := by
  induction k with
  | mk k n t l lv cs hl hc ih => exact .mk k n t l lv cs (hl.wide h) ih
theorem DrIn.wide {W : World} {P Q : Nat → Prop} (h : ∀ g, g < W.heap.size → P g → Q g) {v : Value} {l : List Dc} (k : DrIn W P v l) : DrIn W Q v l := by
  obtain ⟨cs, h1, h2⟩ := k
  exact ⟨cs, h1.wide h, fun i x hx => (h2 i x hx).wide h⟩
/-- A document, whose cells lie here, in a block of the kind. -/
def DIn (W : World) (P : Nat → Prop) (g o : Nat) (x : Dc) : Prop := P g ∧ g < W.heap.size ∧ ∃ c, DcIn W P c x ∧ ∀ j u, c[j]? = some u → W.cell? ⟨g, o + j, none⟩ = some u
theorem DIn.keep {W W' : World} {P : Nat → Prop} (hk : Keeps P W W') {g o : Nat} {x : Dc} (h : DIn W P g o x) : DIn W' P g o x := by
  obtain ⟨h1, h2, c, h3, h4⟩ := h
  exact ⟨h1, Nat.lt_of_lt_of_le h2 hk.1, c, h3.keep hk, fun j u hj => (keeps_cell hk h1 h2).trans (h4 j u hj)⟩
/-- A document's cells, opened. -/
theorem DIn.open {W : World} {P : Nat → Prop} {g o : Nat} {k n : Int} {t : ByteArray} {l : List Dc} (h : DIn W P g o (.mk k n t l)) :
    ∃ a cap, W.cell? ⟨g, o, none⟩ = some (.int .i64 k) ∧ W.cell? ⟨g, o + 1, none⟩ = some (.int .i64 n) ∧ W.cell? ⟨g, o + 2, none⟩ = some (.string t) ∧ W.cell? ⟨g, o + 3, none⟩ = some (.slice a l.length cap) ∧ DrIn W P (.slice a l.length cap) l := by
  obtain ⟨h1, h2, c, h3, h4⟩ := h
  obtain ⟨lv, cs, rfl, hl, hc⟩ := h3.inv
  have hl0 := hl
  obtain ⟨a, cap, rfl, -⟩ := hl
  exact ⟨a, cap, h4 0 _ rfl, h4 1 _ rfl, h4 2 _ rfl, h4 3 _ rfl, cs, hl0, hc⟩
/-- The first of a row, and the row behind it. -/
theorem DrIn.first {W : World} {P : Nat → Prop} {a : Option Addr} {cap n : Nat} {x : Dc} {l : List Dc} (h : DrIn W P (.slice a n cap) (x :: l)) :
    ∃ g o, a = some ⟨g, o, none⟩ ∧ n = l.length + 1 ∧ n ≤ cap ∧ cap ≤ maxLen ∧ DIn W P g o x ∧ DrIn W P (.slice (some ⟨g, o + 4, none⟩) l.length (cap - 1)) l := by
  obtain ⟨cs, ⟨a', cap', e, hc, hm, h2⟩, h3⟩ := h
  simp only [Value.slice.injEq, List.length_cons] at e
  obtain ⟨rfl, rfl, rfl⟩ := e
  obtain ⟨g, o, rfl, g2, g3, g4⟩ := h2 (by simp)
  simp only [List.length_cons] at hc g4
  refine ⟨g, o, rfl, rfl, hc, hm, ⟨g2, g3, cs 0, h3 0 x rfl, fun j u hj => by have := g4 0 (by omega) j u hj; rwa [Nat.zero_mul, Nat.add_zero] at this⟩, fun i => cs (i + 1), ⟨_, _, rfl, by omega, by omega, fun _ => ⟨g, o + 4, rfl, g2, g3, fun i hi j u hj => ?_⟩⟩, fun i y hy => h3 (i + 1) y (by simpa using hy)⟩
  have := g4 (i + 1) (by omega) j u hj
  rwa [show o + (i + 1) * 4 + j = o + 4 + i * 4 + j by omega] at this
end Go.Proofs.YtbjgoigdhijbgaaDoor
