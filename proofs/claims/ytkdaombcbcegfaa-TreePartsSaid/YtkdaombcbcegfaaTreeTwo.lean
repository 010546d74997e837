/-
  Two walks in step: what is equal of what is still to come; how they lie beside one another.
-/
import Derived.Test.YtkdaombcbcegfaaTreeEq
namespace Go.Proofs.Ytkdaombcbcegfaa
open Go.RowKit Go.PlainAid

/-- As many are open, as many parts of each, and each as far. -/
inductive Shp : List Fr → List Fr → Prop where
  | nil : Shp [] []
  | cons (f g : Fr) (r s : List Fr) (hi : f.i = g.i) (hl : (pts f.x).length = (pts g.x).length) (h : Shp r s) : Shp (f :: r) (g :: s)
/-- Is what is still to come the same? -/
def lkS (all : Bool) : List Fr → List Fr → Bool
  | f :: r, g :: s => lkL all (todo f) (todo g) && lkS all r s
  | _, _ => true
theorem Nx.two (all : Bool) {sa sa' : List Fr} {la : List Nd} (ha : Nx sa la sa') : ∀ {sb sb' : List Fr} {lb : List Nd}, Nx sb lb sb' → Shp sa sb →
    (sa' = [] ∧ sb' = [] ∧ lkS all sa sb = true) ∨ ∃ fa ra fb rb, sa' = fa :: ra ∧ sb' = fb :: rb ∧ fa.i = 0 ∧ fb.i = 0 ∧ Shp ra rb ∧ lkS all sa sb = (lk all fa.x fb.x && lkS all ra rb) := by
  induction ha with
  | stop =>
    intro sb sb' lb hb hs
    cases hs
    cases hb
    exact .inl ⟨rfl, rfl, rfl⟩
  | go f r x g o h =>
    intro sb sb' lb hb hs
    cases hs with
    | cons f2 g2 r2 s2 hi hl hr =>
      have hlt : f.i < (pts f.x).length := (List.getElem?_eq_some_iff.1 h).1
      cases hb with
      | go _ _ x2 g3 o3 h2 =>
        refine .inr ⟨_, _, _, _, rfl, rfl, rfl, rfl, .cons _ _ _ _ (by simp only [hi]) hl hr, ?_⟩
        simp only [lkS]
        rw [show todo f = (pts f.x).drop f.i from rfl, show todo g2 = (pts g2.x).drop g2.i from rfl, ← hi] at *
        rw [lkL_drop all h (by rw [hi]; exact h2)]
        simp only [todo, Bool.and_assoc]
      | up _ _ ls _ h2 k => omega
  | up f r ls st h k ih =>
    intro sb sb' lb hb hs
    cases hs with
    | cons f2 g2 r2 s2 hi hl hr =>
      cases hb with
      | go _ _ x2 g3 o3 h2 =>
        have : g2.i < (pts g2.x).length := (List.getElem?_eq_some_iff.1 h2).1
        omega
      | up _ _ ls2 _ h2 k2 =>
        have e : lkS all (f :: r) (g2 :: s2) = lkS all r s2 := by
          simp only [lkS, todo_nil h, todo_nil h2, lkL, Bool.true_and]
        rw [e]
        exact ih k2 hr
/-- The own parts are the same: so it is of the parts' parts. -/
theorem lk_go (all : Bool) {fa fb : Fr} {ra rb : List Fr} (h0 : fa.i = 0) (h1 : fb.i = 0) (hw : lkw all fa.x fb.x = true) : (lk all fa.x fb.x && lkS all ra rb) = lkS all (fa :: ra) (fb :: rb) := by
  rw [lk_own, hw, Bool.true_and]
  simp only [lkS, todo, h0, h1, List.drop_zero]
theorem lk_len (all : Bool) {x y : Nd} (h : (pts x).length ≠ (pts y).length) : lk all x y = false := by rw [lk_own, lkL_len all h, Bool.and_false]
theorem lk_no (all : Bool) {x y : Nd} (h : lkw all x y = false) : lk all x y = false := by rw [lk_own, h, Bool.false_and]
theorem lkS_dum (all : Bool) (n m : Nd) (g o g' o' : Nat) : lkS all [⟨dum n, 0, g, o⟩] [⟨dum m, 0, g', o'⟩] = lk all n m := by
  simp only [lkS, todo_zero, dum, pts, lkL, Bool.and_true]
/-- Both walks, beside one another. -/
structure Two (B : Nat) (w W : World) (lf : Value) (sA : Nat) (vA : Value) (stA : List Fr) (sB : Nat) (vB : Value) (stB : List Fr) : Prop where
  a : Wk W (Pk B sA) sA lf vA stA
  b : Wk W (Pk B sB) sB lf vB stB
  ba : B ≤ sA
  ab : sA + 5 < sB
  bel : Below B w W
  o : ∀ g, Og sA vA g → ¬ Og sB vB g
  pb : ∀ g, Pk B sB g → ¬ Og sA vA g
  pa : ∀ g, Pk B sA g → ¬ Og sB vB g
theorem two_new {B : Nat} {w w1 w3 : World} {lf : Value} {sA : Nat} {vA : Value} {stA : List Fr} {sB : Nat} {vB : Value} {stB : List Fr} (ha : Wk w1 (Pk B sA) sA lf vA stA) (hB : B ≤ sA) (hs : sB = w1.heap.size) (hb3 : Below w1.heap.size w1 w3) (hb : Wk w3 (Pk B sB) sB lf vB stB) (hbel : Below B w w3) : Two B w w3 lf sA vA stA sB vB stB := by
  have h5 := ha.size
  have hin := ha.in
  have hinb := hb.in
  refine ⟨ha.below hb3, hb, hB, by omega, hbel, fun g h1 h2 => ?_, fun g h1 h2 => ?_, fun g h1 h2 => ?_⟩
  · have := hin g h1; have := hinb g h2; omega
  · have := hin g h2
    rcases h1 with h1 | h1 | h1 <;> omega
  · have := hinb g h2
    rcases h1 with h1 | h1 | h1 <;> omega
theorem Two.nextA {B : Nat} {w W W' : World} {lf : Value} {sA : Nat} {vA vA' : Value} {stA stA' : List Fr} {sB : Nat} {vB : Value} {stB : List Fr} (h : Two B w W lf sA vA stA sB vB stB) (hw : Wk W' (Pk B sA) sA lf vA' stA') (hm : Mv (Og sA vA) W (Og sA vA') W') : Two B w W' lf sA vA' stA' sB vB stB := by
  have hinb := h.b.in
  have hpp := h.b.pp
  have hsb := h.b.size
  refine ⟨hw, h.b.keep hm h.pb (fun g h1 h2 => h.o g h2 h1), h.ba, h.ab, h.bel.trans (h.a.mvb hm h.ba), fun g h1 h2 => ?_, fun g h1 h2 => ?_, h.pa⟩
  · rcases hm.own g h1 with h3 | h3
    · exact h.o g h3 h2
    · have := hinb g h2; omega
  · rcases hm.own g h2 with h3 | h3
    · exact h.pb g h1 h3
    · have := hpp g h1; omega
theorem Two.nextB {B : Nat} {w W W' : World} {lf : Value} {sA : Nat} {vA : Value} {stA : List Fr} {sB : Nat} {vB vB' : Value} {stB stB' : List Fr} (h : Two B w W lf sA vA stA sB vB stB) (hw : Wk W' (Pk B sB) sB lf vB' stB') (hm : Mv (Og sB vB) W (Og sB vB') W') : Two B w W' lf sA vA stA sB vB' stB' := by
  have hina := h.a.in
  have hpp := h.a.pp
  have hsa := h.a.size
  have hba := h.ba
  have hab := h.ab
  refine ⟨h.a.keep hm h.pa h.o, hw, h.ba, h.ab, h.bel.trans (h.b.mvb hm (by omega)), fun g h1 h2 => ?_, h.pb, fun g h1 h2 => ?_⟩
  · rcases hm.own g h2 with h3 | h3
    · exact h.o g h1 h3
    · have := hina g h1; omega
  · rcases hm.own g h2 with h3 | h3
    · exact h.pa g h1 h3
    · have := hpp g h1; omega
theorem Two.drewN {B : Nat} {w W : World} {lf : Value} {sA : Nat} {vA : Value} {stA : List Fr} {sB : Nat} {vB : Value} {stB : List Fr} (h : Two B w W lf sA vA stA sB vB stB) (q : Nat) : Two B w (W.drewN q) lf sA vA stA sB vB stB :=
  ⟨h.a.below (drew_below W q), h.b.below (drew_below W q), h.ba, h.ab, h.bel.trans ((drew_below W q).mono (by have := h.a.size; have := h.ba; omega)), h.o, h.pb, h.pa⟩
/-- What two walks that have come to the same place know. -/
def Jn (all R : Bool) (sa sb : List Fr) : Prop := (sa = [] ∧ sb = [] ∧ R = true) ∨ ∃ fa ra fb rb, sa = fa :: ra ∧ sb = fb :: rb ∧ fa.i = 0 ∧ fb.i = 0 ∧ Shp ra rb ∧ R = (lk all fa.x fb.x && lkS all ra rb)
end Go.Proofs.Ytkdaombcbcegfaa
