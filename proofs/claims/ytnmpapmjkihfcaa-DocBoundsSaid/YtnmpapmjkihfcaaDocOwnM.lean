/-
  THE PROGRAM's copies of documents: a cell is turned into one that says the same.
-/
import Derived.Test.YtnmpapmjkihfcaaDocItMem
set_option linter.all false
namespace Go.Proofs.Ytnmpapmjkihfcaa
open Go.RowKit Go.PlainAid

theorem DcIn.four {W : World} {P : Nat → Prop} {c : List Value} {x : Dc} (h : DcIn W P c x) : c.length = 4 := by
  cases h with
  | mk k n t l lv cs hl hc => rfl
theorem cs_same {W : World} {c c' : List Value} {g o : Nat} (h4 : c.length = 4) (h4' : c'.length = 4) (h : ∀ j u, c[j]? = some u → W.cell? ⟨g, o + j, none⟩ = some u) (h' : ∀ j u, c'[j]? = some u → W.cell? ⟨g, o + j, none⟩ = some u) : c = c' := by
  apply List.ext_getElem?
  intro j
  by_cases hj : j < 4
  · have e1 : c[j]? = some (c[j]'(by omega)) := List.getElem?_eq_getElem _
    have e2 : c'[j]? = some (c'[j]'(by omega)) := List.getElem?_eq_getElem _
    have a := h j _ e1
    have b := h' j _ e2
    rw [a] at b
    rw [e1, e2]; exact b
  · rw [List.getElem?_eq_none (by omega), List.getElem?_eq_none (by omega)]
mutual
/-- What cells say is one thing. -/
theorem DcIn.uniq {W : World} {P P' : Nat → Prop} : ∀ {x x' : Dc} {c : List Value}, DcIn W P c x → DcIn W P' c x' → x = x'
  | .mk k n t l, .mk k' n' t' l', c, h, h' => by
    obtain ⟨lv, cs, rfl, hl, hc⟩ := h.inv
    obtain ⟨lv', cs', e, hl', hc'⟩ := h'.inv
    simp only [List.cons.injEq, Value.int.injEq, Value.string.injEq, true_and, and_true] at e
    obtain ⟨rfl, rfl, rfl, rfl⟩ := e
    rw [DrIn.uniq ⟨cs, hl, hc⟩ ⟨cs', hl', hc'⟩]
theorem DrIn.uniq {W : World} {P P' : Nat → Prop} : ∀ {l l' : List Dc} {v : Value}, DrIn W P v l → DrIn W P' v l' → l = l'
  | [], [], _, _, _ => rfl
  | [], x :: l', v, h, h' => by
    obtain ⟨cs, ⟨a, cap, rfl, -⟩, -⟩ := h
    obtain ⟨cs', ⟨a', cap', e, -⟩, -⟩ := h'
    simp at e
  | x :: l, [], v, h, h' => by
    obtain ⟨cs, ⟨a, cap, rfl, -⟩, -⟩ := h
    obtain ⟨cs', ⟨a', cap', e, -⟩, -⟩ := h'
    simp at e
  | x :: l, x' :: l', v, h, h' => by
    obtain ⟨a, n, cap, rfl⟩ : ∃ a n cap, v = .slice a n cap := by
      obtain ⟨cs, ⟨a, cap, rfl, -⟩, -⟩ := h
      exact ⟨_, _, _, rfl⟩
    obtain ⟨g, o, rfl, en, -, -, hd, hr⟩ := h.first
    obtain ⟨g', o', e, en', -, -, hd', hr'⟩ := h'.first
    simp only [Option.some.injEq, Addr.mk.injEq, and_true] at e
    obtain ⟨rfl, rfl⟩ := e
    obtain ⟨-, -, c, hc, hcell⟩ := hd
    obtain ⟨-, -, c', hc', hcell'⟩ := hd'
    have e2 := cs_same hc.four hc'.four hcell hcell'
    subst e2
    rw [DcIn.uniq hc hc', DrIn.uniq hr (by rw [show l.length = l'.length by omega]; exact hr')]
end
theorem cell_set_off {W : World} {g i j : Nat} {u : Value} (h : i ≠ j) (g' : Nat) : (W.setCell ⟨g, i, none⟩ u).cell? ⟨g', j, none⟩ = W.cell? ⟨g', j, none⟩ :=
  World.cell?_setCell_other _ _ _ _ (by intro e; simp only [Addr.mk.injEq] at e; exact h e.2.1)
/-- A row's cell is turned into another row that says the same: all says what it said. -/
theorem DrIn.repl {W : World} {P : Nat → Prop} {g off : Nat} {a0 : Option Addr} {n0 c0 : Nat} {v2 : Value} {lx : List Dc} (hold : W.cell? ⟨g, off, none⟩ = some (.slice a0 n0 c0)) (hl : DrIn W P (.slice a0 n0 c0) lx) (h2 : DrIn W P v2 lx) :
    ∀ (m : Nat) (l : List Dc) (v : Value), dcntL l ≤ m → DrIn W P v l → DrIn (W.setCell ⟨g, off, none⟩ v2) P v l
  | 0, l, v, hm, h => by
    have h0 : l = [] := by
      cases l with
      | nil => rfl
      | cons x t => have := dcnt_pos x; simp only [dcntL] at hm; omega
    subst h0
    obtain ⟨cs, ⟨a, cap, rfl, e1, e2, -⟩, -⟩ := h
    exact ⟨cs, ⟨a, cap, rfl, e1, e2, fun h => absurd h (by simp)⟩, fun i x hx => by simp at hx⟩
  | m + 1, l, v, hm, h => by
    obtain ⟨cs, ⟨a, cap, rfl, e1, e2, hr⟩, hc⟩ := h
    by_cases hn : l = []
    · subst hn
      exact ⟨cs, ⟨a, cap, rfl, e1, e2, fun h => absurd h (by simp)⟩, fun i x hx => by simp at hx⟩
    have hpos : 0 < l.length := List.length_pos_iff.2 hn
    obtain ⟨g', o', rfl, hp, hg, hcell⟩ := hr hpos
    have kid : ∀ (k n : Int) (t : ByteArray) (lk : List Dc) (i : Nat), l[i]? = some (.mk k n t lk) → dcntL lk ≤ m := fun k n t lk i hi => by
      have := dcnt_at hi
      simp only [dcnt] at this
      omega
    refine ⟨fun i => if g' = g ∧ o' + i * 4 + 3 = off then (cs i).set 3 v2 else cs i, ⟨_, cap, rfl, e1, e2, fun _ => ⟨g', o', rfl, hp, by simpa using hg, ?_⟩⟩, ?_⟩
    · intro i hi j u hj
      have h4 : (cs i).length = 4 := (hc i _ (List.getElem?_eq_getElem hi)).four
      by_cases hh : g' = g ∧ o' + i * 4 + 3 = off
      · simp only [hh, and_self, if_true] at hj
        by_cases h3 : j = 3
        · subst h3
          rw [List.getElem?_set_self (by omega)] at hj
          rw [hh.1, hh.2]
          exact (World.cell?_setCell_same' _ _ _ (by rw [hold]; rfl)).trans hj
        · rw [List.getElem?_set_ne (by omega)] at hj
          rw [cell_set_off (by omega)]
          exact hcell i hi j u hj
      · simp only [if_neg hh] at hj
        have hold2 := hcell i hi j u hj
        by_cases hq : g' = g ∧ o' + i * 4 + j = off
        · exfalso
          rw [hq.1, hq.2, hold] at hold2
          have hd := hc i _ (List.getElem?_eq_getElem hi)
          have hj4 : j < 4 := by have := (List.getElem?_eq_some_iff.1 hj).1; omega
          cases hx : l[i] with
          | mk k n t lk =>
            rw [hx] at hd
            obtain ⟨lv, cs', e, -, -⟩ := hd.inv
            rw [e] at hj
            have hu := Option.some.inj hold2
            match j, hj4, hj, hq with
            | 0, _, hj, _ => simp at hj; rw [← hj] at hu; cases hu
            | 1, _, hj, _ => simp at hj; rw [← hj] at hu; cases hu
            | 2, _, hj, _ => simp at hj; rw [← hj] at hu; cases hu
            | 3, _, _, hq => exact hh hq
        · by_cases hgg : g' = g
          · rw [hgg, cell_set_off (fun e => hq ⟨hgg, e.symm⟩), ← hgg]; exact hold2
          · rw [cell_set_ne hgg]; exact hold2
    · intro i x hx
      have hd := hc i x hx
      have hi : i < l.length := (List.getElem?_eq_some_iff.1 hx).1
      cases x with
      | mk k n t lk =>
        obtain ⟨lv, cs', e, hkl, hkc⟩ := hd.inv
        have hk : DrIn W P lv lk := ⟨cs', hkl, hkc⟩
        have hkm := kid k n t lk i hx
        by_cases hh : g' = g ∧ o' + i * 4 + 3 = off
        · simp only [hh, and_self, if_true]
          have hlv : lv = .slice a0 n0 c0 := by
            have := hcell i hi 3 lv (by rw [e]; rfl)
            rw [hh.1, hh.2, hold] at this
            exact (Option.some.inj this).symm
          have hlk : lk = lx := by rw [hlv] at hk; exact hk.uniq hl
          subst hlk
          obtain ⟨cs2, hl2, hc2⟩ := DrIn.repl hold hl h2 m lk v2 hkm h2
          rw [e]
          exact .mk k n t lk v2 cs2 hl2 hc2
        · simp only [if_neg hh]
          obtain ⟨cs2, hl2, hc2⟩ := DrIn.repl hold hl h2 m lk lv hkm hk
          rw [e]
          exact .mk k n t lk lv cs2 hl2 hc2
end Go.Proofs.Ytnmpapmjkihfcaa
