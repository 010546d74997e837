/-
  THE PROGRAM's copies of documents: slices.Clone of a row.
-/
import Derived.Test.YtnmpapmjkihfcaaDocOwnM
import Derived.Test.YtnmpapmjkihfcaaStrClone
import Derived.Maps.AppendAt
import Derived.Lib.SliceRun
import Derived.Deep.RegionHeld3
import Derived.BigQuiet
import Derived.BigRegion
set_option linter.all false
namespace Go.Proofs.Ytnmpapmjkihfcaa
open Go.RowKit Go.PlainAid

theorem infoDc : (Try.prog.info? 24).map (fun i => (i.zero, i.size, i.bytes)) = some (some (.agg #[.int .i64 0, .int .i64 0, .string ⟨#[]⟩, .slice none 0 0]), 4, 56) := by kernel_rfl
theorem row_slice {W : World} {base : Nat} {e : TypeId} {size : Nat} {v : Value} {k : Nat} {xs : List Value} (h : W.ownsRow base e size v k xs) : ∃ a n c, v = .slice a n c := by
  obtain ⟨-, ⟨rfl, -⟩ | ⟨g, cap, cur, rfl, -⟩⟩ := h
  · exact ⟨_, _, _, rfl⟩
  · exact ⟨_, _, _, rfl⟩
/-- A row that has been made: it says the same, in a block of its own. -/
def Nw (w w' : World) (N : Nat → Prop) (v2 : Value) (l : List Dc) : Prop :=
  ∃ a2 c2, v2 = .slice a2 l.length c2 ∧ (l ≠ [] → ∃ g2, a2 = some ⟨g2, 0, none⟩ ∧ w.heap.size ≤ g2 ∧ ∀ i, w'.frozen? ⟨g2, i, none⟩ = false) ∧ ∃ N' : Nat → Prop, (∀ g, N g → N' g) ∧ (∀ g, N' g → N g ∨ (w.heap.size ≤ g ∧ g < w'.heap.size)) ∧ DrIn w' N' v2 l
/-- The cells of a row, one behind the other. -/
def rowC (n : Nat) (cs : Nat → List Value) : List Value := (List.range (n * 4)).map fun j => ((cs (j / 4))[j % 4]?).getD undef
theorem rowC_len (n : Nat) (cs : Nat → List Value) : (rowC n cs).length = n * 4 := by simp [rowC]
theorem rowC_at {n : Nat} {cs : Nat → List Value} (h4 : ∀ i, i < n → (cs i).length = 4) {i j : Nat} (hi : i < n) (hj : j < 4) : (rowC n cs)[i * 4 + j]? = (cs i)[j]? := by
  unfold rowC
  rw [List.getElem?_map, List.getElem?_range (by omega)]
  simp only [Option.map_some]
  rw [show (i * 4 + j) / 4 = i by omega, show (i * 4 + j) % 4 = j by omega, List.getElem?_eq_getElem (by rw [h4 i hi]; exact hj)]
  rfl
theorem rowC_cell {w : World} {P : Nat → Prop} {l : List Dc} {cs : Nat → List Value} (hc : ∀ i x, l[i]? = some x → DcIn w P (cs i) x) : (∀ i, i < l.length → (cs i).length = 4) ∧ ∀ u ∈ rowC l.length cs, u.oneCell' = true := by
  have h4 : ∀ i, i < l.length → (cs i).length = 4 := fun i hi => (hc i _ (List.getElem?_eq_getElem hi)).four
  refine ⟨h4, fun u hu => ?_⟩
  obtain ⟨j, hj⟩ := List.getElem?_of_mem hu
  have hjl : j < l.length * 4 := by have := (List.getElem?_eq_some_iff.1 hj).1; rwa [rowC_len] at this
  have hd := hc (j / 4) _ (List.getElem?_eq_getElem (by omega))
  rw [show j = (j / 4) * 4 + j % 4 by omega, rowC_at h4 (by omega) (by omega)] at hj
  cases hx : l[j / 4]'(by omega) with
  | mk k n t lk =>
    rw [hx] at hd
    obtain ⟨lv, cs', e, hkl, -⟩ := hd.inv
    rw [e] at hj
    obtain ⟨a, cap, rfl, -⟩ := hkl
    have hm : j % 4 < 4 := by omega
    match j % 4, hm, hj with
    | 0, _, hj => simp at hj; rw [← hj]; rfl
    | 1, _, hj => simp at hj; rw [← hj]; rfl
    | 2, _, hj => simp at hj; rw [← hj]; rfl
    | 3, _, hj => simp at hj; rw [← hj]; rfl
/-- What append gives of an empty row and these cells. -/
theorem nw_of {w w' : World} {N : Nat → Prop} {l : List Dc} {cs : Nat → List Value} {v2 : Value} (hc : ∀ i x, l[i]? = some x → DcIn w N (cs i) x) (hb : Below w.heap.size w w') (hN : ∀ g, N g → g < w.heap.size)
    (hown : w'.ownsRow w.heap.size 24 4 v2 l.length (rowC l.length cs)) : Nw w w' N v2 l := by
  obtain ⟨h4, -⟩ := rowC_cell hc
  obtain ⟨-, ⟨rfl, h0⟩ | ⟨g, cap, cur, rfl, hg, hh, hn, hm, hz, ht⟩⟩ := hown
  · have hl : l = [] := List.length_eq_zero_iff.1 h0
    subst hl
    exact ⟨none, 0, rfl, fun h => absurd rfl h, N, fun _ h => h, fun _ h => .inl h, fun _ => [], ⟨none, 0, rfl, Nat.le_refl _, Nat.zero_le _, fun h => absurd h (by simp)⟩, fun i x hx => by simp at hx⟩
  · have hlt := lt_of_block hh
    refine ⟨_, _, rfl, fun _ => ⟨g, rfl, hg, fun i => frz_of hh i⟩, fun k => N k ∨ k = g, fun _ h => .inl h, fun k hk => hk.imp id (fun e => by rw [e]; exact ⟨hg, hlt⟩), cs, ⟨_, cap, rfl, hn, hm, fun _ => ⟨g, 0, rfl, .inr rfl, hlt, fun i hi j u hj => ?_⟩⟩, fun i x hx => ((hc i x hx).keep ⟨hb.size, fun k hk hl => hb.block k hl⟩).wide (fun _ _ h => .inl h)⟩
    have hj4 : j < 4 := by have := (List.getElem?_eq_some_iff.1 hj).1; rw [h4 i hi] at this; exact this
    rw [Nat.zero_add, cell_of_row w' g _ _ _ _ hh, ← Array.getElem?_toList]
    have := rowC_at h4 hi hj4
    rw [← ht, List.getElem?_take_of_lt (by omega), hj] at this
    exact this
set_option maxRecDepth 100000 in
set_option maxHeartbeats 4000000 in
theorem dclone_any (l : List Dc) (hl : l.length ≤ 1048576) (v : Value) (w : World) (N : Nat → Prop) (hN : ∀ g, N g → g < w.heap.size) (h : DrIn w N v l) :
    Calls Try.prog 31 #[v] w fun e w' => ∃ v2, e = .returned v2 ∧ Below w.heap.size w w' ∧ Nw w w' N v2 l := by
  obtain ⟨cs, ⟨a, cap, rfl, h1, h2, hr⟩, hc⟩ := h
  have HNB := Lib.hid (fun v2 w' => nw_of (v2 := v2) (w' := w') hc)
  have HR := Lib.hid hr
  obtain ⟨h4, hone⟩ := rowC_cell hc
  have H4 := Lib.hid h4
  have HO := Lib.hid hone
  have HN := Lib.hid hN
  obtain ⟨news, hnews⟩ : ∃ news, news = rowC l.length cs := ⟨_, rfl⟩
  have hlen := rowC_len l.length cs
  have HNW := Lib.hid hnews
  rw [← hnews] at HNB HO hlen
  have HLEN := Lib.hid hlen
  have hu := Try.underlying22
  obtain ⟨i0, hi, hz0, hz1, hz2⟩ := info_parts infoDc
  obtain ⟨n, hn⟩ : ∃ n, n = l.length := ⟨_, rfl⟩
  rw [← hn] at HNB HLEN hl h1 ⊢
  have HNN := Lib.hid hn
  have HCE : Hid (∀ g o, a = some ⟨g, o, none⟩ → 0 < n → ∀ j u, news[j]? = some u → w.cell? ⟨g, o + j, none⟩ = some u) := Lib.hid (fun g o ha hpos j u hj => by
    obtain ⟨g', o', e, -, -, hcell⟩ := HR.out (by rw [← HNN.out]; exact hpos)
    rw [ha] at e
    simp only [Option.some.injEq, Addr.mk.injEq, and_true] at e
    obtain ⟨rfl, rfl⟩ := e
    have hjl : j < l.length * 4 := by have := (List.getElem?_eq_some_iff.1 hj).1; rw [HLEN.out, HNN.out] at this; exact this
    rw [HNW.out, show j = (j / 4) * 4 + j % 4 by omega, rowC_at H4.out (by omega) (by omega)] at hj
    have := hcell (j / 4) (by omega) (j % 4) u hj
    rwa [show o + j / 4 * 4 + j % 4 = o + j by omega] at this)
  clear hr hc h4 hone hN hnews hlen hn
  cases a with
  | none =>
    have hq := Lib.run_eql_slice_nil (P := Try.prog) w 22 _ none n cap 0 0 hu
    go_enter Try.func31, Try.ntmps31
    go_wp2_with fail
    go_ret
    have h0 : l = [] := by
      by_cases h : 0 < n
      · obtain ⟨g, o, e, -⟩ := HR.out (by rw [← HNN.out]; exact h)
        cases e
      · exact List.length_eq_zero_iff.1 (by have := HNN.out; omega)
    refine ⟨_, rfl, Below.refl _ _, ?_⟩
    subst h0
    exact ⟨none, 0, rfl, fun h => absurd rfl h, N, fun _ h => h, fun _ h => .inl h, fun _ => [], ⟨none, 0, rfl, Nat.le_refl _, Nat.zero_le _, fun h => absurd h (by simp)⟩, fun i x hx => by simp at hx⟩
  | some a =>
    have hq := Lib.run_eql_slice_nil (P := Try.prog) w 22 _ (some a) n cap 0 0 hu
    have own0 : (w.alloc (.cells #[] 24)).ownsRow w.heap.size 24 4 (.slice (some ⟨w.heap.size, 0, none⟩) 0 0) 0 [] :=
      ⟨rfl, .inr ⟨w.heap.size, 0, #[], rfl, Nat.le_refl _, by show (w.heap.push _)[w.heap.size]? = _; rw [Array.getElem?_push, if_pos rfl], Nat.le_refl _, by decide, rfl, rfl⟩⟩
    have HCE2 : Hid (∀ (j : Nat) (u : Value), news[j]? = some u → (w.alloc (.cells #[] 24)).cell? (a.add j) = some u) := Lib.hid (fun j u hj => by
      have hpos : 0 < n := by have := (List.getElem?_eq_some_iff.1 hj).1; rw [HLEN.out] at this; omega
      obtain ⟨g, o, e, -, hg, -⟩ := HR.out (by rw [← HNN.out]; exact hpos)
      simp only [Option.some.injEq] at e
      subst e
      have := HCE.out g o rfl hpos j u hj
      rw [show (⟨g, o, none⟩ : Addr).add j = ⟨g, o + j, none⟩ by simp [Addr.add]]
      exact ((below1 w _).cell (p := ⟨g, o + j, none⟩) hg).trans this)
    clear HCE
    go_enter Try.func31, Try.ntmps31
    go_wp2_with (at_builtin; go_must (refine wpList_append_own_at _ rfl _ _ _ rfl w.heap.size 24 i0 _ 4 56 hu hi hz0 hz1 hz2 rfl (by decide) _ 0 [] rfl own0 a n cap news rfl (by rw [HLEN.out, HNN.out]) HCE2.out HO.out (by unfold maxLen; omega) (by omega) (by simp) ?_); intro v2 w2 hown hgrow _ _; rw [Nat.zero_add, List.nil_append] at hown; obtain ⟨a2, n2, c2, rfl⟩ := row_slice hown)
    go_ret
    have hb : Below w.heap.size w w2 := (below1 w _).grown hgrow (by simp) (fun k e => by cases e; exact Nat.le_refl _)
    exact ⟨_, rfl, hb, HNB.out _ _ hb HN.out hown⟩
end Go.Proofs.Ytnmpapmjkihfcaa
