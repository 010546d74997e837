/-
  THE PROGRAM's split: comment, formEnd, the closure that cuts.
-/
import Derived.Test.YtaaijenbcfjdlaaGapBroken
import Derived.Test.YtaaijenbcfjdlaaSplitDefs
namespace Go.Proofs.Ytaaijenbcfjdlaa
open Go.RowKit Go.PlainAid

set_option maxRecDepth 100000 in
theorem comm8_any (K a : Int) (P : ByteArray) (w : World) :
    Calls Try.prog 33 #[.agg #[.int .i64 K, .string P, .int .i64 a]] w fun e w' => e = .returned (.bool (K == 11)) ∧ Below w.heap.size w w' := by
  go_enter Try.func33, Try.ntmps33
  go_wp2_with fail
  go_ret
  exact ⟨rfl, below1 _ _⟩
theorem fe_start {x : Tk3} {t : List Tk3} (h : x.1 ≠ 11) : fe (x :: t) 0 0 = fe (x :: t) 0 1 := by simp only [fe]; rw [if_neg h, if_neg h]
/-- A token's cells. -/
def T3 (W : World) (g o : Nat) (s : ByteArray) (x : Tk3) : Prop :=
  W.cell? ⟨g, o, none⟩ = some (.int .i64 x.1) ∧ W.cell? ⟨g, o + 1, none⟩ = some (.string (s.extract x.2.1 x.2.2)) ∧ W.cell? ⟨g, o + 2, none⟩ = some (.int .i64 (x.2.1 : Int))
set_option maxRecDepth 100000 in
set_option maxHeartbeats 4000000 in
theorem formEnd_any {s : ByteArray} {L : List Tk3} (hl : L.length ≤ 1048576) (v : Value) (k : Nat) (x : Tk3) (hx : L[k]? = some x) (h11 : x.1 ≠ 11) (w : World) (ht : TRow w v (toks s L)) :
    Calls Try.prog 35 #[v, .int .i64 (k : Int)] w fun e w' => e = .returned (.int .i64 ((k + itn (L.drop k) : Nat) : Int)) ∧ Below w.heap.size w w' := by
  have HCM := Lib.hid (fun K a P W => comm8_any K a P W)
  have hk : k < L.length := (List.getElem?_eq_some_iff.1 hx).1
  obtain ⟨a, cap, rfl, hr⟩ := ht
  rw [toks_len] at hr ⊢
  obtain ⟨g, o, rfl, hg, hc⟩ := hr (by omega)
  have HC := Lib.hid (fun (W : World) (hb : Below w.heap.size w W) (i : Nat) (x : Tk3) (hx : L[i]? = some x) => (⟨(hb.cell (p := ⟨g, o + i * 3, none⟩) hg).trans (hc i _ (toks_at hx)).1, (hb.cell (p := ⟨g, o + i * 3 + 1, none⟩) hg).trans (hc i _ (toks_at hx)).2.1, (hb.cell (p := ⟨g, o + i * 3 + 2, none⟩) hg).trans (hc i _ (toks_at hx)).2.2⟩ : T3 W g (o + i * 3) s x))
  obtain ⟨R, hR⟩ : ∃ R, R = k + itn (L.drop k) := ⟨_, rfl⟩
  have HF0 : Hid (k + fe (L.drop k) 0 0 = R) := Lib.hid (by rw [hR, drop_cons hx, itn_form h11, fe_start h11])
  rw [← hR]
  obtain ⟨N, hN⟩ : ∃ N, N = L.length := ⟨_, rfl⟩
  rw [← hN] at hl hk ⊢
  have HN := Lib.hid hN
  clear hr hc hR hN hx h11
  go_enter Try.func35, Try.ntmps35
  go_wp2_with fail
  go_loopg [5, 6] (N - k) (fun gn t i wr => ∃ (q e : Nat), gn = N - q ∧ k ≤ q ∧ q ≤ N ∧ i = .int .i64 (q : Int) ∧ t = .int .i64 ((k + e : Nat) : Int) ∧ k + e ≤ N ∧ Hid (k + fe (L.drop q) (q - k) e = R) ∧ Hid (Below w.heap.size w wr))
  case atStart => exact ⟨k, 0, rfl, Nat.le_refl _, by omega, rfl, rfl, by omega, Lib.hid (by rw [Nat.sub_self]; exact HF0.out), Lib.hid (Below.refl _ _)⟩
  case round =>
    obtain ⟨q, e, hgn, hkq, hq, rfl, rfl, heN, HF, HB⟩ := hrel
    by_cases hlt : q < N
    · obtain ⟨y, hy⟩ : ∃ y, L[q]? = some y := ⟨_, List.getElem?_eq_getElem (by rw [← HN.out]; exact hlt)⟩
      have hfe := HF.out
      rw [drop_cons hy] at hfe
      simp only [fe] at hfe
      obtain ⟨c1, c2, c3⟩ := HC.out wr HB.out q y hy
      have HY := Lib.hid hy
      obtain ⟨K, ya, ye⟩ := y
      simp only at c1 c2 c3 hfe
      obtain ⟨P, hP⟩ : ∃ P, P = s.extract ya ye := ⟨_, rfl⟩
      rw [← hP] at c2
      have qn : (q : Int) < (N : Int) := by omega
      have HFE := Lib.hid hfe
      clear hfe hy hP
      cases h11 : (K == 11)
      · go_wp2_with fail
        refine (HCM.out _ _ _ _).mono ?_
        rintro e1 w1 ⟨rfl, hb1⟩
        have HB1 : Hid (Below w.heap.size w w1) := Lib.hid (HB.out.trans (hb1.mono HB.out.size))
        obtain ⟨d1, d2, d3⟩ := HC.out w1 HB1.out q _ HY.out
        simp only at d1 d2 d3
        clear hb1 c1 c2 c3 d2 d3
        rw [h11]
        cases h10 : (K == 10)
        · have HF2 : Hid (k + fe (L.drop (q + 1)) (q + 1 - k) (q + 1 - k) = R) := Lib.hid (by
            have h := HFE.out
            rw [if_neg (by simpa using h10), if_neg (by simpa using h11)] at h
            rw [show q + 1 - k = q - k + 1 by omega]; exact h)
          go_wp2_with fail
          go_roundg (N - (q + 1))
          case measure => omega
          case rel => exact ⟨q + 1, q + 1 - k, rfl, by omega, hlt, by go_num, by go_num, by omega, HF2, HB1⟩
        · have HF2 : Hid (((q : Int) + 1) = (R : Int)) := Lib.hid (by
            have h := HFE.out
            rw [if_pos (by simpa using h10)] at h
            omega)
          go_wp2_with fail
          go_ret
          exact ⟨retI HF2.out, HB1.out⟩
      · have h10 : (K == 10) = false := by
          have : K = 11 := by simpa using h11
          rw [this]; rfl
        have HF2 : Hid (k + fe (L.drop (q + 1)) (q + 1 - k) e = R) := Lib.hid (by
          have h := HFE.out
          rw [if_neg (by simpa using h10), if_pos (by simpa using h11)] at h
          rw [show q + 1 - k = q - k + 1 by omega]; exact h)
        go_wp2_with fail
        refine (HCM.out _ _ _ _).mono ?_
        rintro e1 w1 ⟨rfl, hb1⟩
        have HB1 : Hid (Below w.heap.size w w1) := Lib.hid (HB.out.trans (hb1.mono HB.out.size))
        obtain ⟨d1, d2, d3⟩ := HC.out w1 HB1.out q _ HY.out
        simp only at d1 d2 d3
        clear hb1 c1 c2 c3 d2 d3
        rw [h11]
        go_wp2_with fail
        go_roundg (N - (q + 1))
        case measure => omega
        case rel => exact ⟨q + 1, e, rfl, by omega, hlt, by go_num, rfl, heN, HF2, HB1⟩
    · obtain rfl : q = N := by omega
      have HF2 : Hid (k + e = R) := Lib.hid (by have := HF.out; rw [List.drop_eq_nil_of_le (by rw [HN.out]; exact Nat.le_refl _)] at this; exact this)
      go_wp2_with fail
      go_ret
      exact ⟨retN HF2.out, HB.out⟩
/-- The closure's three blocks: the text, the tokens, where the next item begins. -/
def Cw (w W : World) (s : ByteArray) (v : Value) (k : Nat) : Prop :=
  W.heap[w.heap.size]? = some (.cells #[.string s] 9 (0, 0)) ∧ W.heap[w.heap.size + 1]? = some (.cells #[v] 25 (0, 0)) ∧ W.heap[w.heap.size + 2]? = some (.cells #[.int .i64 (k : Int)] 3 (0, 0)) ∧ Below w.heap.size w W
theorem Cw.below {w W W' : World} {s : ByteArray} {v : Value} {k : Nat} (h : Cw w W s v k) (hb : Below W.heap.size W W') : Cw w W' s v k := by
  obtain ⟨h1, h2, h3, h4⟩ := h
  exact ⟨by rw [hb.block _ (lt_of_block h1)]; exact h1, by rw [hb.block _ (lt_of_block h2)]; exact h2, by rw [hb.block _ (lt_of_block h3)]; exact h3, h4.trans (hb.mono h4.size)⟩
theorem Cw.to {w W : World} {s : ByteArray} {v : Value} {k : Nat} (h : Cw w W s v k) (k' : Nat) : Cw w (W.setCell ⟨w.heap.size + 2, 0, none⟩ (.int .i64 (k' : Int))) s v k' := by
  obtain ⟨h1, h2, h3, h4⟩ := h
  refine ⟨?_, ?_, one_setCell h3, h4.setCell (by show w.heap.size ≤ w.heap.size + 2; omega) _⟩
  · rw [Below.heap_setCell _ _ _ _ (by show w.heap.size ≠ w.heap.size + 2; omega)]; exact h1
  · rw [Below.heap_setCell _ _ _ _ (by show w.heap.size + 1 ≠ w.heap.size + 2; omega)]; exact h2
theorem Cw.cells {w W : World} {s : ByteArray} {v : Value} {k : Nat} (h : Cw w W s v k) : W.cell? ⟨w.heap.size, 0, none⟩ = some (.string s) ∧ W.cell? ⟨w.heap.size + 1, 0, none⟩ = some v ∧ W.cell? ⟨w.heap.size + 2, 0, none⟩ = some (.int .i64 (k : Int)) :=
  ⟨by rw [cell_of_row W _ 0 _ _ _ h.1]; rfl, by rw [cell_of_row W _ 0 _ _ _ h.2.1]; rfl, by rw [cell_of_row W _ 0 _ _ _ h.2.2.1]; rfl⟩
theorem cw_new (w : World) (s : ByteArray) (v : Value) : Cw w (((w.alloc (.cells #[.string s] 9)).alloc (.cells #[v] 25)).alloc (.cells #[.int .i64 0] 3)) s v 0 := by
  refine ⟨?_, ?_, ?_, (below2 _ _ _).alloc (by simp; omega) _⟩
  · show (((w.heap.push _).push _).push _)[w.heap.size]? = _
    rw [Array.getElem?_push_lt (by simp; omega), Array.getElem_push_lt (by simp), Array.getElem_push_eq]
  · show (((w.heap.push _).push _).push _)[w.heap.size + 1]? = _
    rw [Array.getElem?_push_lt (by simp), Array.getElem_push, dif_neg (by simp)]
  · show (((w.heap.push _).push _).push _)[w.heap.size + 2]? = _
    rw [Array.getElem?_push, if_pos (by simp)]
    rfl
set_option maxRecDepth 100000 in
theorem cutter_any (s : ByteArray) (v : Value) (hv : ∃ a n c, v = .slice a n c) (w : World) :
    Calls Try.prog 17 #[.string s, v] w fun e w' => e = .returned (.func (.func 32) #[] #[.pointer (some ⟨w.heap.size + 2, 0, none⟩), .pointer (some ⟨w.heap.size + 1, 0, none⟩), .pointer (some ⟨w.heap.size, 0, none⟩)]) ∧ Cw w w' s v 0 := by
  obtain ⟨a, n, c, rfl⟩ := hv
  go_enter Try.func17, Try.ntmps17
  go_wp2
  go_ret
  exact ⟨rfl, cw_new w s _⟩
end Go.Proofs.Ytaaijenbcfjdlaa
