/-
  The statements' few and Few: how many nodes, 1000 or more where it is too much.
-/
import Derived.Test.YtkngnkonddpbeaaTreeFew
namespace Go.Proofs.Ytkngnkonddpbeaa
open Go.RowKit Go.PlainAid

set_option maxRecDepth 100000 in
theorem few_zero (k : Int) (t : ByteArray) (a : Option Addr) (N cap : Nat) (br bl : Bool) (na : Option Addr) (Nn nc : Nat) (ta2 : Option Addr) (Nt tc : Nat) (w : World) :
    Calls Try.prog 15 #[.agg #[.int .i64 k, .string t, .slice a N cap, .bool br, .bool bl, .slice na Nn nc, .slice ta2 Nt tc], .int .i64 0] w fun e w' => e = .returned (.int .i64 1000) ∧ Below w.heap.size w w' := by
  go_enter Try.func15, Try.ntmps15
  go_wp2_with fail
  go_ret
  exact ⟨rfl, below1 _ _⟩
set_option maxRecDepth 100000 in
theorem few_bad (k : Int) (t : ByteArray) (a : Option Addr) (N cap : Nat) (br bl : Bool) (na : Option Addr) (Nn nc : Nat) (ta2 : Option Addr) (Nt tc : Nat) (w : World) (D : Int) (hD : (D == 0) = false) (h : ¬ (t.size ≤ 200 ∧ Nn ≤ 40 ∧ Nt ≤ 40 ∧ N ≤ 400)) :
    Calls Try.prog 15 #[.agg #[.int .i64 k, .string t, .slice a N cap, .bool br, .bool bl, .slice na Nn nc, .slice ta2 Nt tc], .int .i64 D] w fun e w' => e = .returned (.int .i64 1000) ∧ Below w.heap.size w w' := by
  by_cases h1 : t.size ≤ 200
  · have g1 : decide ((200 : Int) < (t.size : Int)) = false := decide_eq_false (by omega)
    by_cases h2 : Nn ≤ 40
    · have g2 : decide ((40 : Int) < (Nn : Int)) = false := decide_eq_false (by omega)
      by_cases h3 : Nt ≤ 40
      · have g3 : decide ((40 : Int) < (Nt : Int)) = false := decide_eq_false (by omega)
        have g4 : decide ((400 : Int) < (N : Int)) = true := decide_eq_true (by omega)
        clear h h1 h2 h3
        go_enter Try.func15, Try.ntmps15
        go_wp2_with fail
        go_ret
        exact ⟨rfl, below1 _ _⟩
      · have g3 : decide ((40 : Int) < (Nt : Int)) = true := decide_eq_true (by omega)
        clear h h1 h2 h3
        go_enter Try.func15, Try.ntmps15
        go_wp2_with fail
        go_ret
        exact ⟨rfl, below1 _ _⟩
    · have g2 : decide ((40 : Int) < (Nn : Int)) = true := decide_eq_true (by omega)
      clear h h1 h2
      go_enter Try.func15, Try.ntmps15
      go_wp2_with fail
      go_ret
      exact ⟨rfl, below1 _ _⟩
  · have g1 : decide ((200 : Int) < (t.size : Int)) = true := decide_eq_true (by omega)
    clear h h1
    go_enter Try.func15, Try.ntmps15
    go_wp2_with fail
    go_ret
    exact ⟨rfl, below1 _ _⟩
set_option maxRecDepth 100000 in
set_option maxHeartbeats 4000000 in
theorem few_loop (k : Int) (t : ByteArray) (a : Option Addr) (N cap : Nat) (br bl : Bool) (na : Option Addr) (Nn nc : Nat) (ta2 : Option Addr) (Nt tc : Nat) (w : World) (l : List Nd) (cs : Nat → List Value) (d : Nat) (hd40 : d ≤ 40) (D : Int) (hD : (D == 0) = false) (hD1 : 1 ≤ D) (hD2 : D ≤ 41) (h1 : t.size ≤ 200) (h2 : Nn ≤ 40) (h3 : Nt ≤ 40) (h4 : N ≤ 400) (HN : Hid (N = l.length)) (hl : SlAt w (.slice a l.length cap) l.length cs) (hc : ∀ i x, l[i]? = some x → NdAt w (cs i) x)
    (HI : Hid (∀ (c : List Value) (x : Nd), NdAt w c x → ∀ W, Below w.heap.size w W → Calls Try.prog 15 #[.agg c.toArray, .int .i64 (D - 1)] W fun e w' => e = .returned (.int .i64 (fewN d x : Int)) ∧ Below W.heap.size W w')) :
    Calls Try.prog 15 #[.agg #[.int .i64 k, .string t, .slice a N cap, .bool br, .bool bl, .slice na Nn nc, .slice ta2 Nt tc], .int .i64 D] w fun e w' => e = .returned (.int .i64 (fewL d l 1 : Int)) ∧ Below w.heap.size w w' := by
  have HKID := Lib.hid (kids hl hc)
  have g1 : decide ((200 : Int) < (t.size : Int)) = false := decide_eq_false (by omega)
  have g2 : decide ((40 : Int) < (Nn : Int)) = false := decide_eq_false (by omega)
  have g3 : decide ((40 : Int) < (Nt : Int)) = false := decide_eq_false (by omega)
  have g4 : decide ((400 : Int) < (N : Int)) = false := decide_eq_false (by omega)
  obtain ⟨R, hR⟩ : ∃ R, R = fewL d l 1 := ⟨_, rfl⟩
  rw [← hR]
  have HRR := Lib.hid hR
  obtain ⟨Z, hZ⟩ : ∃ Z, Z = w.alloc (.cells #[.int .i64 k, .string t, .slice a N cap, .bool br, .bool bl, .slice na Nn nc, .slice ta2 Nt tc] 32) := ⟨_, rfl⟩
  have hbW : Below w.heap.size w Z := by rw [hZ]; exact below1 _ _
  have HB0 : Hid (Below Z.heap.size Z (w.alloc (.cells #[.int .i64 k, .string t, .slice a N cap, .bool br, .bool bl, .slice na Nn nc, .slice ta2 Nt tc] 32))) := Lib.hid (by rw [← hZ]; exact Below.refl _ _)
  have HC := Lib.hid (fun W (hb : Below Z.heap.size Z W) => nd_cells (by rw [hZ] at hb; exact hb))
  have UP := Lib.hid (fun W (h : Below Z.heap.size Z W) => hbW.trans (h.mono hbW.size))
  clear hZ hbW hl hc hR h1 h2 h3
  go_enter Try.func15, Try.ntmps15
  go_wp2_with fail
  go_loopg [5, 6] N (fun gn z i wr => ∃ (q s : Nat), gn = N - q ∧ q ≤ N ∧ i = .int .i64 (q : Int) ∧ z = .int .i64 (s : Int) ∧ s ≤ 50000 ∧ Hid (R = fewL d (l.drop q) s) ∧ Hid (Below Z.heap.size Z wr))
  case atStart => exact ⟨0, 1, rfl, Nat.zero_le _, rfl, rfl, by omega, Lib.hid (by rw [HRR.out]; rfl), HB0⟩
  case round =>
    obtain ⟨q, s, hgn, hq, rfl, rfl, hs, HK, HB⟩ := hrel
    obtain ⟨d0, d1, d2, d3, d4, d5, d6⟩ := HC.out _ HB.out
    have HBw : Hid (Below w.heap.size w wr) := Lib.hid (UP.out _ HB.out)
    by_cases hlt : q < N
    · by_cases hk : s < 1000
      · obtain ⟨x, hx⟩ : ∃ x, l[q]? = some x := ⟨_, List.getElem?_eq_getElem (by rw [← HN.out]; exact hlt)⟩
        obtain ⟨g, o, k', t', lv', br', bl', nv', tv', rfl, hnd, hcell⟩ := HKID.out q x hx
        obtain ⟨e0, e1, e2, e3, e4, e5, e6⟩ := hcell wr HBw.out
        have HI1 := Lib.hid (HI.out _ x hnd wr HBw.out)
        have qn : (q : Int) < (N : Int) := by omega
        have kn : (s : Int) < 1000 := by omega
        have HK2 : Hid (R = fewL d (l.drop (q + 1)) (s + fewN d x)) := Lib.hid (by rw [HK.out, drop_cons' hx, fewL_cons, if_pos hk])
        have hfx := few_le d x
        obtain ⟨y, hy⟩ : ∃ y, y = fewN d x := ⟨_, rfl⟩
        rw [← hy] at HI1 HK2 hfx
        have sy : s + y ≤ 50000 := by omega
        clear hcell hx hnd hy HK hfx
        go_wp2_with fail
        refine HI1.out.mono ?_
        rintro e w1 ⟨rfl, hb1⟩
        have HB1 := Lib.hid (HB.out.trans (hb1.mono HB.out.size))
        clear hb1
        go_wp2_with fail
        go_roundg (N - (q + 1))
        case measure => omega
        case rel => exact ⟨q + 1, s + y, rfl, hlt, by go_num, by go_num, sy, HK2, HB1⟩
      · have qn : (q : Int) < (N : Int) := by omega
        have kn : ¬ (s : Int) < 1000 := by omega
        have HF : Hid (s = R) := Lib.hid (by rw [HK.out, fewL_done _ _ _ (by omega)])
        go_wp2_with fail
        go_ret
        exact ⟨retN HF.out, HBw.out⟩
    · obtain rfl : q = N := by omega
      have HF : Hid (s = R) := Lib.hid (by rw [HK.out, List.drop_eq_nil_of_le (by rw [HN.out]; exact Nat.le_refl _)]; rfl)
      go_wp2_with fail
      go_ret
      exact ⟨retN HF.out, HBw.out⟩
theorem few_any : ∀ (d : Nat), d ≤ 40 → ∀ (n : Nd) (c : List Value) (w : World), NdAt w c n →
    Calls Try.prog 15 #[.agg c.toArray, .int .i64 (d : Int)] w fun e w' => e = .returned (.int .i64 (fewN d n : Int)) ∧ Below w.heap.size w w'
  | 0, _, .mk k t l br bl no ta, c, w, h => by
    obtain ⟨lv, nv, tv, cs, rfl, hno, hta, hl, hc⟩ := h.inv
    obtain ⟨na, nc, rfl, -⟩ := hno
    obtain ⟨ta2, tc, rfl, -⟩ := hta
    obtain ⟨a, cap, rfl, -⟩ := hl
    exact few_zero k t a _ cap br bl na _ nc ta2 _ tc w
  | d + 1, hd, .mk k t l br bl no ta, c, w, h => by
    obtain ⟨lv, nv, tv, cs, rfl, hno, hta, hl, hc⟩ := h.inv
    obtain ⟨na, nc, rfl, -⟩ := hno
    obtain ⟨ta2, tc, rfl, -⟩ := hta
    have hl' := hl
    obtain ⟨a, cap, rfl, -⟩ := hl
    simp only [fewN, topOk, kidsOf]
    have hD : ((((d + 1 : Nat) : Int)) == 0) = false := beq_false_of_ne (by omega)
    by_cases ht : t.size ≤ 200 ∧ no.length ≤ 40 ∧ ta.length ≤ 40 ∧ l.length ≤ 400
    · have e : (decide (t.size ≤ 200) && decide (no.length ≤ 40) && decide (ta.length ≤ 40) && decide (l.length ≤ 400)) = true := by simp [ht.1, ht.2.1, ht.2.2.1, ht.2.2.2]
      simp only [e, if_true]
      exact few_loop k t a _ cap br bl na _ nc ta2 _ tc w l cs d (by omega) _ hD (by omega) (by omega) ht.1 ht.2.1 ht.2.2.1 ht.2.2.2 (Lib.hid rfl) hl' hc (Lib.hid fun c x hx W hb => by
        rw [show (((d + 1 : Nat) : Int)) - 1 = (d : Int) by omega]
        exact few_any d (by omega) x c W (hx.bel hb))
    · have e : (decide (t.size ≤ 200) && decide (no.length ≤ 40) && decide (ta.length ≤ 40) && decide (l.length ≤ 400)) = false := by
        cases h : (decide (t.size ≤ 200) && decide (no.length ≤ 40) && decide (ta.length ≤ 40) && decide (l.length ≤ 400))
        · rfl
        · simp only [Bool.and_eq_true, decide_eq_true_eq] at h
          exact absurd ⟨h.1.1.1, h.1.1.2, h.1.2, h.2⟩ ht
      simp only [e]
      exact few_bad k t a _ cap br bl na _ nc ta2 _ tc w _ hD ht
set_option maxRecDepth 100000 in
theorem fewB_any (n : Nd) (c : List Value) (w : World) (h : NdAt w c n) :
    Calls Try.prog 8 #[.agg c.toArray] w fun e w' => e = .returned (.bool (fewB n)) ∧ Below w.heap.size w w' := by
  have H : Hid (∀ W, Below w.heap.size w W → Calls Try.prog 15 #[.agg c.toArray, .int .i64 40] W fun e w' => e = .returned (.int .i64 (fewN 40 n : Int)) ∧ Below W.heap.size W w') := Lib.hid (fun W hb => few_any 40 (Nat.le_refl _) n c W (h.bel hb))
  have hR : fewB n = decide ((fewN 40 n : Int) ≤ 400) := decide_eq_decide.2 (by omega)
  rw [hR]
  cases n with
  | mk k t l br bl no ta =>
    obtain ⟨lv, nv, tv, cs, rfl, -⟩ := h.inv
    clear h hR
    obtain ⟨m, hm⟩ : ∃ m, m = fewN 40 (.mk k t l br bl no ta) := ⟨_, rfl⟩
    rw [← hm] at H ⊢
    clear hm
    go_enter Try.func8, Try.ntmps8
    go_wp2_with fail
    refine (H.out _ (below1 _ _)).mono ?_
    rintro e w1 ⟨rfl, hb1⟩
    have B1 : Hid (Below w.heap.size w w1) := Lib.hid ((below1 w _).trans (hb1.mono (by simp)))
    clear hb1
    go_wp2_with fail
    go_ret
    exact ⟨by simp, B1.out⟩
end Go.Proofs.Ytkngnkonddpbeaa
