/-
  THE DOCUMENT's right and May of documents; what is few.
-/
import Derived.Test.YtbjgoigdhijbgaaDoorRefDocC
set_option linter.all false
namespace Go.Proofs.YtbjgoigdhijbgaaDoor
open Go.RowKit Go.PlainAid

mutual
/-- All texts are no longer than so many bytes. -/
def dtz (b : Nat) : Dc → Prop
  | .mk _ _ t l => t.size ≤ b ∧ dtzL b l
def dtzL (b : Nat) : List Dc → Prop
  | [] => True
  | x :: t => dtz b x ∧ dtzL b t
end
theorem dtz_at {b : Nat} : ∀ {l : List Dc} {x : Dc}, dtzL b l → x ∈ l → dtz b x
  | y :: t, x, hs, h => by
    simp only [dtzL] at hs
    rcases List.mem_cons.1 h with e | e
    · rw [e]; exact hs.1
    · exact dtz_at hs.2 e
  | [], _, _, h => by simp at h
theorem rdright_any : ∀ (m : Nat), m ≤ 1048576 → ∀ (x : Dc), dcnt x ≤ m → dtz 1048576 x → ∀ (c : List Value) (w : World), DcAt w c x →
    Calls Tryd.prog 32 #[.agg c.toArray] w fun e w' => e = .returned (.bool (drt x)) ∧ Below w.heap.size w w'
  | 0, _, n, hn, _, _, _, _ => by have := dcnt_pos n; omega
  | m + 1, hm, .mk k n t l, hn, hz, c, w, h => by
    obtain ⟨lv, cs, rfl, hl, hc⟩ := h.inv
    simp only [dcnt] at hn
    simp only [dtz] at hz
    have hlen := len_dcntL l
    have HI : Hid (RI w l) := Lib.hid (fun x hx c hxc W hb => rdright_any m (by omega) x (by obtain ⟨i, hi⟩ := List.getElem?_of_mem hx; have := dcnt_at hi; omega) (dtz_at hz.2 hx) c W (hxc.bel hb))
    obtain ⟨a, cap, rfl, -⟩ := id hl
    have e0 : l.isEmpty = decide (l.length = 0) := by cases l <;> simp
    have eL : l.length = 0 → drtL l = true := fun h => by rw [List.length_eq_zero_iff.1 h]; simp only [drtL]
    simp only [drt]
    by_cases k1 : k = 1
    · subst k1
      have e : (dal 1 n t l.isEmpty && drtL l) = (n == 0 && decide (l.length = 0) && !t.data.toList.contains 10) := by
        simp only [dal, e0, if_true]
        by_cases h : l.length = 0
        · rw [eL h, Bool.and_true]
        · simp [h]
      rw [e]
      exact right_text n t a l.length cap w hz.1 (by omega)
    have g1 : (k == 1) = false := beq_false_of_ne k1
    have leaf : (k = 2 ∨ k = 3 ∨ k = 4) → (dal k n t l.isEmpty && drtL l) = (n == 0 && decide (l.length = 0) && t.toList == []) := by
      intro hk
      unfold dal
      rw [if_neg k1, if_pos hk, e0]
      by_cases h : l.length = 0
      · rw [eL h, Bool.and_true]
      · simp [h]
    by_cases k2 : k = 2
    · rw [leaf (.inl k2)]; subst k2; exact right_leaf2 n t a _ cap w (by omega)
    by_cases k3 : k = 3
    · rw [leaf (.inr (.inl k3))]; subst k3; exact right_leaf3 n t a _ cap w (by omega)
    by_cases k4 : k = 4
    · rw [leaf (.inr (.inr k4))]; subst k4; exact right_leaf4 n t a _ cap w (by omega)
    have g2 : (k == 2) = false := beq_false_of_ne k2
    have g3 : (k == 3) = false := beq_false_of_ne k3
    have g4 : (k == 4) = false := beq_false_of_ne k4
    have n24 : ¬ (k = 2 ∨ k = 3 ∨ k = 4) := by rintro (h | h | h) <;> contradiction
    unfold dal
    rw [if_neg k1, if_neg n24]
    by_cases k5 : k = 5
    · rw [if_pos k5]
      subst k5
      cases hn0 : (n == 0)
      · rw [Bool.false_and, Bool.false_and]
        exact rbad_cat n t a _ cap w (by simp only [bne, hn0, Bool.not_false])
      · rw [Bool.true_and]
        exact right_cat n t a cap w l cs hl hc (by omega) (by simp only [bne, hn0, Bool.not_true]) HI
    have g5 : (k == 5) = false := beq_false_of_ne k5
    rw [if_neg k5]
    by_cases k6 : k = 6
    · rw [if_pos k6]
      subst k6
      by_cases h1 : n < 0
      · have e1 : decide (0 ≤ n) = false := decide_eq_false (by omega)
        rw [e1, Bool.false_and, Bool.false_and, Bool.false_and]
        exact rbad_nestA n t a _ cap w (decide_eq_true h1)
      · have e1 : decide (0 ≤ n) = true := decide_eq_true (by omega)
        by_cases h2 : 1000 < n
        · have e2 : decide (n ≤ 1000) = false := decide_eq_false (by omega)
          rw [e1, e2, Bool.true_and, Bool.false_and, Bool.false_and]
          exact rbad_nestB n t a _ cap w (decide_eq_false h1) (decide_eq_true h2)
        · have e2 : decide (n ≤ 1000) = true := decide_eq_true (by omega)
          rw [e1, e2, Bool.true_and, Bool.true_and]
          exact right_nest n t a cap w l cs hl hc (by omega) (decide_eq_false h1) (decide_eq_false h2) HI
    have g6 : (k == 6) = false := beq_false_of_ne k6
    rw [if_neg k6]
    by_cases k7 : k = 7
    · rw [if_pos k7]
      subst k7
      cases hn0 : (n == 0)
      · cases hn1 : (n == 1)
        · rw [Bool.or_false, Bool.false_and, Bool.false_and]
          exact rbad_grp n t a _ cap w (by simp only [bne, hn0, Bool.not_false]) (by simp only [bne, hn1, Bool.not_false])
        · rw [Bool.or_true, Bool.true_and]
          exact right_grp1 n t a cap w l cs hl hc (by omega) (by simp only [bne, hn0, Bool.not_false]) (by simp only [bne, hn1, Bool.not_true]) HI
      · rw [Bool.true_or, Bool.true_and]
        exact right_grp0 n t a cap w l cs hl hc (by omega) (by simp only [bne, hn0, Bool.not_true]) HI
    have g7 : (k == 7) = false := beq_false_of_ne k7
    rw [if_neg k7, Bool.false_and]
    exact rbad_kind k n t a _ cap w g1 g2 g3 g4 g5 g6 g7
set_option maxRecDepth 100000 in
/-- May, of what is few. -/
theorem rdmay_any (x : Dc) (hn : dcnt x ≤ 100000) (hz : dtz 1048576 x) (c : List Value) (w : World) (h : DcAt w c x) :
    Calls Tryd.prog 15 #[.agg c.toArray] w fun e w' => e = .returned (.bool (drt x)) ∧ Below w.heap.size w w' := by
  have H1 := Lib.hid (fun W (hb : Below w.heap.size w W) => rddeep_any 100000 (by omega) x hn c W 200001 (by omega) (by omega) (h.bel hb))
  have H2 := Lib.hid (fun W (hb : Below w.heap.size w W) => rdright_any 100000 (by omega) x hn hz c W (h.bel hb))
  have H3 := Lib.hid (fun W (hb : Below w.heap.size w W) => rdcount_any 100000 (by omega) x hn c W (h.bel hb))
  cases x with
  | mk k n t l =>
    obtain ⟨lv, cs, rfl, -⟩ := h.inv
    obtain ⟨R, hR⟩ : ∃ R, R = drt (.mk k n t l) := ⟨_, rfl⟩
    obtain ⟨K, hK⟩ : ∃ K, K = dcnt (.mk k n t l) := ⟨_, rfl⟩
    rw [← hR] at H2 ⊢
    rw [← hK] at H3 hn
    clear h hR hK hz
    obtain ⟨Z, hZ⟩ : ∃ Z, Z = w.alloc (.cells #[.int .i64 k, .int .i64 n, .string t, lv] 24) := ⟨_, rfl⟩
    have hbW : Below w.heap.size w Z := by rw [hZ]; exact below1 _ _
    have HB0 : Hid (Below Z.heap.size Z (w.alloc (.cells #[.int .i64 k, .int .i64 n, .string t, lv] 24))) := Lib.hid (by rw [← hZ]; exact Below.refl _ _)
    have HC := Lib.hid (fun W (hb : Below Z.heap.size Z W) => dc_cells (by rw [hZ] at hb; exact hb))
    have UP := Lib.hid (fun W (h : Below Z.heap.size Z W) => hbW.trans (h.mono hbW.size))
    clear hZ hbW
    go_enter Tryd.func15, Tryd.ntmps15
    go_wp2_with fail
    refine (H1.out _ (UP.out _ HB0.out)).mono ?_
    rintro e w1 ⟨⟨s, rfl, hs⟩, hb1⟩
    have HB1 := Lib.hid (HB0.out.trans (hb1.mono HB0.out.size))
    obtain ⟨d0, d1, d2, d3⟩ := HC.out _ HB1.out
    clear hb1
    go_wp2_with fail
    refine (H2.out _ (UP.out _ HB1.out)).mono ?_
    rintro e w2 ⟨rfl, hb2⟩
    have HB2 := Lib.hid (HB1.out.trans (hb2.mono HB1.out.size))
    obtain ⟨d0, d1, d2, d3⟩ := HC.out _ HB2.out
    clear hb2
    cases R
    · go_wp2_with fail
      go_ret
      exact ⟨rfl, UP.out _ HB2.out⟩
    · go_wp2_with fail
      refine (H3.out _ (UP.out _ HB2.out)).mono ?_
      rintro e w3 ⟨rfl, hb3⟩
      have HB3 := Lib.hid (HB2.out.trans (hb3.mono HB2.out.size))
      clear hb3
      go_wp2_with fail
      go_ret
      exact ⟨by simp; omega, UP.out _ HB3.out⟩
/-! ### few -/
/-- What the statements' few counts (1000 or more: too much), by how deep it may be. -/
def fewD : Nat → Dc → Nat
  | 0, _ => 1000
  | d + 1, .mk _ _ t l => if decide (t.size ≤ 100) && decide (l.length ≤ 500) then l.foldl (fun k x => if k < 1000 then k + fewD d x else k) 1 else 1000
/-- The loop from a place on. -/
def fewDL (d : Nat) (l : List Dc) (k : Nat) : Nat := l.foldl (fun k x => if k < 1000 then k + fewD d x else k) k
theorem fewDL_nil (d k : Nat) : fewDL d [] k = k := rfl
theorem fewDL_cons (d : Nat) (x : Dc) (t : List Dc) (k : Nat) : fewDL d (x :: t) k = fewDL d t (if k < 1000 then k + fewD d x else k) := rfl
theorem fewDL_done (d : Nat) : ∀ (l : List Dc) (k : Nat), 1000 ≤ k → fewDL d l k = k
  | [], _, _ => rfl
  | x :: t, k, h => by rw [fewDL_cons, if_neg (by omega)]; exact fewDL_done d t k h
theorem fewD_le : ∀ (d : Nat) (n : Dc), fewD d n ≤ 1000 * (d + 1)
  | 0, _ => by simp [fewD]
  | d + 1, .mk _ _ t l => by
    simp only [fewD]
    split
    · have key : ∀ (l : List Dc) (k : Nat), k ≤ 1000 * (d + 2) → fewDL d l k ≤ 1000 * (d + 2) := by
        intro l
        induction l with
        | nil => intro k hk; exact hk
        | cons x t ih =>
          intro k hk
          rw [fewDL_cons]
          refine ih _ ?_
          have := fewD_le d x
          split <;> omega
      exact key _ 1 (by omega)
    · omega
theorem fewDL_mono (d : Nat) : ∀ (l : List Dc) (k : Nat), k ≤ fewDL d l k
  | [], k => Nat.le_refl _
  | x :: t, k => by
    rw [fewDL_cons]
    have := fewDL_mono d t (if k < 1000 then k + fewD d x else k)
    split at this <;> split <;> omega
/-- What is few is bounded: the count is right, texts are short. -/
theorem fewD_ok : ∀ (d : Nat) (n : Dc), fewD d n < 1000 → dcnt n = fewD d n ∧ dtz 100 n
  | 0, _, h => by simp [fewD] at h
  | d + 1, .mk kk nn t l, h => by
    simp only [fewD] at h ⊢
    split at h
    case isFalse => omega
    case isTrue ht =>
      rw [if_pos ht]
      simp only [Bool.and_eq_true, decide_eq_true_eq] at ht
      have key : ∀ (l : List Dc) (k : Nat), fewDL d l k < 1000 → fewDL d l k = k + dcntL l ∧ dtzL 100 l := by
        intro l
        induction l with
        | nil => intro k _; exact ⟨by simp [fewDL_nil, dcntL], by simp only [dtzL]⟩
        | cons x t ih =>
          intro k hk
          rw [fewDL_cons] at hk ⊢
          by_cases hk1 : k < 1000
          · rw [if_pos hk1] at hk ⊢
            have hm := fewDL_mono d t (k + fewD d x)
            obtain ⟨g1, g2⟩ := ih _ hk
            obtain ⟨g3, g4⟩ := fewD_ok d x (by omega)
            exact ⟨by rw [g1]; simp only [dcntL]; omega, by simp only [dtzL]; exact ⟨g4, g2⟩⟩
          · rw [if_neg hk1, fewDL_done d t k (by omega)] at hk
            omega
      have hk : fewDL d l 1 < 1000 := h
      obtain ⟨g1, g2⟩ := key l 1 hk
      exact ⟨by simp only [dcnt]; exact g1.symm, by simp only [dtz]; exact ⟨ht.1, g2⟩⟩
mutual
theorem dtz_mono {a b : Nat} (hb : a ≤ b) : ∀ (n : Dc), dtz a n → dtz b n
  | .mk _ _ t l, h => by
    simp only [dtz] at h ⊢
    exact ⟨by omega, dtzL_mono hb l h.2⟩
theorem dtzL_mono {a b : Nat} (hb : a ≤ b) : ∀ (l : List Dc), dtzL a l → dtzL b l
  | [], _ => by simp only [dtzL]
  | x :: t, h => by
    simp only [dtzL] at h ⊢
    exact ⟨dtz_mono hb x h.1, dtzL_mono hb t h.2⟩
end
/-- Few. -/
def fwD (n : Dc) : Bool := decide (fewD 60 n ≤ 500)
theorem fwD_ok {n : Dc} (h : fwD n = true) : dcnt n ≤ 500 ∧ dtz 100 n := by
  have h : fewD 60 n ≤ 500 := of_decide_eq_true h
  obtain ⟨h1, h2⟩ := fewD_ok 60 n (by omega)
  exact ⟨by omega, h2⟩
set_option maxRecDepth 100000 in
theorem fewD_zero (k n : Int) (t : ByteArray) (a : Option Addr) (N cap : Nat) (w : World) :
    Calls Tryd.prog 22 #[.agg #[.int .i64 k, .int .i64 n, .string t, .slice a N cap], .int .i64 0] w fun e w' => e = .returned (.int .i64 1000) ∧ Below w.heap.size w w' := by
  go_enter Tryd.func22, Tryd.ntmps22
  go_wp2_with fail
  go_ret
  exact ⟨rfl, below1 _ _⟩
set_option maxRecDepth 100000 in
theorem fewD_bad (k n : Int) (t : ByteArray) (a : Option Addr) (N cap : Nat) (w : World) (D : Int) (hD : (D == 0) = false) (h : ¬ (t.size ≤ 100 ∧ N ≤ 500)) :
    Calls Tryd.prog 22 #[.agg #[.int .i64 k, .int .i64 n, .string t, .slice a N cap], .int .i64 D] w fun e w' => e = .returned (.int .i64 1000) ∧ Below w.heap.size w w' := by
  by_cases h1 : t.size ≤ 100
  · have g1 : decide ((100 : Int) < (t.size : Int)) = false := decide_eq_false (by omega)
    have g4 : decide ((500 : Int) < (N : Int)) = true := decide_eq_true (by omega)
    clear h h1
    go_enter Tryd.func22, Tryd.ntmps22
    go_wp2_with fail
    go_ret
    exact ⟨rfl, below1 _ _⟩
  · have g1 : decide ((100 : Int) < (t.size : Int)) = true := decide_eq_true (by omega)
    clear h h1
    go_enter Tryd.func22, Tryd.ntmps22
    go_wp2_with fail
    go_ret
    exact ⟨rfl, below1 _ _⟩
set_option maxRecDepth 100000 in
set_option maxHeartbeats 4000000 in
theorem fewD_loop (k n : Int) (t : ByteArray) (a : Option Addr) (N cap : Nat) (w : World) (l : List Dc) (cs : Nat → List Value) (d : Nat) (hd40 : d ≤ 60) (D : Int) (hD : (D == 0) = false) (hD1 : 1 ≤ D) (hD2 : D ≤ 61) (h1 : t.size ≤ 100) (h4 : N ≤ 500) (HN : Hid (N = l.length)) (hl : DsIn w (fun g => g < w.heap.size) (.slice a l.length cap) l.length cs) (hc : ∀ i x, l[i]? = some x → DcIn w (fun g => g < w.heap.size) (cs i) x)
    (HI : Hid (∀ (c : List Value) (x : Dc), DcAt w c x → ∀ W, Below w.heap.size w W → Calls Tryd.prog 22 #[.agg c.toArray, .int .i64 (D - 1)] W fun e w' => e = .returned (.int .i64 (fewD d x : Int)) ∧ Below W.heap.size W w')) :
    Calls Tryd.prog 22 #[.agg #[.int .i64 k, .int .i64 n, .string t, .slice a N cap], .int .i64 D] w fun e w' => e = .returned (.int .i64 (fewDL d l 1 : Int)) ∧ Below w.heap.size w w' := by
  have HKID := Lib.hid (kidsD hl hc)
  have g1 : decide ((100 : Int) < (t.size : Int)) = false := decide_eq_false (by omega)
  have g4 : decide ((500 : Int) < (N : Int)) = false := decide_eq_false (by omega)
  obtain ⟨R, hR⟩ : ∃ R, R = fewDL d l 1 := ⟨_, rfl⟩
  rw [← hR]
  have HRR := Lib.hid hR
  obtain ⟨Z, hZ⟩ : ∃ Z, Z = w.alloc (.cells #[.int .i64 k, .int .i64 n, .string t, .slice a N cap] 24) := ⟨_, rfl⟩
  have hbW : Below w.heap.size w Z := by rw [hZ]; exact below1 _ _
  have HB0 : Hid (Below Z.heap.size Z (w.alloc (.cells #[.int .i64 k, .int .i64 n, .string t, .slice a N cap] 24))) := Lib.hid (by rw [← hZ]; exact Below.refl _ _)
  have HC := Lib.hid (fun W (hb : Below Z.heap.size Z W) => dc_cells (by rw [hZ] at hb; exact hb))
  have UP := Lib.hid (fun W (h : Below Z.heap.size Z W) => hbW.trans (h.mono hbW.size))
  clear hZ hbW hl hc hR h1
  go_enter Tryd.func22, Tryd.ntmps22
  go_wp2_with fail
  go_loopg [5, 6] N (fun gn z i wr => ∃ (q s : Nat), gn = N - q ∧ q ≤ N ∧ i = .int .i64 (q : Int) ∧ z = .int .i64 (s : Int) ∧ s ≤ 100000 ∧ Hid (R = fewDL d (l.drop q) s) ∧ Hid (Below Z.heap.size Z wr))
  case atStart => exact ⟨0, 1, rfl, Nat.zero_le _, rfl, rfl, by omega, Lib.hid (by rw [HRR.out]; rfl), HB0⟩
  case round =>
    obtain ⟨q, s, hgn, hq, rfl, rfl, hs, HK, HB⟩ := hrel
    obtain ⟨d0, d1, d2, d3⟩ := HC.out _ HB.out
    have HBw : Hid (Below w.heap.size w wr) := Lib.hid (UP.out _ HB.out)
    by_cases hlt : q < N
    · by_cases hk : s < 1000
      · obtain ⟨x, hx⟩ : ∃ x, l[q]? = some x := ⟨_, List.getElem?_eq_getElem (by rw [← HN.out]; exact hlt)⟩
        obtain ⟨g, o, k', n', t', lv', rfl, hnd, hcell⟩ := HKID.out q x hx
        obtain ⟨e0, e1, e2, e3⟩ := hcell wr HBw.out
        have HI1 := Lib.hid (HI.out _ x hnd wr HBw.out)
        have qn : (q : Int) < (N : Int) := by omega
        have kn : (s : Int) < 1000 := by omega
        have HK2 : Hid (R = fewDL d (l.drop (q + 1)) (s + fewD d x)) := Lib.hid (by rw [HK.out, drop_cons' hx, fewDL_cons, if_pos hk])
        have hfx := fewD_le d x
        obtain ⟨y, hy⟩ : ∃ y, y = fewD d x := ⟨_, rfl⟩
        rw [← hy] at HI1 HK2 hfx
        have sy : s + y ≤ 100000 := by omega
        clear hcell hx hnd hy HK hfx
        go_wp2_with fail
        refine HI1.out.mono ?_
        rintro e w1 ⟨rfl, hb1⟩
        have HB1 := Lib.hid (HB.out.trans (hb1.mono HB.out.size))
        clear hb1
        go_wp2_with fail
        go_roundg (N - (q + 1))
        case measure => omega
        case rel => exact ⟨q + 1, s + y, rfl, hlt, by go_num, by go_num, sy, HK2, HB1⟩
      · have qn : (q : Int) < (N : Int) := by omega
        have kn : ¬ (s : Int) < 1000 := by omega
        have HF : Hid (s = R) := Lib.hid (by rw [HK.out, fewDL_done _ _ _ (by omega)])
        go_wp2_with fail
        go_ret
        exact ⟨retN HF.out, HBw.out⟩
    · obtain rfl : q = N := by omega
      have HF : Hid (s = R) := Lib.hid (by rw [HK.out, List.drop_eq_nil_of_le (by rw [HN.out]; exact Nat.le_refl _)]; rfl)
      go_wp2_with fail
      go_ret
      exact ⟨retN HF.out, HBw.out⟩
theorem fewD_any : ∀ (d : Nat), d ≤ 60 → ∀ (n : Dc) (c : List Value) (w : World), DcAt w c n →
    Calls Tryd.prog 22 #[.agg c.toArray, .int .i64 (d : Int)] w fun e w' => e = .returned (.int .i64 (fewD d n : Int)) ∧ Below w.heap.size w w'
  | 0, _, .mk k n t l, c, w, h => by
    obtain ⟨lv, cs, rfl, hl, hc⟩ := h.inv
    obtain ⟨a, cap, rfl, -⟩ := hl
    exact fewD_zero k n t a _ cap w
  | d + 1, hd, .mk k n t l, c, w, h => by
    obtain ⟨lv, cs, rfl, hl, hc⟩ := h.inv
    have hl' := hl
    obtain ⟨a, cap, rfl, -⟩ := hl
    simp only [fewD]
    have hD : ((((d + 1 : Nat) : Int)) == 0) = false := beq_false_of_ne (by omega)
    by_cases ht : t.size ≤ 100 ∧ l.length ≤ 500
    · have e : (decide (t.size ≤ 100) && decide (l.length ≤ 500)) = true := by simp [ht.1, ht.2]
      simp only [e, if_true]
      exact fewD_loop k n t a _ cap w l cs d (by omega) _ hD (by omega) (by omega) ht.1 ht.2 (Lib.hid rfl) hl' hc (Lib.hid fun c x hx W hb => by
        rw [show (((d + 1 : Nat) : Int)) - 1 = (d : Int) by omega]
        exact fewD_any d (by omega) x c W (hx.bel hb))
    · have e : (decide (t.size ≤ 100) && decide (l.length ≤ 500)) = false := by
        cases h : (decide (t.size ≤ 100) && decide (l.length ≤ 500))
        · rfl
        · simp only [Bool.and_eq_true, decide_eq_true_eq] at h
          exact absurd h ht
      simp only [e]
      exact fewD_bad k n t a _ cap w _ hD ht
set_option maxRecDepth 100000 in
theorem fwD_any (n : Dc) (c : List Value) (w : World) (h : DcAt w c n) :
    Calls Tryd.prog 9 #[.agg c.toArray] w fun e w' => e = .returned (.bool (fwD n)) ∧ Below w.heap.size w w' := by
  have H : Hid (∀ W, Below w.heap.size w W → Calls Tryd.prog 22 #[.agg c.toArray, .int .i64 60] W fun e w' => e = .returned (.int .i64 (fewD 60 n : Int)) ∧ Below W.heap.size W w') := Lib.hid (fun W hb => fewD_any 60 (Nat.le_refl _) n c W (h.bel hb))
  have hR : fwD n = decide ((fewD 60 n : Int) ≤ 500) := decide_eq_decide.2 (by omega)
  rw [hR]
  cases n with
  | mk k n t l =>
    obtain ⟨lv, cs, rfl, -⟩ := h.inv
    clear h hR
    obtain ⟨m, hm⟩ : ∃ m, m = fewD 60 (.mk k n t l) := ⟨_, rfl⟩
    rw [← hm] at H ⊢
    clear hm
    go_enter Tryd.func9, Tryd.ntmps9
    go_wp2_with fail
    refine (H.out _ (below1 _ _)).mono ?_
    rintro e w1 ⟨rfl, hb1⟩
    have B1 : Hid (Below w.heap.size w w1) := Lib.hid ((below1 w _).trans (hb1.mono (by simp)))
    clear hb1
    go_wp2_with fail
    go_ret
    exact ⟨by simp, B1.out⟩
end Go.Proofs.YtbjgoigdhijbgaaDoor
