/-
  THE PROGRAM's gap: the closure that counts, Broken, Blank.
-/
import Derived.Test.YtaaijenbcfjdlaaGapApart
import Derived.OneCell
namespace Go.Proofs.Ytaaijenbcfjdlaa
open Go.RowKit Go.PlainAid

/-- The closure's two blocks: the byte that it counts, and how many there were. -/
def Cn (w W : World) (c : Int) (n : Nat) : Prop :=
  W.heap[w.heap.size]? = some (.cells #[.int .u8 c] 5 (0, 0)) ∧ W.heap[w.heap.size + 1]? = some (.cells #[.int .i64 (n : Int)] 3 (0, 0)) ∧ Below w.heap.size w W
theorem cn_new (w : World) (c : Int) : Cn w ((w.alloc (.cells #[.int .u8 c] 5)).alloc (.cells #[.int .i64 0] 3)) c 0 := by
  refine ⟨?_, ?_, below2 _ _ _⟩
  · show ((w.heap.push _).push _)[w.heap.size]? = _
    rw [Array.getElem?_push_lt (by simp), Array.getElem_push_eq]
  · show ((w.heap.push _).push _)[w.heap.size + 1]? = _
    rw [Array.getElem?_push, if_pos (by simp)]
    rfl
theorem cn_next {w W : World} {c : Int} {n : Nat} (h : Cn w W c n) : Cn w (W.setCell ⟨w.heap.size + 1, 0, none⟩ (.int .i64 ((n : Int) + 1))) c (n + 1) := by
  obtain ⟨h1, h2, h3⟩ := h
  refine ⟨?_, ?_, h3.setCell (by show w.heap.size ≤ w.heap.size + 1; omega) _⟩
  · rw [Below.heap_setCell _ _ _ _ (by show w.heap.size ≠ w.heap.size + 1; omega)]; exact h1
  · exact one_setCell h2
set_option maxRecDepth 100000 in
theorem step_any (b c : Int) (n : Nat) (hn : n ≤ 1048576) (w W : World) (h : Cn w W c n) :
    Calls Try.prog 50 #[.int .u8 b, .pointer (some ⟨w.heap.size, 0, none⟩), .pointer (some ⟨w.heap.size + 1, 0, none⟩)] W fun e W' => e = .returned (.int .i64 ((if b = c then n + 1 else n : Nat) : Int)) ∧ Cn w W' c (if b = c then n + 1 else n) := by
  have HC := Lib.hid h
  have q0 := cell_of_row W _ 0 _ _ _ h.1
  have q1 := cell_of_row W _ 0 _ _ _ h.2.1
  simp only [List.getElem?_toArray, List.getElem?_cons_zero] at q0 q1
  have f1 := frz_of h.2.1 0
  clear h
  by_cases hb : b = c
  · rw [if_pos hb]
    have hb' : (b == c) = true := by simpa using hb
    clear hb
    go_enter Try.func50, Try.ntmps50
    go_wp2_with fail
    go_ret
    exact ⟨retI (by omega), cn_next HC.out⟩
  · rw [if_neg hb]
    have hb' : (b == c) = false := by simpa using hb
    clear hb
    go_enter Try.func50, Try.ntmps50
    go_wp2_with fail
    go_ret
    exact ⟨rfl, HC.out⟩
set_option maxRecDepth 100000 in
theorem counter_any (c : Int) (w : World) :
    Calls Try.prog 47 #[.int .u8 c] w fun e w' => e = .returned (.func (.func 50) #[] #[.pointer (some ⟨w.heap.size, 0, none⟩), .pointer (some ⟨w.heap.size + 1, 0, none⟩)]) ∧ Cn w w' c 0 := by
  go_enter Try.func47, Try.ntmps47
  go_wp2
  go_ret
  exact ⟨rfl, cn_new w c⟩
theorem ret_dec {p q : Prop} [Decidable p] [Decidable q] (h : p ↔ q) : Ending.returned (Value.bool (decide p)) = Ending.returned (Value.bool (decide q)) := by rw [decide_eq_decide.2 h]
set_option maxRecDepth 100000 in
set_option maxHeartbeats 4000000 in
theorem apart_any (s X : ByteArray) (v : Value) (k : Int) (m : Nat) (hm : 1 ≤ m) (hm2 : m ≤ 100) (hX : X.size ≤ 1048576) (w : World)
    (H : Calls Try.prog 46 #[.string s, v, .int .i64 k] w fun e w' => e = .returned (.string X) ∧ Below w.heap.size w w') :
    Calls Try.prog 43 #[.string s, v, .int .i64 k, .int .i64 (m : Int)] w fun e w' => e = .returned (.bool (decide (m ≤ nlr X 0 X.size))) ∧ Below w.heap.size w w' := by
  have HB := Lib.hid H
  have HCN := Lib.hid (fun W => counter_any 10 W)
  clear H
  have gb := Lib.hid (get_bt X)
  obtain ⟨R, hR⟩ : ∃ R, R = decide (m ≤ nlr X 0 X.size) := ⟨_, rfl⟩
  rw [← hR]
  have HR := Lib.hid hR
  clear hR
  go_enter Try.func43, Try.ntmps43
  go_wp2_with fail
  refine HB.out.mono ?_
  rintro e w1 ⟨rfl, hb1⟩
  have B1 := Lib.hid hb1
  clear hb1
  go_wp2_with fail
  refine (HCN.out _).mono ?_
  rintro e w2 ⟨rfl, hc2⟩
  have C2 := Lib.hid hc2
  clear hc2
  go_wp2_with fail
  go_loopg [19] X.size (fun gn i wr => ∃ (j : Nat), gn = X.size - j ∧ j ≤ X.size ∧ i = .int .i64 j ∧ Hid (Cn w1 wr 10 (nlr X 0 j)) ∧ Hid (nlr X 0 j < m))
  case atStart => exact ⟨0, rfl, Nat.zero_le _, rfl, C2, Lib.hid (by show 0 < m; omega)⟩
  case round =>
    obtain ⟨j, hgn, hj, rfl, HC, HL⟩ := hrel
    by_cases hlt : j < X.size
    · have hS := step_any (bt X j) 10 (nlr X 0 j) (by have := nlr_le X 0 j; omega) w1 wr HC.out
      have hbj := gb.out j hlt
      have jn : (j : Int) < (X.size : Int) := by omega
      obtain ⟨b, hb⟩ : ∃ b, b = bt X j := ⟨_, rfl⟩
      rw [← hb] at hS hbj
      have hn : (if b = 10 then nlr X 0 j + 1 else nlr X 0 j) = nlr X 0 (j + 1) := by
        by_cases h : b = 10
        · rw [if_pos h, nlr_hit (by rw [Nat.zero_add, ← hb]; exact h)]
        · rw [if_neg h, nlr_miss (by rw [Nat.zero_add, ← hb]; exact h)]
      rw [hn] at hS
      obtain ⟨n, hnn⟩ : ∃ n, n = nlr X 0 (j + 1) := ⟨_, rfl⟩
      rw [← hnn] at hS
      have hle : n ≤ m := by
        have := HL.out
        rw [hnn, ← hn]; split <;> omega
      have HS := Lib.hid hS
      have HNN := Lib.hid hnn
      clear hS hn hnn HC HL hb
      by_cases hq : n = m
      · have HF : Hid (true = R) := Lib.hid (by
          rw [HR.out]
          refine (decide_eq_true ?_).symm
          rw [← hq, HNN.out]
          exact nlr_mono X 0 hlt)
        have hq' : ((n : Int) == (m : Int)) = true := by rw [hq]; simp
        clear hq
        go_wp2_with fail
        refine HS.out.mono ?_
        rintro e w3 ⟨rfl, hc3⟩
        have B3 : Hid (Below w.heap.size w w3) := Lib.hid (B1.out.trans (hc3.2.2.mono B1.out.size))
        clear hc3
        go_wp2_with fail
        go_ret
        exact ⟨ret_bool HF.out, B3.out⟩
      · have hq' : ((n : Int) == (m : Int)) = false := beq_false_of_ne (by omega)
        have HL2 : Hid (nlr X 0 (j + 1) < m) := Lib.hid (by rw [← HNN.out]; omega)
        clear hq
        go_wp2_with fail
        refine HS.out.mono ?_
        rintro e w3 ⟨rfl, hc3⟩
        have C3 : Hid (Cn w1 w3 10 (nlr X 0 (j + 1))) := Lib.hid (by rw [← HNN.out]; exact hc3)
        clear hc3
        go_wp2_with fail
        go_roundg (X.size - (j + 1))
        case measure => omega
        case rel => exact ⟨j + 1, rfl, hlt, by go_num, C3, HL2⟩
    · obtain rfl : j = X.size := by omega
      have HF : Hid (false = R) := Lib.hid (by
        rw [HR.out]
        exact (decide_eq_false (by have := HL.out; omega)).symm)
      have B3 : Hid (Below w.heap.size w wr) := Lib.hid (B1.out.trans (HC.out.2.2.mono B1.out.size))
      go_wp2_with fail
      go_ret
      exact ⟨ret_bool HF.out, B3.out⟩
theorem nlr_ext {s : ByteArray} {e a : Nat} (he : a ≤ s.size) : ∀ n, n ≤ a - e → nlr (s.extract e a) 0 n = nlr s e n
  | 0, _ => rfl
  | n + 1, h => by
    simp only [nlr]
    rw [nlr_ext he n (by omega), Nat.zero_add, bt_ext s e a n he (by omega)]
theorem nlr_extract {s : ByteArray} {e a : Nat} (he : a ≤ s.size) : nlr (s.extract e a) 0 (s.extract e a).size = nlr s e (a - e) := by
  rw [size_ext s e a he]
  exact nlr_ext he _ (Nat.le_refl _)
theorem gap_between {s : ByteArray} {L : List Tk3} {j : Nat} (hsc : sc s j = some L) (hs : s.size ≤ 1048576) (hl : L.length ≤ 1048576) (v : Value) (k : Int) (w : World) (ht : TRow w v (toks s L)) :
    ∃ X : ByteArray, X.size ≤ 1048576 ∧ nlr X 0 X.size = nls s L k ∧ Calls Try.prog 46 #[.string s, v, .int .i64 k] w fun e w' => e = .returned (.string X) ∧ Below w.heap.size w w' := by
  by_cases h : k < 1 ∨ (L.length : Int) ≤ k
  · refine ⟨{ data := #[] }, by decide, ?_, between_out s v (toks s L) k (by rw [toks_len]; exact h) w ht⟩
    rw [nls_out h]; rfl
  · obtain ⟨i, rfl⟩ : ∃ i : Nat, k = (i : Int) + 1 := ⟨(k - 1).toNat, by omega⟩
    obtain ⟨x, hx⟩ : ∃ x, L[i]? = some x := ⟨_, List.getElem?_eq_getElem (by omega)⟩
    obtain ⟨y, hy⟩ : ∃ y, L[i + 1]? = some y := ⟨_, List.getElem?_eq_getElem (by omega)⟩
    obtain ⟨p1, p2, p3, p4⟩ := sc_pair L j hsc i x y hx hy
    refine ⟨s.extract x.2.2 y.2.1, by rw [size_ext s _ _ (by omega)]; omega, ?_, ?_⟩
    · rw [nls_in hx hy]; exact nlr_extract (by omega)
    · exact between_in s hs v (toks s L) (by rw [toks_len]; exact hl) i x.1 y.1 (s.extract x.2.1 x.2.2) (s.extract y.2.1 y.2.2) x.2.1 x.2.2 y.2.1 y.2.2 (toks_at hx) (toks_at hy) (by omega) p2 (by omega) p4 rfl rfl w ht
set_option maxRecDepth 100000 in
theorem blankg_any {s : ByteArray} {L : List Tk3} {j : Nat} (hsc : sc s j = some L) (hs : s.size ≤ 1048576) (hl : L.length ≤ 1048576) (v : Value) (k : Int) (w : World) (ht : TRow w v (toks s L)) :
    Calls Try.prog 34 #[.string s, v, .int .i64 k] w fun e w' => e = .returned (.bool (decide (2 ≤ nls s L k))) ∧ Below w.heap.size w w' := by
  obtain ⟨X, hX, hn, hc⟩ := gap_between hsc hs hl v k w ht
  have HA := Lib.hid (apart_any s X v k 2 (by omega) (by omega) hX w hc)
  rw [hn] at HA
  clear hc hsc ht
  go_enter Try.func34, Try.ntmps34
  go_wp2_with fail
  refine HA.out.mono ?_
  rintro e w1 ⟨rfl, hb1⟩
  have B1 := Lib.hid hb1
  clear hb1
  go_wp2_with fail
  go_ret
  exact ⟨rfl, B1.out⟩
end Go.Proofs.Ytaaijenbcfjdlaa
