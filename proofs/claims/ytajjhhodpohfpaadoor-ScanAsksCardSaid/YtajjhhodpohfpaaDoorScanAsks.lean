/-
  A text's tokens, the token at any byte, and blanks are what the document says (promises 6.1 to 6.3): for every text and integer the statement ScanAsks returns true.
-/
import Derived.Test.YtajjhhodpohfpaaDoorScanLaid
import Derived.Test.YtajjhhodpohfpaaDoorCards
import Derived.Test.YtajjhhodpohfpaaDoorTie
import Derived.Test.YtajjhhodpohfpaaDoorBase
import Derived.Test.YtajjhhodpohfpaaDoorScanTolds
import Derived.Test.YtajjhhodpohfpaaDoorRefScans
namespace Go.Proofs.YtajjhhodpohfpaaDoor.scanAsks
open Go.ChangeShapes Go.WideShapes Go.ChangeAt Go.RowKit Go.PlainAid

/-- Both Ones' one answer. -/
theorem both (s : ByteArray) (a : Int) (hs : s.size ≤ 1048576) : ∃ (x0 : Int) (X : ByteArray) (x2 c : Int), (¬ (0 ≤ a ∧ a < s.size) → c = 4) ∧
    (∀ W, STabs W → Calls Tryd.prog 14 #[.string s, .int .i64 a] W fun e w' => e = .returned (.tuple #[.agg #[.int .i64 x0, .string X, .int .i64 x2], .int .i64 c]) ∧ Below W.heap.size W w') ∧
    (∀ W, Calls Tryd.prog 15 #[.string s, .int .i64 a] W fun e w' => e = .returned (.tuple #[.agg #[.int .i64 x0, .string X, .int .i64 x2], .int .i64 c]) ∧ Below W.heap.size W w') := by
  by_cases h : 0 ≤ a ∧ a < s.size
  · obtain ⟨k, rfl⟩ : ∃ k : Nat, a = (k : Int) := ⟨a.toNat, by omega⟩
    have hk : k < s.size := by omega
    have h1 := fun W hW => one_any6 s k hk hs W hW
    have h2 := fun W => rone_in s k hk hs W
    unfold tokV at h1 h2
    by_cases h0 : (one s k).1 = 0
    · rw [if_pos h0] at h1 h2
      exact ⟨_, _, _, _, fun g => absurd h g, h1, h2⟩
    · rw [if_neg h0] at h1 h2
      exact ⟨_, _, _, _, fun g => absurd h g, h1, h2⟩
  · exact ⟨0, ⟨#[]⟩, 0, 4, fun _ => rfl, fun W hW => one_out6 s a (by omega) W hW, fun W => rone_out s a (by omega) W⟩
set_option maxRecDepth 100000 in
set_option maxHeartbeats 4000000 in
theorem walk_a (s : ByteArray) (a : Int) (hz0 : s.size = 0) (ha : a < 0) (hout : ¬ (0 ≤ a ∧ a < s.size)) (w : World) (ht : STabs w) :
    Calls Tryd.prog 3 #[.string s, .int .i64 a] w fun e w' => e = .returned (.bool true) ∧ Below w.heap.size w w' := by
  have HT := Lib.hid ht
  clear ht
  have h1 : ¬ (1500 : Int) < (s.size : Int) := by omega
  obtain ⟨L, c, hR⟩ : ∃ L c, scanR s = (L, c) := ⟨_, _, rfl⟩
  have HLl : Hid (L.length ≤ 1048576) := Lib.hid (by
    have h : (scanR s).1.length ≤ s.size := scan_len s
    rw [hR] at h
    have h' : L.length ≤ s.size := h
    omega)
  have HSC := Lib.hid (fun W h => scan_is s L c hR (by omega) W h)
  have HRS := Lib.hid (fun W => rscan_is s L c hR (by omega) W)
  have hcc : (c != c) = false := by simp
  clear hR
  obtain ⟨y0, Y, y2, f, hf4, HP, -⟩ := both s a (by omega)
  have HF4 := Lib.hid hf4
  have HPa := Lib.hid HP
  clear hf4 HP
  obtain rfl : f = 4 := HF4.out hout
  clear hout
  clear HF4
  have hz : ¬ (0 : Int) < (s.size : Int) := by omega
  have hz1 : ¬ 0 < s.size := by omega
  have ha0 : decide ((0 : Int) ≤ a) = false := decide_eq_false (by omega)
  go_enter Tryd.func3, Tryd.ntmps3
  go_wp2_with fail
  refine (HSC.out _ HT.out).mono ?_
  rintro e w1 ⟨v1, rfl, ha1, hb1⟩
  have A1 := Lib.hid ha1
  have B1 := Lib.hid hb1
  clear ha1 hb1
  go_wp2_with fail
  refine (HRS.out _).mono ?_
  rintro e w2 ⟨v2, rfl, ha2, hb2⟩
  have A1b := Lib.hid (A1.out.below hb2)
  have A2 := Lib.hid ha2
  have B2 : Hid (Below w.heap.size w w2) := Lib.hid (B1.out.trans (hb2.mono B1.out.size))
  clear ha2 hb2 A1 B1
  go_wp2_with fail
  refine (tokens_same s L v1 v2 HLl.out _ A1b.out A2.out).mono ?_
  rintro e w3 ⟨rfl, q0, rfl⟩
  have B3 : Hid (Below w.heap.size w (w2.drewN q0)) := Lib.hid (B2.out.trans ((drew_below _ _).mono B2.out.size))
  go_wp2_with fail
  refine (HPa.out _ (HT.out.below B3.out)).mono ?_
  rintro e w8 ⟨rfl, hb8⟩
  have B8 : Hid (Below w.heap.size w w8) := Lib.hid (B3.out.trans (hb8.mono B3.out.size))
  have B8b : Hid (Below w.heap.size w (w8.alloc (.cells #[.int .i64 y0, .string Y, .int .i64 y2] 29))) := Lib.hid (B8.out.alloc B8.out.size _)
  clear hb8
  go_wp2_with fail
  refine (told6_any _ (HT.out.below B8b.out)).mono ?_
  rintro e w9 ⟨rfl, hb9⟩
  have B9 : Hid (Below w.heap.size w w9) := Lib.hid (B8b.out.trans (hb9.mono B8b.out.size))
  clear hb9
  go_wp2_with fail
  go_ret
  exact ⟨rfl, B9.out⟩
set_option maxRecDepth 100000 in
set_option maxHeartbeats 4000000 in
theorem walk_b (s : ByteArray) (a : Int) (hz0 : s.size = 0) (ha : 0 ≤ a) (hout : ¬ (0 ≤ a ∧ a < s.size)) (w : World) (ht : STabs w) :
    Calls Tryd.prog 3 #[.string s, .int .i64 a] w fun e w' => e = .returned (.bool true) ∧ Below w.heap.size w w' := by
  have HT := Lib.hid ht
  clear ht
  have h1 : ¬ (1500 : Int) < (s.size : Int) := by omega
  obtain ⟨L, c, hR⟩ : ∃ L c, scanR s = (L, c) := ⟨_, _, rfl⟩
  have HLl : Hid (L.length ≤ 1048576) := Lib.hid (by
    have h : (scanR s).1.length ≤ s.size := scan_len s
    rw [hR] at h
    have h' : L.length ≤ s.size := h
    omega)
  have HSC := Lib.hid (fun W h => scan_is s L c hR (by omega) W h)
  have HRS := Lib.hid (fun W => rscan_is s L c hR (by omega) W)
  have hcc : (c != c) = false := by simp
  clear hR
  obtain ⟨y0, Y, y2, f, hf4, HP, -⟩ := both s a (by omega)
  have HF4 := Lib.hid hf4
  have HPa := Lib.hid HP
  clear hf4 HP
  obtain rfl : f = 4 := HF4.out hout
  clear hout
  clear HF4
  have ha1 : decide (a < (s.size : Int)) = false := decide_eq_false (by omega)
  have hz : ¬ (0 : Int) < (s.size : Int) := by omega
  have hz1 : ¬ 0 < s.size := by omega
  go_enter Tryd.func3, Tryd.ntmps3
  go_wp2_with fail
  refine (HSC.out _ HT.out).mono ?_
  rintro e w1 ⟨v1, rfl, ha1, hb1⟩
  have A1 := Lib.hid ha1
  have B1 := Lib.hid hb1
  clear ha1 hb1
  go_wp2_with fail
  refine (HRS.out _).mono ?_
  rintro e w2 ⟨v2, rfl, ha2, hb2⟩
  have A1b := Lib.hid (A1.out.below hb2)
  have A2 := Lib.hid ha2
  have B2 : Hid (Below w.heap.size w w2) := Lib.hid (B1.out.trans (hb2.mono B1.out.size))
  clear ha2 hb2 A1 B1
  go_wp2_with fail
  refine (tokens_same s L v1 v2 HLl.out _ A1b.out A2.out).mono ?_
  rintro e w3 ⟨rfl, q0, rfl⟩
  have B3 : Hid (Below w.heap.size w (w2.drewN q0)) := Lib.hid (B2.out.trans ((drew_below _ _).mono B2.out.size))
  go_wp2_with fail
  refine (HPa.out _ (HT.out.below B3.out)).mono ?_
  rintro e w8 ⟨rfl, hb8⟩
  have B8 : Hid (Below w.heap.size w w8) := Lib.hid (B3.out.trans (hb8.mono B3.out.size))
  have B8b : Hid (Below w.heap.size w (w8.alloc (.cells #[.int .i64 y0, .string Y, .int .i64 y2] 29))) := Lib.hid (B8.out.alloc B8.out.size _)
  clear hb8
  go_wp2_with fail
  refine (told6_any _ (HT.out.below B8b.out)).mono ?_
  rintro e w9 ⟨rfl, hb9⟩
  have B9 : Hid (Below w.heap.size w w9) := Lib.hid (B8b.out.trans (hb9.mono B8b.out.size))
  clear hb9
  go_wp2_with fail
  go_ret
  exact ⟨rfl, B9.out⟩
set_option maxRecDepth 100000 in
set_option maxHeartbeats 4000000 in
theorem walk_c (s : ByteArray) (a : Int) (hs1 : s.size ≤ 1500) (hz0 : 0 < s.size) (ha : a < 0) (hout : ¬ (0 ≤ a ∧ a < s.size)) (w : World) (ht : STabs w) :
    Calls Tryd.prog 3 #[.string s, .int .i64 a] w fun e w' => e = .returned (.bool true) ∧ Below w.heap.size w w' := by
  have HT := Lib.hid ht
  clear ht
  have h1 : ¬ (1500 : Int) < (s.size : Int) := by omega
  obtain ⟨L, c, hR⟩ : ∃ L c, scanR s = (L, c) := ⟨_, _, rfl⟩
  have HLl : Hid (L.length ≤ 1048576) := Lib.hid (by
    have h : (scanR s).1.length ≤ s.size := scan_len s
    rw [hR] at h
    have h' : L.length ≤ s.size := h
    omega)
  have HSC := Lib.hid (fun W h => scan_is s L c hR (by omega) W h)
  have HRS := Lib.hid (fun W => rscan_is s L c hR (by omega) W)
  have hcc : (c != c) = false := by simp
  clear hR
  obtain ⟨y0, Y, y2, f, hf4, HP, -⟩ := both s a (by omega)
  have HF4 := Lib.hid hf4
  have HPa := Lib.hid HP
  clear hf4 HP
  obtain rfl : f = 4 := HF4.out hout
  clear hout
  clear HF4
  have ha0 : decide ((0 : Int) ≤ a) = false := decide_eq_false (by omega)
  obtain ⟨K, hK, eK⟩ : ∃ K : Nat, K < s.size ∧ (IntKind.u64.wrap a).tmod (s.size : Int) = (K : Int) := by
    have h0 := IntKind.wrap_u64 a
    have h4 := Int.tmod_nonneg (a := IntKind.u64.wrap a) (s.size : Int) (by omega)
    have h5 := Int.tmod_lt_of_pos (IntKind.u64.wrap a) (b := (s.size : Int)) (by omega)
    have h6 := Int.toNat_of_nonneg h4
    exact ⟨((IntKind.u64.wrap a).tmod (s.size : Int)).toNat, by omega, h6.symm⟩
  have eu : IntKind.u64.wrap (s.size : Int) = (s.size : Int) := by rw [IntKind.wrap_u64]; omega
  obtain ⟨x0, X, x2, d, -, hO1, hO2⟩ := both s (K : Nat) (by omega)
  have HO1 := Lib.hid hO1
  have HO2 := Lib.hid hO2
  clear hO1 hO2
  have HBL1 := Lib.hid (fun W h => blank_any6 s K (by omega) (by omega) W h)
  have HBL2 := Lib.hid (fun W => rblank_any s K (by omega) (by omega) W)
  obtain ⟨E, hE⟩ : ∃ E, E = fw bl s K := ⟨_, rfl⟩
  rw [← hE] at HBL1 HBL2
  have hEE : ((E : Int) != (E : Int)) = false := by simp
  clear hE
  have hz : (0 : Int) < (s.size : Int) := by omega
  have hdd : (d != d) = false := by simp
  go_enter Tryd.func3, Tryd.ntmps3
  go_wp2_with fail
  refine (HSC.out _ HT.out).mono ?_
  rintro e w1 ⟨v1, rfl, ha1, hb1⟩
  have A1 := Lib.hid ha1
  have B1 := Lib.hid hb1
  clear ha1 hb1
  go_wp2_with fail
  refine (HRS.out _).mono ?_
  rintro e w2 ⟨v2, rfl, ha2, hb2⟩
  have A1b := Lib.hid (A1.out.below hb2)
  have A2 := Lib.hid ha2
  have B2 : Hid (Below w.heap.size w w2) := Lib.hid (B1.out.trans (hb2.mono B1.out.size))
  clear ha2 hb2 A1 B1
  go_wp2_with fail
  refine (tokens_same s L v1 v2 HLl.out _ A1b.out A2.out).mono ?_
  rintro e w3 ⟨rfl, q0, rfl⟩
  have B3 : Hid (Below w.heap.size w (w2.drewN q0)) := Lib.hid (B2.out.trans ((drew_below _ _).mono B2.out.size))
  go_wp2_with fail
  refine (HO1.out _ (HT.out.below B3.out)).mono ?_
  rintro e w4 ⟨rfl, hb4⟩
  have B4 : Hid (Below w.heap.size w w4) := Lib.hid (B3.out.trans (hb4.mono B3.out.size))
  clear hb4
  go_wp2_with fail
  refine (HO2.out _).mono ?_
  rintro e w5 ⟨rfl, hb5⟩
  have Q5 := Lib.hid (row_of (hb5.mono (by simp)))
  have B5 : Hid (Below w.heap.size w w5) := Lib.hid (B4.out.trans (((below1 w4 _).trans (hb5.mono (by simp))).mono B4.out.size))
  have hlt5 : Hid (w4.heap.size < w5.heap.size) := Lib.hid (Array.getElem?_eq_some_iff.1 Q5.out).1
  clear hb5
  have q0 := cell_of_row w5 _ 0 _ _ _ Q5.out
  have q1 := cell_of_row w5 _ 1 _ _ _ Q5.out
  have q2 := cell_of_row w5 _ 2 _ _ _ Q5.out
  simp only [List.getElem?_toArray, List.getElem?_cons_zero, List.getElem?_cons_succ] at q0 q1 q2
  have hlt5' := hlt5.out
  go_wp2_with fail
  have B5b : Hid (Below w.heap.size w (w5.alloc (.cells #[.int .i64 x0, .string X, .int .i64 x2] 29))) := Lib.hid (B5.out.alloc B5.out.size _)
  refine (HBL1.out _ (HT.out.below B5b.out)).mono ?_
  rintro e w6 ⟨rfl, hb6⟩
  have B6 : Hid (Below w.heap.size w w6) := Lib.hid (B5b.out.trans (hb6.mono B5b.out.size))
  clear hb6 q0 q1 q2
  go_wp2_with fail
  refine (HBL2.out _).mono ?_
  rintro e w7 ⟨rfl, rfl⟩
  go_wp2_with fail
  refine (HPa.out _ (HT.out.below B6.out)).mono ?_
  rintro e w8 ⟨rfl, hb8⟩
  have B8 : Hid (Below w.heap.size w w8) := Lib.hid (B6.out.trans (hb8.mono B6.out.size))
  have B8b : Hid (Below w.heap.size w (w8.alloc (.cells #[.int .i64 y0, .string Y, .int .i64 y2] 29))) := Lib.hid (B8.out.alloc B8.out.size _)
  clear hb8
  go_wp2_with fail
  refine (told6_any _ (HT.out.below B8b.out)).mono ?_
  rintro e w9 ⟨rfl, hb9⟩
  have B9 : Hid (Below w.heap.size w w9) := Lib.hid (B8b.out.trans (hb9.mono B8b.out.size))
  clear hb9
  go_wp2_with fail
  go_ret
  exact ⟨rfl, B9.out⟩
set_option maxRecDepth 100000 in
set_option maxHeartbeats 4000000 in
theorem walk_d (s : ByteArray) (a : Int) (hs1 : s.size ≤ 1500) (k : Nat) (ek : a = (k : Int)) (hk : k < s.size) (w : World) (ht : STabs w) :
    Calls Tryd.prog 3 #[.string s, .int .i64 a] w fun e w' => e = .returned (.bool true) ∧ Below w.heap.size w w' := by
  have HT := Lib.hid ht
  clear ht
  have h1 : ¬ (1500 : Int) < (s.size : Int) := by omega
  obtain ⟨L, c, hR⟩ : ∃ L c, scanR s = (L, c) := ⟨_, _, rfl⟩
  have HLl : Hid (L.length ≤ 1048576) := Lib.hid (by
    have h : (scanR s).1.length ≤ s.size := scan_len s
    rw [hR] at h
    have h' : L.length ≤ s.size := h
    omega)
  have HSC := Lib.hid (fun W h => scan_is s L c hR (by omega) W h)
  have HRS := Lib.hid (fun W => rscan_is s L c hR (by omega) W)
  have hcc : (c != c) = false := by simp
  clear hR
  obtain ⟨y0, Y, y2, f, hf4, HP, -⟩ := both s a (by omega)
  have HF4 := Lib.hid hf4
  have HPa := Lib.hid HP
  clear hf4 HP
  clear HF4
  subst ek
  have ha0 : ¬ (k : Int) < 0 := by omega
  have ha1 : ¬ (s.size : Int) < (k : Int) := by omega
  have ha2 : (0 : Int) ≤ (k : Int) := by omega
  have ha3 : (k : Int) < (s.size : Int) := by omega
  obtain ⟨x0, X, x2, d, -, hO1, hO2⟩ := both s (k : Nat) (by omega)
  have HO1 := Lib.hid hO1
  have HO2 := Lib.hid hO2
  clear hO1 hO2
  have HBL1 := Lib.hid (fun W h => blank_any6 s k (by omega) (by omega) W h)
  have HBL2 := Lib.hid (fun W => rblank_any s k (by omega) (by omega) W)
  obtain ⟨E, hE⟩ : ∃ E, E = fw bl s k := ⟨_, rfl⟩
  rw [← hE] at HBL1 HBL2
  have hEE : ((E : Int) != (E : Int)) = false := by simp
  clear hE
  have hz : (0 : Int) < (s.size : Int) := by omega
  have hdd : (d != d) = false := by simp
  go_enter Tryd.func3, Tryd.ntmps3
  go_wp2_with fail
  refine (HSC.out _ HT.out).mono ?_
  rintro e w1 ⟨v1, rfl, ha1, hb1⟩
  have A1 := Lib.hid ha1
  have B1 := Lib.hid hb1
  clear ha1 hb1
  go_wp2_with fail
  refine (HRS.out _).mono ?_
  rintro e w2 ⟨v2, rfl, ha2, hb2⟩
  have A1b := Lib.hid (A1.out.below hb2)
  have A2 := Lib.hid ha2
  have B2 : Hid (Below w.heap.size w w2) := Lib.hid (B1.out.trans (hb2.mono B1.out.size))
  clear ha2 hb2 A1 B1
  go_wp2_with fail
  refine (tokens_same s L v1 v2 HLl.out _ A1b.out A2.out).mono ?_
  rintro e w3 ⟨rfl, q0, rfl⟩
  have B3 : Hid (Below w.heap.size w (w2.drewN q0)) := Lib.hid (B2.out.trans ((drew_below _ _).mono B2.out.size))
  go_wp2_with fail
  refine (HO1.out _ (HT.out.below B3.out)).mono ?_
  rintro e w4 ⟨rfl, hb4⟩
  have B4 : Hid (Below w.heap.size w w4) := Lib.hid (B3.out.trans (hb4.mono B3.out.size))
  clear hb4
  go_wp2_with fail
  refine (HO2.out _).mono ?_
  rintro e w5 ⟨rfl, hb5⟩
  have Q5 := Lib.hid (row_of (hb5.mono (by simp)))
  have B5 : Hid (Below w.heap.size w w5) := Lib.hid (B4.out.trans (((below1 w4 _).trans (hb5.mono (by simp))).mono B4.out.size))
  have hlt5 : Hid (w4.heap.size < w5.heap.size) := Lib.hid (Array.getElem?_eq_some_iff.1 Q5.out).1
  clear hb5
  have q0 := cell_of_row w5 _ 0 _ _ _ Q5.out
  have q1 := cell_of_row w5 _ 1 _ _ _ Q5.out
  have q2 := cell_of_row w5 _ 2 _ _ _ Q5.out
  simp only [List.getElem?_toArray, List.getElem?_cons_zero, List.getElem?_cons_succ] at q0 q1 q2
  have hlt5' := hlt5.out
  go_wp2_with fail
  have B5b : Hid (Below w.heap.size w (w5.alloc (.cells #[.int .i64 x0, .string X, .int .i64 x2] 29))) := Lib.hid (B5.out.alloc B5.out.size _)
  refine (HBL1.out _ (HT.out.below B5b.out)).mono ?_
  rintro e w6 ⟨rfl, hb6⟩
  have B6 : Hid (Below w.heap.size w w6) := Lib.hid (B5b.out.trans (hb6.mono B5b.out.size))
  clear hb6 q0 q1 q2
  go_wp2_with fail
  refine (HBL2.out _).mono ?_
  rintro e w7 ⟨rfl, rfl⟩
  go_wp2_with fail
  refine (HPa.out _ (HT.out.below B6.out)).mono ?_
  rintro e w8 ⟨rfl, hb8⟩
  have B8 : Hid (Below w.heap.size w w8) := Lib.hid (B6.out.trans (hb8.mono B6.out.size))
  have B8b : Hid (Below w.heap.size w (w8.alloc (.cells #[.int .i64 y0, .string Y, .int .i64 y2] 29))) := Lib.hid (B8.out.alloc B8.out.size _)
  clear hb8
  go_wp2_with fail
  refine (told6_any _ (HT.out.below B8b.out)).mono ?_
  rintro e w9 ⟨rfl, hb9⟩
  have B9 : Hid (Below w.heap.size w w9) := Lib.hid (B8b.out.trans (hb9.mono B8b.out.size))
  clear hb9
  go_wp2_with fail
  go_ret
  exact ⟨rfl, B9.out⟩
set_option maxRecDepth 100000 in
set_option maxHeartbeats 4000000 in
theorem walk_e (s : ByteArray) (a : Int) (hs1 : s.size ≤ 1500) (k : Nat) (ek : a = (k : Int)) (hz0 : 0 < s.size) (hk2 : k = s.size) (hout : ¬ (0 ≤ a ∧ a < s.size)) (w : World) (ht : STabs w) :
    Calls Tryd.prog 3 #[.string s, .int .i64 a] w fun e w' => e = .returned (.bool true) ∧ Below w.heap.size w w' := by
  have HT := Lib.hid ht
  clear ht
  have h1 : ¬ (1500 : Int) < (s.size : Int) := by omega
  obtain ⟨L, c, hR⟩ : ∃ L c, scanR s = (L, c) := ⟨_, _, rfl⟩
  have HLl : Hid (L.length ≤ 1048576) := Lib.hid (by
    have h : (scanR s).1.length ≤ s.size := scan_len s
    rw [hR] at h
    have h' : L.length ≤ s.size := h
    omega)
  have HSC := Lib.hid (fun W h => scan_is s L c hR (by omega) W h)
  have HRS := Lib.hid (fun W => rscan_is s L c hR (by omega) W)
  have hcc : (c != c) = false := by simp
  clear hR
  obtain ⟨y0, Y, y2, f, hf4, HP, -⟩ := both s a (by omega)
  have HF4 := Lib.hid hf4
  have HPa := Lib.hid HP
  clear hf4 HP
  obtain rfl : f = 4 := HF4.out hout
  clear hout
  clear HF4
  subst ek
  have ha0 : ¬ (k : Int) < 0 := by omega
  have ha1 : ¬ (s.size : Int) < (k : Int) := by omega
  have ha2 : (0 : Int) ≤ (k : Int) := by omega
  have ha3 : decide ((k : Int) < (s.size : Int)) = false := decide_eq_false (by omega)
  obtain ⟨x0, X, x2, d, -, hO1, hO2⟩ := both s (k : Nat) (by omega)
  have HO1 := Lib.hid hO1
  have HO2 := Lib.hid hO2
  clear hO1 hO2
  have HBL1 := Lib.hid (fun W h => blank_any6 s k (by omega) (by omega) W h)
  have HBL2 := Lib.hid (fun W => rblank_any s k (by omega) (by omega) W)
  obtain ⟨E, hE⟩ : ∃ E, E = fw bl s k := ⟨_, rfl⟩
  rw [← hE] at HBL1 HBL2
  have hEE : ((E : Int) != (E : Int)) = false := by simp
  clear hE
  have hk3 : k ≤ s.size := by omega
  have hk4 : s.size ≤ k := by omega
  clear hk2
  have hz : (0 : Int) < (s.size : Int) := by omega
  have hdd : (d != d) = false := by simp
  go_enter Tryd.func3, Tryd.ntmps3
  go_wp2_with fail
  refine (HSC.out _ HT.out).mono ?_
  rintro e w1 ⟨v1, rfl, ha1, hb1⟩
  have A1 := Lib.hid ha1
  have B1 := Lib.hid hb1
  clear ha1 hb1
  go_wp2_with fail
  refine (HRS.out _).mono ?_
  rintro e w2 ⟨v2, rfl, ha2, hb2⟩
  have A1b := Lib.hid (A1.out.below hb2)
  have A2 := Lib.hid ha2
  have B2 : Hid (Below w.heap.size w w2) := Lib.hid (B1.out.trans (hb2.mono B1.out.size))
  clear ha2 hb2 A1 B1
  go_wp2_with fail
  refine (tokens_same s L v1 v2 HLl.out _ A1b.out A2.out).mono ?_
  rintro e w3 ⟨rfl, q0, rfl⟩
  have B3 : Hid (Below w.heap.size w (w2.drewN q0)) := Lib.hid (B2.out.trans ((drew_below _ _).mono B2.out.size))
  go_wp2_with fail
  refine (HO1.out _ (HT.out.below B3.out)).mono ?_
  rintro e w4 ⟨rfl, hb4⟩
  have B4 : Hid (Below w.heap.size w w4) := Lib.hid (B3.out.trans (hb4.mono B3.out.size))
  clear hb4
  go_wp2_with fail
  refine (HO2.out _).mono ?_
  rintro e w5 ⟨rfl, hb5⟩
  have Q5 := Lib.hid (row_of (hb5.mono (by simp)))
  have B5 : Hid (Below w.heap.size w w5) := Lib.hid (B4.out.trans (((below1 w4 _).trans (hb5.mono (by simp))).mono B4.out.size))
  have hlt5 : Hid (w4.heap.size < w5.heap.size) := Lib.hid (Array.getElem?_eq_some_iff.1 Q5.out).1
  clear hb5
  have q0 := cell_of_row w5 _ 0 _ _ _ Q5.out
  have q1 := cell_of_row w5 _ 1 _ _ _ Q5.out
  have q2 := cell_of_row w5 _ 2 _ _ _ Q5.out
  simp only [List.getElem?_toArray, List.getElem?_cons_zero, List.getElem?_cons_succ] at q0 q1 q2
  have hlt5' := hlt5.out
  go_wp2_with fail
  have B5b : Hid (Below w.heap.size w (w5.alloc (.cells #[.int .i64 x0, .string X, .int .i64 x2] 29))) := Lib.hid (B5.out.alloc B5.out.size _)
  refine (HBL1.out _ (HT.out.below B5b.out)).mono ?_
  rintro e w6 ⟨rfl, hb6⟩
  have B6 : Hid (Below w.heap.size w w6) := Lib.hid (B5b.out.trans (hb6.mono B5b.out.size))
  clear hb6 q0 q1 q2
  go_wp2_with fail
  refine (HBL2.out _).mono ?_
  rintro e w7 ⟨rfl, rfl⟩
  go_wp2_with fail
  refine (HPa.out _ (HT.out.below B6.out)).mono ?_
  rintro e w8 ⟨rfl, hb8⟩
  have B8 : Hid (Below w.heap.size w w8) := Lib.hid (B6.out.trans (hb8.mono B6.out.size))
  have B8b : Hid (Below w.heap.size w (w8.alloc (.cells #[.int .i64 y0, .string Y, .int .i64 y2] 29))) := Lib.hid (B8.out.alloc B8.out.size _)
  clear hb8
  go_wp2_with fail
  refine (told6_any _ (HT.out.below B8b.out)).mono ?_
  rintro e w9 ⟨rfl, hb9⟩
  have B9 : Hid (Below w.heap.size w w9) := Lib.hid (B8b.out.trans (hb9.mono B8b.out.size))
  clear hb9
  go_wp2_with fail
  go_ret
  exact ⟨rfl, B9.out⟩
set_option maxRecDepth 100000 in
set_option maxHeartbeats 4000000 in
theorem walk_f (s : ByteArray) (a : Int) (hs1 : s.size ≤ 1500) (k : Nat) (ek : a = (k : Int)) (hz0 : 0 < s.size) (hk2 : s.size < k) (hout : ¬ (0 ≤ a ∧ a < s.size)) (w : World) (ht : STabs w) :
    Calls Tryd.prog 3 #[.string s, .int .i64 a] w fun e w' => e = .returned (.bool true) ∧ Below w.heap.size w w' := by
  have HT := Lib.hid ht
  clear ht
  have h1 : ¬ (1500 : Int) < (s.size : Int) := by omega
  obtain ⟨L, c, hR⟩ : ∃ L c, scanR s = (L, c) := ⟨_, _, rfl⟩
  have HLl : Hid (L.length ≤ 1048576) := Lib.hid (by
    have h : (scanR s).1.length ≤ s.size := scan_len s
    rw [hR] at h
    have h' : L.length ≤ s.size := h
    omega)
  have HSC := Lib.hid (fun W h => scan_is s L c hR (by omega) W h)
  have HRS := Lib.hid (fun W => rscan_is s L c hR (by omega) W)
  have hcc : (c != c) = false := by simp
  clear hR
  obtain ⟨y0, Y, y2, f, hf4, HP, -⟩ := both s a (by omega)
  have HF4 := Lib.hid hf4
  have HPa := Lib.hid HP
  clear hf4 HP
  obtain rfl : f = 4 := HF4.out hout
  clear hout
  clear HF4
  subst ek
  have ha1 : (s.size : Int) < (k : Int) := by omega
  have ha0 : ¬ (k : Int) < 0 := by omega
  have ha2 : (0 : Int) ≤ (k : Int) := by omega
  have ha3 : decide ((k : Int) < (s.size : Int)) = false := decide_eq_false (by omega)
  obtain ⟨K, hK, eK⟩ : ∃ K : Nat, K < s.size ∧ (IntKind.u64.wrap (k : Int)).tmod (s.size : Int) = (K : Int) := by
    have h0 := IntKind.wrap_u64 (k : Int)
    have h4 := Int.tmod_nonneg (a := IntKind.u64.wrap (k : Int)) (s.size : Int) (by omega)
    have h5 := Int.tmod_lt_of_pos (IntKind.u64.wrap (k : Int)) (b := (s.size : Int)) (by omega)
    have h6 := Int.toNat_of_nonneg h4
    exact ⟨((IntKind.u64.wrap (k : Int)).tmod (s.size : Int)).toNat, by omega, h6.symm⟩
  have eu : IntKind.u64.wrap (s.size : Int) = (s.size : Int) := by rw [IntKind.wrap_u64]; omega
  obtain ⟨x0, X, x2, d, -, hO1, hO2⟩ := both s (K : Nat) (by omega)
  have HO1 := Lib.hid hO1
  have HO2 := Lib.hid hO2
  clear hO1 hO2
  have HBL1 := Lib.hid (fun W h => blank_any6 s K (by omega) (by omega) W h)
  have HBL2 := Lib.hid (fun W => rblank_any s K (by omega) (by omega) W)
  obtain ⟨E, hE⟩ : ∃ E, E = fw bl s K := ⟨_, rfl⟩
  rw [← hE] at HBL1 HBL2
  have hEE : ((E : Int) != (E : Int)) = false := by simp
  clear hE
  have hz : (0 : Int) < (s.size : Int) := by omega
  have hdd : (d != d) = false := by simp
  go_enter Tryd.func3, Tryd.ntmps3
  go_wp2_with fail
  refine (HSC.out _ HT.out).mono ?_
  rintro e w1 ⟨v1, rfl, ha1, hb1⟩
  have A1 := Lib.hid ha1
  have B1 := Lib.hid hb1
  clear ha1 hb1
  go_wp2_with fail
  refine (HRS.out _).mono ?_
  rintro e w2 ⟨v2, rfl, ha2, hb2⟩
  have A1b := Lib.hid (A1.out.below hb2)
  have A2 := Lib.hid ha2
  have B2 : Hid (Below w.heap.size w w2) := Lib.hid (B1.out.trans (hb2.mono B1.out.size))
  clear ha2 hb2 A1 B1
  go_wp2_with fail
  refine (tokens_same s L v1 v2 HLl.out _ A1b.out A2.out).mono ?_
  rintro e w3 ⟨rfl, q0, rfl⟩
  have B3 : Hid (Below w.heap.size w (w2.drewN q0)) := Lib.hid (B2.out.trans ((drew_below _ _).mono B2.out.size))
  go_wp2_with fail
  refine (HO1.out _ (HT.out.below B3.out)).mono ?_
  rintro e w4 ⟨rfl, hb4⟩
  have B4 : Hid (Below w.heap.size w w4) := Lib.hid (B3.out.trans (hb4.mono B3.out.size))
  clear hb4
  go_wp2_with fail
  refine (HO2.out _).mono ?_
  rintro e w5 ⟨rfl, hb5⟩
  have Q5 := Lib.hid (row_of (hb5.mono (by simp)))
  have B5 : Hid (Below w.heap.size w w5) := Lib.hid (B4.out.trans (((below1 w4 _).trans (hb5.mono (by simp))).mono B4.out.size))
  have hlt5 : Hid (w4.heap.size < w5.heap.size) := Lib.hid (Array.getElem?_eq_some_iff.1 Q5.out).1
  clear hb5
  have q0 := cell_of_row w5 _ 0 _ _ _ Q5.out
  have q1 := cell_of_row w5 _ 1 _ _ _ Q5.out
  have q2 := cell_of_row w5 _ 2 _ _ _ Q5.out
  simp only [List.getElem?_toArray, List.getElem?_cons_zero, List.getElem?_cons_succ] at q0 q1 q2
  have hlt5' := hlt5.out
  go_wp2_with fail
  have B5b : Hid (Below w.heap.size w (w5.alloc (.cells #[.int .i64 x0, .string X, .int .i64 x2] 29))) := Lib.hid (B5.out.alloc B5.out.size _)
  refine (HBL1.out _ (HT.out.below B5b.out)).mono ?_
  rintro e w6 ⟨rfl, hb6⟩
  have B6 : Hid (Below w.heap.size w w6) := Lib.hid (B5b.out.trans (hb6.mono B5b.out.size))
  clear hb6 q0 q1 q2
  go_wp2_with fail
  refine (HBL2.out _).mono ?_
  rintro e w7 ⟨rfl, rfl⟩
  go_wp2_with fail
  refine (HPa.out _ (HT.out.below B6.out)).mono ?_
  rintro e w8 ⟨rfl, hb8⟩
  have B8 : Hid (Below w.heap.size w w8) := Lib.hid (B6.out.trans (hb8.mono B6.out.size))
  have B8b : Hid (Below w.heap.size w (w8.alloc (.cells #[.int .i64 y0, .string Y, .int .i64 y2] 29))) := Lib.hid (B8.out.alloc B8.out.size _)
  clear hb8
  go_wp2_with fail
  refine (told6_any _ (HT.out.below B8b.out)).mono ?_
  rintro e w9 ⟨rfl, hb9⟩
  have B9 : Hid (Below w.heap.size w w9) := Lib.hid (B8b.out.trans (hb9.mono B8b.out.size))
  clear hb9
  go_wp2_with fail
  go_ret
  exact ⟨rfl, B9.out⟩
set_option maxRecDepth 100000 in
theorem walk (s : ByteArray) (hs : s.size ≤ maxLen) (a : Int) (w : World) (ht : STabs w) :
    Calls Tryd.prog 3 #[.string s, .int .i64 a] w fun e w' => e = .returned (.bool true) ∧ Below w.heap.size w w' := by
  unfold maxLen at hs
  by_cases h1 : (1500 : Int) < (s.size : Int)
  · go_enter Tryd.func3, Tryd.ntmps3
    go_wp2_with fail
    refine (told6_any _ ht).mono ?_
    rintro e w1 ⟨rfl, hb1⟩
    have HB := Lib.hid hb1
    clear hb1
    go_wp2_with fail
    go_ret
    exact ⟨rfl, HB.out⟩
  have hs1 : s.size ≤ 1500 := by omega
  by_cases hz0 : s.size = 0
  · by_cases ha : a < 0
    · exact walk_a s a hz0 ha (by omega) w ht
    · exact walk_b s a hz0 (by omega) (by omega) w ht
  by_cases ha : a < 0
  · exact walk_c s a hs1 (by omega) ha (by omega) w ht
  obtain ⟨k, ek⟩ : ∃ k : Nat, a = (k : Int) := ⟨a.toNat, by omega⟩
  by_cases hk : k < s.size
  · exact walk_d s a hs1 k ek hk w ht
  by_cases hk2 : k = s.size
  · exact walk_e s a hs1 k ek (by omega) hk2 (by omega) w ht
  · exact walk_f s a hs1 k ek (by omega) (by omega) (by omega) w ht
set_option maxRecDepth 100000 in
theorem lifted (os : Os) (started : os.Started) (H : Type) (enc : TypeId × Value → H) :
    ReturnsInHanded {} Tryd.checked os 3 .any (fun w args => (Rows.scanAsksSpec.pre enc Tryd.prog Tryd.f3 [] false w args ∧ laidMetH Tryd.prog scanLaid w) ∧ sizedMet enc Tryd.prog Tryd.f3 (OpenSpec.ofChange Rows.scanAsksSpec) false w args)
      (Rows.scanAsksSpec.post enc Tryd.prog Tryd.f3 false true false false) := by
  refine returnsInHanded_of_change_and (C := Tryd.checked) (X := fun w _ => laidMetH Tryd.prog scanLaid w) (fun _ _ _ hh h => h.of_heap hh) own6 started (by kernel_rfl) Tryd.func3
    (ChangeSpec.witness_shaped (enc := enc) (C := Tryd.checked) (os := os) (X := fun w _ => laidMetH Tryd.prog scanLaid w) false (World.laidAll Tryd.prog os scanLaid) #[.string ByteArray.empty, .int .i64 0] 8 (World.laidAll_os _ _ _) (World.shaped_of_ZipB (by kernel_rfl) (by kernel_rfl)) (by kernel_rfl) (by kernel_rfl) (by kernel_rfl) (laid_met6 os _)) ?_
  intro W base args ds gs before hval0 hW _ _ hL _
  have hval : ∀ (j : Nat) t v, Tryd.f3.params[j]? = some t → args[j]? = some v → Value.okWide Tryd.prog W .any base t v := hval0
  have hW' := hW
  obtain ⟨p, q, hA0, hV, rfl, hfz, hnd⟩ := hW
  have hA : DataW.TrodAll enc Tryd.prog W 0 (fun _ => true) true Tryd.f3.params.toList args.toList ds p := hA0
  rw [Tryd.params3] at hA hval
  obtain ⟨v0, vs0, d0, ds0, p0, q0, hargs, rfl, rfl, h0, r0⟩ := trodAll_cons hA
  obtain ⟨v1, vs1, d1, ds1, p1, q1, rfl, rfl, rfl, h1, r1⟩ := trodAll_cons r0
  obtain ⟨rfl, rfl, rfl⟩ := trodAll_nil r1
  obtain rfl : args = #[v0, v1] := by cases args; simp_all
  obtain ⟨rfl, rfl⟩ := trodVars_none hV
  obtain ⟨a0, rfl, rfl, rfl, w0⟩ := Go.ChangeMaps.open_string Tryd.underlying9 (hval 0 9 v0 rfl rfl) h0
  obtain ⟨a1, rfl, rfl, rfl, w1⟩ := open_int Tryd.underlying3 (hval 1 3 v1 rfl rfl) h1
  clear hA0 hval0
  simp only [List.append_nil] at hW'
  refine (walk a0 w0 a1 W (stabs_of_laid hL)).mono fun e W' ⟨he, bel⟩ => ?_
  subst he
  exact ⟨_, rfl, _, _, _, [], _, [], hW', trodAll_mk1 (shut_bool Tryd.underlying4 _), (trodAll_cons_mk (Go.ChangeMaps.shut_string Tryd.underlying9 w0) (trodAll_cons_mk (shut_int Tryd.underlying3 w1) trodAll_mk0)), rfl, bel.frame _, fun h => by cases h⟩
theorem over : Rows.ScanAsksSaid :=
  OpenClaim.holds_of_wide 3 Tryd.f3 rfl rfl rfl rfl rfl rfl rfl ⟨rfl, rfl, rfl, rfl, rfl⟩ rfl rfl rfl rfl rfl (by kernel_rfl) Tryd.func3 (by kernel_rfl)
    (of_decide_eq_true (by kernel_rfl)) (by unfold Func.isWrapper; first | (rw [if_pos (by decide +kernel)]; kernel_rfl) | (rw [if_neg (by decide +kernel)]; exact ⟨rfl, rfl⟩))
    (fun os started H enc _ => lifted os started H enc)
/-- THE TIED CARD. -/
theorem proved : Rows.ScanAsksCardSaid :=
  Claim7.holds_tied_plain_at .later [] [.data, .data, .data, .data, .data, .data, .pinned] true Rows.scanAsksCard.stood.harness false
    over (fun _ h => by cases h) (by kernel_rfl) (fun _ h => by cases h) scanAsks_row_tie rfl ⟨rfl, rfl⟩ (by kernel_rfl) rfl
    (fun f fn hf hfn => by
      obtain rfl : f = 3 := Option.some.inj ((show Tryd.prog.funcNamed "galley/galleylaw6.ScanAsks" = some 3 by kernel_rfl).symm.trans hf) |>.symm
      obtain rfl : fn = Tryd.f3 := (Option.some.inj (Tryd.func3.symm.trans hfn)).symm
      exact ⟨by kernel_rfl, fun j t ht => by
        rw [Tryd.params3] at ht
        have hm : t ∈ [9, 3] := by
          have := Array.mem_of_getElem? ht
          simpa using this
        have hall : ([9, 3].all fun u => !Tryd.prog.wantsStandIn u) = true := by kernel_rfl
        exact (show Tryd.prog.wantsStandIn t = false by simpa using List.all_eq_true.1 hall t hm)⟩)
    (by kernel_rfl)
#print axioms proved
end Go.Proofs.YtajjhhodpohfpaaDoor.scanAsks
