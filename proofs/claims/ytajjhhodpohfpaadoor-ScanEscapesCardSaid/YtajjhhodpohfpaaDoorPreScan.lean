/-
  THE PROGRAM's One, Scan and Blank: what the statements of layer 6 ask of them.
-/
import Derived.Test.YtajjhhodpohfpaaDoorScanToken
namespace Go.Proofs.YtajjhhodpohfpaaDoor
open Go.RowKit Go.PlainAid

theorem blank_any6 (s : ByteArray) (k : Nat) (hk : k ≤ s.size) (hs : s.size ≤ 1048576) (w : World) (_ : STabs w) :
    Calls Tryd.prog 16 #[.string s, .int .i64 k] w fun e w' => e = .returned (.int .i64 (fw bl s k : Nat)) ∧ Below w.heap.size w w' :=
  (blankp_any s k hk hs w).mono fun _ _ ⟨h, h'⟩ => ⟨h, h' ▸ Below.refl _ _⟩
set_option maxRecDepth 100000 in
set_option maxHeartbeats 1000000 in
theorem one_any6 (s : ByteArray) (k : Nat) (hk : k < s.size) (hs : s.size ≤ 1048576) (w : World) (ht : STabs w) :
    Calls Tryd.prog 14 #[.string s, .int .i64 k] w fun e w' => e = .returned (tokV s k (one s k)) ∧ Below w.heap.size w w' := by
  have hbd6 := fun (k : Int) (t : ByteArray) (a : Int) (W : World) => build_tok6 k t a W
  have hbd0 := fun (W : World) => build_tok0 W
  have hsd := set_drewN
  have HT := Lib.hid ht
  have HTok := Lib.hid (fun W hW => token_any s k hk hs W hW)
  have g0 : ¬ (k : Int) < 0 := by omega
  have g1 : ¬ (s.size : Int) ≤ (k : Int) := by omega
  by_cases h0 : (one s k).1 = 0
  · rw [tokV_no s k h0]
    have H0 := Lib.hid h0
    clear h0 ht
    go_enter Tryd.func14, Tryd.ntmps14
    go_wp2_with fail
    refine (HTok.out _ (HT.out.below (below1 w _))).mono ?_
    rintro e w1 ⟨⟨K, E, rfl, hok⟩, hb1⟩
    obtain rfl := hok.1 H0.out
    have HR := Lib.hid (row_of (hb1.mono (by simp)))
    have HB1 := Lib.hid ((below1 w _).trans (hb1.mono (by simp)))
    clear hb1 hok
    have q0 := cell_of_row w1 _ 0 _ _ _ HR.out
    have q1 := cell_of_row w1 _ 1 _ _ _ HR.out
    have q2 := cell_of_row w1 _ 2 _ _ _ HR.out
    simp only [List.getElem?_toArray, List.getElem?_cons_zero, List.getElem?_cons_succ] at q0 q1 q2
    have f0 := frz_of HR.out 0
    have f1 := frz_of HR.out 1
    have f2 := frz_of HR.out 2
    go_wp2_with fail
    refine bodyPost_ret (v := .tuple #[.agg #[.int .i64 0, .string ⟨#[]⟩, .int .i64 0], .int .i64 4]) (by simp [results, Tryd.results14, go_sem, q0, q1, q2]) rfl ⟨rfl, bel3 HB1.out _ _ _⟩
  · have hbd := one_bd hk h0
    rw [tokV_ok s k h0]
    obtain ⟨K0, hK0⟩ : ∃ K0, K0 = (one s k).1 := ⟨_, rfl⟩
    obtain ⟨E0, hE0⟩ : ∃ E0, E0 = (one s k).2 := ⟨_, rfl⟩
    have H1 : Hid (∀ K E, TokOk s k K E → K = K0 ∧ E = E0) := Lib.hid fun K E h => by
      have := h.2 h0
      rw [hK0, hE0, ← this]; exact ⟨rfl, rfl⟩
    rw [← hE0] at hbd
    rw [← hK0, ← hE0]
    clear h0 ht hK0 hE0
    have g2 : (k : Int) ≤ (E0 : Int) := by omega
    have g3 : (E0 : Int) ≤ (s.size : Int) := by omega
    have g4 : ((E0 : Int) == (k : Int)) = false := beq_false_of_ne (by omega)
    obtain ⟨X, hX⟩ : ∃ X, X = s.extract k E0 := ⟨_, rfl⟩
    have HC : Hid (∀ W, Calls Tryd.prog 21 #[.string (s.extract k E0)] W fun e w' => e = .returned (.string X) ∧ Below W.heap.size W w') := Lib.hid (fun W => by
      rw [hX]; exact clone_any (s.extract k E0) (by rw [size_ext s k E0 hbd.2]; omega) W)
    rw [← hX]
    clear hX
    go_enter Tryd.func14, Tryd.ntmps14
    go_wp2_with fail
    refine (HTok.out _ (HT.out.below (below1 w _))).mono ?_
    rintro e w1 ⟨⟨K, E, rfl, hok⟩, hb1⟩
    obtain ⟨rfl, rfl⟩ := H1.out K E hok
    have HR := Lib.hid (row_of (hb1.mono (by simp)))
    have HB1 := Lib.hid ((below1 w _).trans (hb1.mono (by simp)))
    have hlt1 : w.heap.size < w1.heap.size := by
      have := hb1.size
      have e : (w.alloc (.cells #[.int .i64 0, .string ⟨#[]⟩, .int .i64 0] 29)).heap.size = w.heap.size + 1 := by simp
      omega
    clear hb1 hok
    go_wp2_with fail
    refine (HC.out _).mono ?_
    rintro e w2 ⟨rfl, hb2⟩
    have HR2 : Hid (w2.heap[w.heap.size]? = some (.cells #[.int .i64 0, .string ⟨#[]⟩, .int .i64 0] 29 (0, 0))) := Lib.hid ((hb2.block _ hlt1).trans HR.out)
    have HB2 := Lib.hid (HB1.out.trans (hb2.mono (Nat.le_of_lt hlt1)))
    clear hb2
    have q0 := cell_of_row w2 _ 0 _ _ _ HR2.out
    have q1 := cell_of_row w2 _ 1 _ _ _ HR2.out
    have q2 := cell_of_row w2 _ 2 _ _ _ HR2.out
    simp only [List.getElem?_toArray, List.getElem?_cons_zero, List.getElem?_cons_succ] at q0 q1 q2
    have f0 := frz_of HR2.out 0
    have f1 := frz_of HR2.out 1
    have f2 := frz_of HR2.out 2
    go_wp2_with fail
    refine bodyPost_ret (v := .tuple #[.agg #[.int .i64 K, .string X, .int .i64 k], .int .i64 0]) (by simp [results, Tryd.results14, go_sem, q0, q1, q2]) rfl ⟨rfl, bel3 HB2.out _ _ _⟩
set_option maxRecDepth 100000 in
theorem one_out6 (s : ByteArray) (k : Int) (h : k < 0 ∨ (s.size : Int) ≤ k) (w : World) (_ : STabs w) :
    Calls Tryd.prog 14 #[.string s, .int .i64 k] w fun e w' => e = .returned (.tuple #[.agg #[.int .i64 0, .string ⟨#[]⟩, .int .i64 0], .int .i64 4]) ∧ Below w.heap.size w w' := by
  have hbd0 := fun (W : World) => build_tok0 W
  rcases h with h | h
  · go_enter Tryd.func14, Tryd.ntmps14
    go_wp2_with fail
    refine bodyPost_ret (v := .tuple #[.agg #[.int .i64 0, .string ⟨#[]⟩, .int .i64 0], .int .i64 4]) (by simp [results, Tryd.results14, go_sem]) rfl ⟨rfl, below1 _ _⟩
  · have h0 : ¬ k < 0 := by omega
    go_enter Tryd.func14, Tryd.ntmps14
    go_wp2_with fail
    refine bodyPost_ret (v := .tuple #[.agg #[.int .i64 0, .string ⟨#[]⟩, .int .i64 0], .int .i64 4]) (by simp [results, Tryd.results14, go_sem]) rfl ⟨rfl, below1 _ _⟩
set_option maxRecDepth 100000 in
set_option maxHeartbeats 2000000 in
/-- SCAN: the loop's way. -/
theorem scan_loop6 (s : ByteArray) (hs : s.size ≤ 65536) (hv : vd s 0 = true) (w : World) (ht : STabs w) :
    Calls Tryd.prog 11 #[.string s] w fun e w' => ScanAre w s e w' := by
  have HT := Lib.hid ht
  have HVA := Lib.hid (fun W (hW : Tabs W) => valid_any s W hW (by unfold maxLen; omega))
  rw [hv] at HVA
  have HBL := Lib.hid (fun (k : Nat) (hk : k ≤ s.size) W => blankp_any s k hk (by omega) W)
  have HON := Lib.hid (fun (k : Nat) (hk : k < s.size) W hW => one_any6 s k hk (by omega) W hW)
  have hR : scanR s = match sc s (fw bl s 0) with
    | none => ([], 4)
    | some l => (l, 0) := by unfold scanR; rw [if_neg (by omega), if_neg (by rw [hv]; decide)]; cases sc s (fw bl s 0) <;> rfl
  obtain ⟨R, hRR⟩ : ∃ R, R = sc s (fw bl s 0) := ⟨_, rfl⟩
  rw [← hRR] at hR
  have HR := Lib.hid hR
  have HB0 := HBL.out 0 (Nat.zero_le _)
  have h0le := fw_le bl s 0 (Nat.zero_le _)
  obtain ⟨k0, hk0⟩ : ∃ k0, k0 = fw bl s 0 := ⟨_, rfl⟩
  rw [← hk0] at HB0 h0le hRR
  have HB0 : Hid (∀ W, Calls Tryd.prog 16 #[.string s, .int .i64 0] W fun e w' => e = .returned (.int .i64 k0) ∧ W = w') := Lib.hid HB0
  have HRR := Lib.hid hRR
  obtain ⟨i0, hi, hz0, hz1, hz2⟩ := info_parts infoTok
  have hz2' := Lib.hid hz2
  clear hv hR hRR hk0 hz2
  go_enter Tryd.func11, Tryd.ntmps11
  go_wp2_with fail
  refine (HVA.out _ HT.out.1.1).mono ?_
  rintro e w' ⟨rfl, q0, rfl⟩
  go_wp2_with fail
  refine (HB0.out _).mono ?_
  rintro e w' ⟨rfl, rfl⟩
  go_wp2_with fail
  go_loopg [4, 5] (s.size - k0) (fun gn v i wr => ∃ (k : Nat) (L : List Tk3), gn = s.size - k ∧ k ≤ s.size ∧ i = .int .i64 k ∧ L.length ≤ k ∧ Hid (Sk w s wr v L) ∧ Hid (R = (sc s k).map (L ++ ·)))
  case atStart => exact ⟨k0, [], rfl, h0le, rfl, Nat.zero_le _, Lib.hid ⟨World.ownsRow_nil _ _ _ _, drew_below w _⟩, Lib.hid (by rw [HRR.out]; cases sc s k0 <;> rfl)⟩
  case round =>
    obtain ⟨k, L, hgn, hk, rfl, hLk, HS, HK⟩ := hrel
    by_cases hlt : k < s.size
    · have HO := HON.out k hlt
      by_cases h0 : (one s k).1 = 0
      · rw [tokV_no s k h0] at HO
        have HO := Lib.hid HO
        have HF : Hid (scanR s = ([], 4)) := Lib.hid (by rw [HR.out, HK.out, sc_bad hlt h0]; rfl)
        clear h0
        go_wp2_with fail
        refine (HO.out _ (HT.out.below HS.out.2)).mono ?_
        rintro e w1 ⟨rfl, hb1⟩
        have HS1 := Lib.hid (HS.out.below hb1)
        clear hb1
        go_wp2_with fail
        go_ret2
        exact ScanAre.no HF.out (HS1.out.2.alloc HS1.out.2.size _)
      · have hbd := one_bd hlt h0
        rw [tokV_ok s k h0] at HO
        have HK2 := HK.out
        rw [sc_go hlt h0] at HK2
        obtain ⟨kd, hkd⟩ : ∃ kd, kd = (one s k).1 := ⟨_, rfl⟩
        obtain ⟨N, hN⟩ : ∃ N, (one s k).2 = k + N := ⟨(one s k).2 - k, by omega⟩
        rw [hN] at HK2 HO hbd
        rw [← hkd] at HK2 HO
        have HBe := HBL.out (k + N) (by omega)
        have hEle := fw_le bl s (k + N) (by omega)
        have hEge := fw_ge bl s (k + N)
        obtain ⟨E, hE⟩ : ∃ E, E = fw bl s (k + N) := ⟨_, rfl⟩
        rw [← hE] at HBe HK2 hEle hEge
        rw [show ((k + N : Nat) : Int) = (k : Int) + (N : Int) by omega] at HBe
        have HBe := Lib.hid HBe
        have HX := Lib.hid (show (s.extract k (k + N)).size = N by rw [size_ext s k (k + N) (by omega)]; omega)
        have HK3 : Hid (R = (sc s E).map ((L ++ [(kd, k, k + N)]) ++ ·)) := Lib.hid (by rw [HK2]; cases sc s E <;> simp)
        have HTC : Hid (tkc s (kd, k, k + N) = [.int .i64 kd, .string (s.extract k (k + N)), .int .i64 k]) := Lib.hid rfl
        obtain ⟨X, hX⟩ : ∃ X, X = s.extract k (k + N) := ⟨_, rfl⟩
        rw [← hX] at HO HTC HX
        have xs := HX.out
        have HO := Lib.hid HO
        have hL1 : L.length + 1 ≤ k + N := by omega
        clear hX hE hN hkd h0 HK2 HX
        go_wp2_with fail
        refine (HO.out _ (HT.out.below HS.out.2)).mono ?_
        rintro e w1 ⟨rfl, hb1⟩
        have HS1 := Lib.hid (HS.out.below hb1)
        clear hb1
        have HS2 := Lib.hid (HS1.out.below (below1 w1 (.cells #[.int .i64 kd, .string X, .int .i64 k] 29)))
        have HOW := HS2.out.1
        have hne : Hid (some w1.heap.size ≠ u4.ownBlock) := Lib.hid (fun h => by
          have := (HS1.out.1.lt w1.heap.size h.symm).2
          omega)
        have hrow : Hid ((w1.alloc (.cells #[.int .i64 kd, .string X, .int .i64 k] 29)).heap[w1.heap.size]? = some (.cells #[.int .i64 kd, .string X, .int .i64 k] 29 (0, 0))) := Lib.hid (by
          show (w1.heap.push _)[w1.heap.size]? = _
          rw [Array.getElem?_push, if_pos rfl])
        have HNW : Hid (∀ j u, [Value.int .i64 kd, .string X, .int .i64 k][j]? = some u → ((w1.alloc (.cells #[.int .i64 kd, .string X, .int .i64 k] 29)).alloc (.cells #[.int .i64 kd, .string X, .int .i64 k] 29)).cell? ((⟨w1.heap.size + 1, 0, none⟩ : Addr).add j) = some u) := Lib.hid (by
          have := cells_three_new (w1.alloc (.cells #[.int .i64 kd, .string X, .int .i64 k] 29)) (.int .i64 kd) (.string X) (.int .i64 k) 29
          rw [show (w1.alloc (.cells #[.int .i64 kd, .string X, .int .i64 k] 29)).heap.size = w1.heap.size + 1 by simp] at this
          exact this)
        have zle : w.heap.size ≤ w1.heap.size := HS1.out.2.size
        go_wp2_with (at_builtin; go_must (refine wpList_append_own _ rfl _ _ 23 rfl w.heap.size 29 i0 (.agg #[.int .i64 0, .string ⟨#[]⟩, .int .i64 0]) 3 32 Tryd.underlying23 hi hz0 hz1 hz2'.out rfl (by decide) _ _ _ rfl (HOW.alloc _) ⟨w1.heap.size + 1, 0, none⟩ 1 1 [.int .i64 kd, .string X, .int .i64 k] rfl rfl HNW.out (by intro u hu; simp at hu; rcases hu with rfl | rfl | rfl <;> rfl) (by unfold maxLen; omega) (by omega) (by simp; omega) ?_); intro v' w3 hown hgrow _; have q1 : w3.cell? ⟨w1.heap.size, 1, none⟩ = some (.string X) := cell_of_row w3 _ 1 _ _ _ (keep_tok hne.out hrow.out _ hgrow); have HS3 := Lib.hid (HS2.out.put (x := (kd, k, k + N)) _ (by rw [HTC.out]; exact hown) hgrow); clear hown hgrow)
        refine (HBe.out _).mono ?_
        rintro e w4 ⟨rfl, rfl⟩
        go_wp2_with fail
        go_roundg (s.size - E)
        case measure => omega
        case rel => exact ⟨E, L ++ [(kd, k, k + N)], rfl, hEle, rfl, by rw [List.length_append]; simp; omega, HS3, HK3⟩
    · obtain rfl : k = s.size := by omega
      have HF : Hid (scanR s = (L, 0)) := Lib.hid (by rw [HR.out, HK.out, sc_end (by omega)]; simp)
      go_wp2_with fail
      go_ret2
      exact ScanAre.ok HF.out HS.out
set_option maxRecDepth 100000 in
/-- SCAN. -/
theorem scan_any6 (s : ByteArray) (hs : s.size ≤ 1048576) (w : World) (ht : STabs w) :
    Calls Tryd.prog 11 #[.string s] w fun e w' => ScanAre w s e w' := by
  by_cases h1 : 65536 < s.size
  · have HF : Hid (scanR s = ([], 3)) := Lib.hid (by unfold scanR; rw [if_pos h1])
    have g1 : (65536 : Int) < (s.size : Int) := by omega
    go_enter Tryd.func11, Tryd.ntmps11
    go_wp2_with fail
    go_ret2
    exact ScanAre.no HF.out (Below.refl _ _)
  · cases hv : vd s 0
    · have HF : Hid (scanR s = ([], 2)) := Lib.hid (by unfold scanR; rw [if_neg h1, if_pos hv])
      have HT := Lib.hid ht
      have HVA := Lib.hid (fun W (hW : Tabs W) => valid_any s W hW (by unfold maxLen; omega))
      rw [hv] at HVA
      have g1 : ¬ (65536 : Int) < (s.size : Int) := by omega
      clear hv
      go_enter Tryd.func11, Tryd.ntmps11
      go_wp2_with fail
      refine (HVA.out _ HT.out.1.1).mono ?_
      rintro e w' ⟨rfl, q0, rfl⟩
      go_wp2_with fail
      go_ret2
      exact ScanAre.no HF.out (drew_below w _)
    · exact scan_loop6 s (by omega) hv w ht
end Go.Proofs.YtajjhhodpohfpaaDoor
