/-
  The document's own Scan.
-/
import Derived.Test.YtaaijenbcfjdlaaRefOnes
import Derived.Test.YtaaijenbcfjdlaaScanPure
import Derived.OwnWalk
import Derived.WalkSpells
import Derived.Test.YtaaijenbcfjdlaaScanRow
/- The document's own Scan. -/
namespace Go.Proofs.Ytaaijenbcfjdlaa
open Go.RowKit Go.PlainAid

set_option maxRecDepth 100000 in
set_option maxHeartbeats 2000000 in
/-- SCAN: the loop's way. -/
theorem rscan_loop (s : ByteArray) (hs : s.size ≤ 65536) (hv : vd s 0 = true) (w : World) :
    Calls Try.prog 8 #[.string s] w fun e w' => ScanAre w s e w' := by
  have HVA := Lib.hid (fun W => rvalid_any s W (by unfold maxLen; omega))
  rw [hv] at HVA
  have HBL := Lib.hid (fun (k : Nat) (hk : k ≤ s.size) W => rblank_any s k hk (by omega) W)
  have HON := Lib.hid (fun (k : Nat) (hk : k < s.size) W => rone_in s k hk (by omega) W)
  have hR : scanR s = match sc s (fw bl s 0) with
    | none => ([], 4)
    | some l => (l, 0) := by unfold scanR; rw [if_neg (by omega), if_neg (by rw [hv]; decide)]; cases sc s (fw bl s 0) <;> rfl
  obtain ⟨R, hRR⟩ : ∃ R, R = sc s (fw bl s 0) := ⟨_, rfl⟩
  rw [← hRR] at hR
  have HR := Lib.hid hR
  have HB0 := HBL.out 0 (Nat.zero_le _)
  have h0le := fw_le bl s 0 (Nat.zero_le _)
  obtain ⟨k0, hk0⟩ : ∃ k0, k0 = fw bl s 0 := ⟨_, rfl⟩
  rw [← hk0] at HB0 h0le hRR
  have HB0 : Hid (∀ W, Calls Try.prog 15 #[.string s, .int .i64 0] W fun e w' => e = .returned (.int .i64 k0) ∧ W = w') := Lib.hid HB0
  have HRR := Lib.hid hRR
  obtain ⟨i0, hi, hz0, hz1, hz2⟩ := info_parts infoTok
  have hz2' := Lib.hid hz2
  clear hv hR hRR hk0 hz2
  go_enter Try.func8, Try.ntmps8
  go_wp2_with fail
  refine (HVA.out _).mono ?_
  rintro e w' ⟨rfl, q0, rfl⟩
  go_wp2_with fail
  refine (HB0.out _).mono ?_
  rintro e w' ⟨rfl, rfl⟩
  go_wp2_with fail
  go_loopg [4, 5] (s.size - k0) (fun gn v i wr => ∃ (k : Nat) (L : List Tk3), gn = s.size - k ∧ k ≤ s.size ∧ i = .int .i64 k ∧ L.length ≤ k ∧ Hid (Sk w s wr v L) ∧ Hid (R = (sc s k).map (L ++ ·)))
  case atStart => exact ⟨k0, [], rfl, h0le, rfl, Nat.zero_le _, Lib.hid ⟨World.ownsRow_nil _ _ _ _, drew_below w _⟩, Lib.hid (by rw [HRR.out]; cases sc s k0 <;> rfl)⟩
  case round =>
    obtain ⟨k, L, hgn, hk, rfl, hLk, HS, HK⟩ := hrel
    by_cases hlt : k < s.size
    · have HO := HON.out k hlt
      by_cases h0 : (one s k).1 = 0
      · rw [tokV_no s k h0] at HO
        have HO := Lib.hid HO
        have HF : Hid (scanR s = ([], 4)) := Lib.hid (by rw [HR.out, HK.out, sc_bad hlt h0]; rfl)
        clear h0
        go_wp2_with fail
        refine (HO.out _).mono ?_
        rintro e w1 ⟨rfl, hb1⟩
        have HS1 := Lib.hid (HS.out.below hb1)
        clear hb1
        go_wp2_with fail
        go_ret2
        exact ScanAre.no HF.out (HS1.out.2.alloc HS1.out.2.size _)
      · have hbd := one_bd hlt h0
        rw [tokV_ok s k h0] at HO
        have HK2 := HK.out
        rw [sc_go hlt h0] at HK2
        obtain ⟨kd, hkd⟩ : ∃ kd, kd = (one s k).1 := ⟨_, rfl⟩
        obtain ⟨N, hN⟩ : ∃ N, (one s k).2 = k + N := ⟨(one s k).2 - k, by omega⟩
        rw [hN] at HK2 HO hbd
        rw [← hkd] at HK2 HO
        have HBe := HBL.out (k + N) (by omega)
        have hEle := fw_le bl s (k + N) (by omega)
        have hEge := fw_ge bl s (k + N)
        obtain ⟨E, hE⟩ : ∃ E, E = fw bl s (k + N) := ⟨_, rfl⟩
        rw [← hE] at HBe HK2 hEle hEge
        rw [show ((k + N : Nat) : Int) = (k : Int) + (N : Int) by omega] at HBe
        have HBe := Lib.hid HBe
        have HX := Lib.hid (show (s.extract k (k + N)).size = N by rw [size_ext s k (k + N) (by omega)]; omega)
        have HK3 : Hid (R = (sc s E).map ((L ++ [(kd, k, k + N)]) ++ ·)) := Lib.hid (by rw [HK2]; cases sc s E <;> simp)
        have HTC : Hid (tkc s (kd, k, k + N) = [.int .i64 kd, .string (s.extract k (k + N)), .int .i64 k]) := Lib.hid rfl
        obtain ⟨X, hX⟩ : ∃ X, X = s.extract k (k + N) := ⟨_, rfl⟩
        rw [← hX] at HO HTC HX
        have xs := HX.out
        have HO := Lib.hid HO
        have hL1 : L.length + 1 ≤ k + N := by omega
        clear hX hE hN hkd h0 HK2 HX
        go_wp2_with fail
        refine (HO.out _).mono ?_
        rintro e w1 ⟨rfl, hb1⟩
        have HS1 := Lib.hid (HS.out.below hb1)
        clear hb1
        have HS2 := Lib.hid (HS1.out.below (below1 w1 (.cells #[.int .i64 kd, .string X, .int .i64 k] 34)))
        have HOW := HS2.out.1
        have hne : Hid (some w1.heap.size ≠ u4.ownBlock) := Lib.hid (fun h => by
          have := (HS1.out.1.lt w1.heap.size h.symm).2
          omega)
        have hrow : Hid ((w1.alloc (.cells #[.int .i64 kd, .string X, .int .i64 k] 34)).heap[w1.heap.size]? = some (.cells #[.int .i64 kd, .string X, .int .i64 k] 34 (0, 0))) := Lib.hid (by
          show (w1.heap.push _)[w1.heap.size]? = _
          rw [Array.getElem?_push, if_pos rfl])
        have HNW : Hid (∀ j u, [Value.int .i64 kd, .string X, .int .i64 k][j]? = some u → ((w1.alloc (.cells #[.int .i64 kd, .string X, .int .i64 k] 34)).alloc (.cells #[.int .i64 kd, .string X, .int .i64 k] 34)).cell? ((⟨w1.heap.size + 1, 0, none⟩ : Addr).add j) = some u) := Lib.hid (by
          have := cells_three_new (w1.alloc (.cells #[.int .i64 kd, .string X, .int .i64 k] 34)) (.int .i64 kd) (.string X) (.int .i64 k) 34
          rw [show (w1.alloc (.cells #[.int .i64 kd, .string X, .int .i64 k] 34)).heap.size = w1.heap.size + 1 by simp] at this
          exact this)
        have zle : w.heap.size ≤ w1.heap.size := HS1.out.2.size
        go_wp2_with (at_builtin; go_must (refine wpList_append_own _ rfl _ _ 25 rfl w.heap.size 34 i0 (.agg #[.int .i64 0, .string ⟨#[]⟩, .int .i64 0]) 3 32 Try.underlying25 hi hz0 hz1 hz2'.out rfl (by decide) _ _ _ rfl (HOW.alloc _) ⟨w1.heap.size + 1, 0, none⟩ 1 1 [.int .i64 kd, .string X, .int .i64 k] rfl rfl HNW.out (by intro u hu; simp at hu; rcases hu with rfl | rfl | rfl <;> rfl) (by unfold maxLen; omega) (by omega) (by simp; omega) ?_); intro v' w3 hown hgrow _; have q1 : w3.cell? ⟨w1.heap.size, 1, none⟩ = some (.string X) := cell_of_row w3 _ 1 _ _ _ (keep_tok hne.out hrow.out _ hgrow); have HS3 := Lib.hid (HS2.out.put (x := (kd, k, k + N)) _ (by rw [HTC.out]; exact hown) hgrow); clear hown hgrow)
        refine (HBe.out _).mono ?_
        rintro e w4 ⟨rfl, rfl⟩
        go_wp2_with fail
        go_roundg (s.size - E)
        case measure => omega
        case rel => exact ⟨E, L ++ [(kd, k, k + N)], rfl, hEle, rfl, by rw [List.length_append]; simp; omega, HS3, HK3⟩
    · obtain rfl : k = s.size := by omega
      have HF : Hid (scanR s = (L, 0)) := Lib.hid (by rw [HR.out, HK.out, sc_end (by omega)]; simp)
      go_wp2_with fail
      go_ret2
      exact ScanAre.ok HF.out HS.out
set_option maxRecDepth 100000 in
/-- SCAN. -/
theorem rscan_any (s : ByteArray) (hs : s.size ≤ 1048576) (w : World) :
    Calls Try.prog 8 #[.string s] w fun e w' => ScanAre w s e w' := by
  by_cases h1 : 65536 < s.size
  · have HF : Hid (scanR s = ([], 3)) := Lib.hid (by unfold scanR; rw [if_pos h1])
    have g1 : (65536 : Int) < (s.size : Int) := by omega
    go_enter Try.func8, Try.ntmps8
    go_wp2_with fail
    go_ret2
    exact ScanAre.no HF.out (Below.refl _ _)
  · cases hv : vd s 0
    · have HF : Hid (scanR s = ([], 2)) := Lib.hid (by unfold scanR; rw [if_neg h1, if_pos hv])
      have HVA := Lib.hid (fun W => rvalid_any s W (by unfold maxLen; omega))
      rw [hv] at HVA
      have g1 : ¬ (65536 : Int) < (s.size : Int) := by omega
      clear hv
      go_enter Try.func8, Try.ntmps8
      go_wp2_with fail
      refine (HVA.out _).mono ?_
      rintro e w' ⟨rfl, q0, rfl⟩
      go_wp2_with fail
      go_ret2
      exact ScanAre.no HF.out (drew_below w _)
    · exact rscan_loop s (by omega) hv w
end Go.Proofs.Ytaaijenbcfjdlaa
/- What the document's own Scan answers reads as. -/
namespace Go.Proofs.Ytaaijenbcfjdlaa
open Go.RowKit Go.PlainAid

theorem rscan_is (s : ByteArray) (L : List Tk3) (c : Int) (h : scanR s = (L, c)) (hs : s.size ≤ 1048576) (w : World) :
    Calls Try.prog 8 #[.string s] w fun e w' => ∃ v, e = .returned (.tuple #[v, .int .i64 c]) ∧ TkAt w' v s L ∧ Below w.heap.size w w' := by
  refine (rscan_any s hs w).mono ?_
  rintro e w' ⟨v, rfl, ho, hb⟩
  rw [h] at ho
  exact ⟨v, by rw [h], tkAt_of ho, hb⟩
end Go.Proofs.Ytaaijenbcfjdlaa
