/-
  THE PROGRAM's gap: End, nests, Deep.
-/
import Derived.Test.YtlajngjbajabiaaGapDefs
import Derived.Test.YtlajngjbajabiaaSignWalks
import Derived.Deep.LoopGhost
import Derived.Deep.QuietTactic
import Derived.BigQuiet
import Derived.BigRegion
import Derived.Deep.RegionHeld3
namespace Go.Proofs.Ytlajngjbajabiaa
open Go.RowKit Go.PlainAid

set_option maxRecDepth 100000 in
theorem end_any7 (k a : Int) (s : ByteArray) (e : Nat) (he : a + (s.size : Int) = (e : Int)) (hz : e ≤ 1048576) (w : World) :
    Calls Try.prog 12 #[.agg #[.int .i64 k, .string s, .int .i64 a]] w fun x w' => x = .returned (.int .i64 (e : Int)) ∧ Below w.heap.size w w' := by
  go_enter Try.func12, Try.ntmps12
  go_wp2_with fail
  go_ret
  exact ⟨rfl, below1 _ _⟩
set_option maxRecDepth 100000 in
theorem rend_any7 (k a : Int) (s : ByteArray) (e : Nat) (he : a + (s.size : Int) = (e : Int)) (hz : e ≤ 1048576) (w : World) :
    Calls Try.prog 18 #[.agg #[.int .i64 k, .string s, .int .i64 a]] w fun x w' => x = .returned (.int .i64 (e : Int)) ∧ Below w.heap.size w w' := by
  go_enter Try.func18, Try.ntmps18
  go_wp2_with fail
  go_ret
  exact ⟨rfl, below1 _ _⟩
set_option maxRecDepth 100000 in
set_option maxHeartbeats 4000000 in
/-- A TOKEN THAT OPENS, OR CLOSES. -/
theorem nests_any (v : Value) (T : List Tok) (k : Nat) (x : Tok) (hx : T[k]? = some x) (hT : T.length ≤ 1048576) (w : World) (ht : TRow w v T) :
    Calls Try.prog 20 #[v, .int .i64 (k : Int)] w fun e w' => e = .returned (.int .i64 (nh x (T.drop (k + 1)))) ∧ Below w.heap.size w w' := by
  have hk : k < T.length := (List.getElem?_eq_some_iff.1 hx).1
  obtain ⟨a, cap, rfl, hr⟩ := ht
  obtain ⟨g, o, rfl, hg, hc⟩ := hr (by omega)
  obtain ⟨c1, c2, c3⟩ := hc k x hx
  obtain ⟨K, s, p⟩ := x
  simp only at c1 c2 c3
  obtain ⟨N, hN⟩ : ∃ N, N = T.length := ⟨_, rfl⟩
  rw [← hN] at hk hT ⊢
  have kn : (k : Int) < (N : Int) := by omega
  obtain ⟨R, hR⟩ : ∃ R, R = nh (K, s, p) (T.drop (k + 1)) := ⟨_, rfl⟩
  rw [← hR]
  by_cases h9 : K = 9
  · have HF : Hid (R = if opq s.toList then 1 else if clq s.toList then -1 else 0) := Lib.hid (by rw [hR]; unfold nh; rw [if_pos h9])
    subst h9
    clear hc hr hR hx
    go_enter Try.func20, Try.ntmps20
    go_wp2_with fail
    all_goals go_ret
    all_goals exact ⟨retI (by rw [HF.out]; simp_all [opq, clq]), below1 _ _⟩
  · by_cases h8 : K = 8
    · have HF : Hid (R = if opw s.toList then 1 else if clw s.toList then -1 else if isFun s && par (T.drop (k + 1)) then 1 else 0) := Lib.hid (by rw [hR]; unfold nh; rw [if_neg h9, if_pos h8])
      subst h8
      cases hf : (s.toList == [102, 117, 110])
      · have HF2 : Hid (R = if opw s.toList then 1 else if clw s.toList then -1 else 0) := Lib.hid (by rw [HF.out]; unfold isFun; rw [hf]; rfl)
        clear hc hr hR hx HF
        go_enter Try.func20, Try.ntmps20
        go_wp2_with fail
        all_goals go_ret
        all_goals exact ⟨retI (by rw [HF2.out]; simp_all [opw, clw]), below1 _ _⟩
      · have hs : s.toList = [102, 117, 110] := by simpa using hf
        have e1 : (s.toList == [98, 101, 103, 105, 110]) = false := by rw [hs]; rfl
        have e2 : (s.toList == [99, 97, 115, 101]) = false := by rw [hs]; rfl
        have e3 : (s.toList == [105, 102]) = false := by rw [hs]; rfl
        have e4 : (s.toList == [114, 101, 99, 101, 105, 118, 101]) = false := by rw [hs]; rfl
        have e5 : (s.toList == [101, 110, 100]) = false := by rw [hs]; rfl
        have HF2 : Hid (R = if par (T.drop (k + 1)) then 1 else 0) := Lib.hid (by rw [HF.out]; unfold isFun opw clw; rw [e1, e2, e3, e4, e5, hf]; simp)
        clear hs HF
        by_cases hl : k + 1 < N
        · obtain ⟨y, hy⟩ : ∃ y, T[k + 1]? = some y := ⟨_, List.getElem?_eq_getElem (by rw [← hN]; exact hl)⟩
          obtain ⟨d1, d2, d3⟩ := hc (k + 1) y hy
          rw [par_next hy] at HF2
          obtain ⟨K2, s2, p2⟩ := y
          simp only at d1 d2 d3 HF2
          have kl : (k : Int) + 1 < (N : Int) := by omega
          rw [show o + (k + 1) * 3 = o + k * 3 + 3 by omega] at d1 d2
          have d1' : (w.alloc (.cells #[.int .i64 8, .string s, .int .i64 p] 30)).cell? ⟨g, o + (k + 1) * 3, none⟩ = some (.int .i64 K2) := by
            rw [World.cell?_alloc_past _ _ _ hg]; rw [show o + (k + 1) * 3 = o + k * 3 + 3 by omega]; exact d1
          have d2' : (w.alloc (.cells #[.int .i64 8, .string s, .int .i64 p] 30)).cell? ⟨g, o + (k + 1) * 3 + 1, none⟩ = some (.string s2) := by
            rw [World.cell?_alloc_past _ _ _ hg]; rw [show o + (k + 1) * 3 + 1 = o + k * 3 + 3 + 1 by omega]; exact d2
          clear hc hr hR hx hy d3
          cases hK : (K2 == 9)
          · have HF3 : Hid (0 = R) := Lib.hid (by rw [HF2.out, hK]; rfl)
            clear HF2
            go_enter Try.func20, Try.ntmps20
            go_wp2_with fail
            all_goals go_ret
            all_goals exact ⟨retI HF3.out, below1 _ _⟩
          · cases h4 : (s2.toList == [40])
            · have HF3 : Hid (0 = R) := Lib.hid (by rw [HF2.out, hK, h4]; rfl)
              clear HF2
              go_enter Try.func20, Try.ntmps20
              go_wp2_with fail
              all_goals go_ret
              all_goals exact ⟨retI HF3.out, below1 _ _⟩
            · have HF3 : Hid (1 = R) := Lib.hid (by rw [HF2.out, hK, h4]; rfl)
              clear HF2
              go_enter Try.func20, Try.ntmps20
              go_wp2_with fail
              all_goals go_ret
              all_goals exact ⟨retI HF3.out, below1 _ _⟩
        · have HF3 : Hid (0 = R) := Lib.hid (by rw [HF2.out, par_none (by omega)]; rfl)
          have kl : ¬ (k : Int) + 1 < (N : Int) := by omega
          clear hc hr hR hx HF2
          go_enter Try.func20, Try.ntmps20
          go_wp2_with fail
          all_goals go_ret
          all_goals exact ⟨retI HF3.out, below1 _ _⟩
    · have HF : Hid (0 = R) := Lib.hid (by rw [hR]; unfold nh; rw [if_neg h9, if_neg h8])
      have g9 : (K == 9) = false := beq_false_of_ne h9
      have g8 : (K == 8) = false := beq_false_of_ne h8
      clear hc hr hR hx
      go_enter Try.func20, Try.ntmps20
      go_wp2_with fail
      all_goals go_ret
      all_goals exact ⟨retI HF.out, below1 _ _⟩
set_option maxRecDepth 100000 in
set_option maxHeartbeats 4000000 in
/-- HOW DEEP. -/
theorem deep_any (v : Value) (T : List Tok) (hT : T.length ≤ 1048576) (w : World) (ht : TRow w v T) :
    Calls Try.prog 13 #[v] w fun e w' => e = .returned (.int .i64 (dl T 0 0)) ∧ Below w.heap.size w w' := by
  have HN0 := Lib.hid (fun (k : Nat) (x : Tok) (hx : T[k]? = some x) W hW => nests_any v T k x hx hT W hW)
  have HT := Lib.hid ht
  obtain ⟨a, cap, rfl, -⟩ := ht
  obtain ⟨R, hR⟩ : ∃ R, R = dl T 0 0 := ⟨_, rfl⟩
  rw [← hR]
  have HR := Lib.hid hR
  clear hR
  obtain ⟨N, hN⟩ : ∃ N, N = T.length := ⟨_, rfl⟩
  rw [← hN] at hT HN0 HT ⊢
  have HN := Lib.hid hN
  clear hN
  go_enter Try.func13, Try.ntmps13
  go_wp2_with fail
  go_loopg [3, 4, 8] N (fun gn o m i wr => ∃ (k : Nat) (O M : Int), gn = N - k ∧ k ≤ N ∧ i = .int .i64 k ∧ o = .int .i64 O ∧ m = .int .i64 M ∧ 0 ≤ O ∧ O ≤ k ∧ 0 ≤ M ∧ M ≤ k ∧ Hid (R = dl (T.drop k) O M) ∧ Hid (Below w.heap.size w wr))
  case atStart => exact ⟨0, 0, 0, rfl, Nat.zero_le _, rfl, rfl, rfl, Int.le_refl _, Int.le_refl _, Int.le_refl _, Int.le_refl _, Lib.hid (by rw [HR.out]; rfl), Lib.hid (Below.refl _ _)⟩
  case round =>
    obtain ⟨k, O, M, hgn, hk, rfl, rfl, rfl, hO0, hOk, hM0, hMk, HD, HB⟩ := hrel
    by_cases hlt : k < N
    · obtain ⟨x, hx⟩ : ∃ x, T[k]? = some x := ⟨_, List.getElem?_eq_getElem (by rw [← HN.out]; exact hlt)⟩
      have hd := HD.out
      rw [dl_drop hx] at hd
      have hb := nh_bd x (T.drop (k + 1))
      have HC := HN0.out k x hx
      obtain ⟨n, hn⟩ : ∃ n, n = nh x (T.drop (k + 1)) := ⟨_, rfl⟩
      rw [← hn] at hd hb HC
      have HC := Lib.hid HC
      have HD2 := Lib.hid hd
      have kn : (k : Int) < (N : Int) := by omega
      clear hd hn HD hx
      go_wp2_with fail
      refine (HC.out _ (HT.out.below HB.out)).mono ?_
      rintro e w1 ⟨rfl, hb1⟩
      have HB1 : Hid (Below w.heap.size w w1) := Lib.hid (HB.out.trans (hb1.mono HB.out.size))
      clear hb1
      go_wp2_with fail
      · go_roundg (N - (k + 1))
        case measure => omega
        case rel => exact ⟨k + 1, _, _, rfl, hlt, by go_num, rfl, rfl, by omega, by omega, by omega, by omega, Lib.hid (by rw [HD2.out]; congr 1 <;> omega), HB1⟩
      · go_roundg (N - (k + 1))
        case measure => omega
        case rel => exact ⟨k + 1, _, _, rfl, hlt, by go_num, rfl, rfl, by omega, by omega, by omega, by omega, Lib.hid (by rw [HD2.out]; congr 1 <;> omega), HB1⟩
      · go_roundg (N - (k + 1))
        case measure => omega
        case rel => exact ⟨k + 1, _, _, rfl, hlt, by go_num, rfl, rfl, by omega, by omega, by omega, by omega, Lib.hid (by rw [HD2.out]; congr 1 <;> omega), HB1⟩
    · obtain rfl : k = N := by omega
      have HF : Hid (M = R) := Lib.hid (by rw [HD.out, List.drop_eq_nil_of_le (by rw [HN.out]; exact Nat.le_refl _)]; rfl)
      go_wp2_with fail
      go_ret
      exact ⟨retI HF.out, HB.out⟩
end Go.Proofs.Ytlajngjbajabiaa
