/-
  THE DOCUMENT's Newlines and Deep.
-/
import Derived.Test.YtaaijenbcfjdlaaGapBroken
import Derived.Test.YtaaijenbcfjdlaaRefSigns
import Derived.Deep.CutRange
namespace Go.Proofs.Ytaaijenbcfjdlaa
open Go.RowKit Go.PlainAid

set_option maxRecDepth 100000 in
set_option maxHeartbeats 4000000 in
theorem rnewlines_any {s : ByteArray} {L : List Tk3} {j0 : Nat} (hsc : sc s j0 = some L) (hs : s.size ≤ 1048576) (hl : L.length ≤ 1048576) (v : Value) (k : Int) (w : World) (ht : TRow w v (toks s L)) :
    Calls Try.prog 18 #[.string s, v, .int .i64 k] w fun e w' => e = .returned (.int .i64 (nls s L k : Nat)) ∧ Below w.heap.size w w' := by
  have HT := Lib.hid ht
  by_cases h : k < 1 ∨ (L.length : Int) ≤ k
  · rw [nls_out h]
    obtain ⟨a, cap, rfl, -⟩ := ht
    rw [toks_len] at HT ⊢
    rcases h with h | h
    · go_enter Try.func18, Try.ntmps18
      go_wp2_with fail
      go_ret
      exact ⟨rfl, Below.refl _ _⟩
    · by_cases h1 : k < 1
      · go_enter Try.func18, Try.ntmps18
        go_wp2_with fail
        go_ret
        exact ⟨rfl, Below.refl _ _⟩
      · go_enter Try.func18, Try.ntmps18
        go_wp2_with fail
        go_ret
        exact ⟨rfl, Below.refl _ _⟩
  · obtain ⟨i, rfl⟩ : ∃ i : Nat, k = (i : Int) + 1 := ⟨(k - 1).toNat, by omega⟩
    obtain ⟨x, hx⟩ : ∃ x, L[i]? = some x := ⟨_, List.getElem?_eq_getElem (by omega)⟩
    obtain ⟨y, hy⟩ : ∃ y, L[i + 1]? = some y := ⟨_, List.getElem?_eq_getElem (by omega)⟩
    obtain ⟨p1, p2, p3, p4⟩ := sc_pair L j0 hsc i x y hx hy
    rw [nls_in hx hy]
    have hi : i + 1 < L.length := (List.getElem?_eq_some_iff.1 hy).1
    obtain ⟨a, cap, rfl, hr⟩ := ht
    obtain ⟨g, o, rfl, hg, hc⟩ := hr (by rw [toks_len]; omega)
    rw [toks_len] at HT ⊢
    obtain ⟨c1, c2, c3⟩ := hc i _ (toks_at hx)
    obtain ⟨d1, d2, d3⟩ := hc (i + 1) _ (toks_at hy)
    obtain ⟨K1, a1, e1⟩ := x
    obtain ⟨K2, a2, e2⟩ := y
    simp only [tok3] at c1 c2 c3 d1 d2 d3 p1 p2 p3 p4 ⊢
    have HE := Lib.hid (fun W => rend_any7 K1 a1 (s.extract a1 e1) e1 (by rw [size_ext s a1 e1 (by omega)]; omega) (by omega) W)
    obtain ⟨P1, hP1⟩ : ∃ P1, P1 = s.extract a1 e1 := ⟨_, rfl⟩
    rw [← hP1] at HE c2
    obtain ⟨d, hd⟩ : ∃ d, a2 = e1 + d := ⟨a2 - e1, by omega⟩
    subst hd
    rw [Nat.add_sub_cancel_left]
    obtain ⟨R, hR⟩ : ∃ R, R = nlr s e1 d := ⟨_, rfl⟩
    rw [← hR]
    have HR := Lib.hid hR
    have gb := Lib.hid (get_bt s)
    obtain ⟨N, hN⟩ : ∃ N, N = L.length := ⟨_, rfl⟩
    rw [← hN] at hi hl HT ⊢
    have g0 : ¬ (i : Int) + 1 < 1 := by omega
    have g1 : (i : Int) + 1 < (N : Int) := by omega
    have g2 : (i : Int) < (N : Int) := by omega
    have D3 : Hid (∀ W, Below w.heap.size w W → W.cell? ⟨g, o + (i + 1) * 3 + 2, none⟩ = some (.int .i64 ((e1 : Int) + (d : Int)))) := Lib.hid fun W hb => by
      rw [hb.cell (p := ⟨g, o + (i + 1) * 3 + 2, none⟩) hg, d3]; rfl
    clear hc hr hx hy hP1 hN hR HT d1 d2 d3
    go_enter Try.func18, Try.ntmps18
    go_wp2_with fail
    refine (HE.out _).mono ?_
    rintro e w1 ⟨rfl, hb1⟩
    have B1 := Lib.hid hb1
    clear hb1
    go_wp2_with fail
    go_loopg [7, 8] d (fun gn n q wr => ∃ (j : Nat), gn = d - j ∧ j ≤ d ∧ q = .int .i64 ((e1 : Int) + (j : Int)) ∧ n = .int .i64 (nlr s e1 j : Nat) ∧ Hid (∃ m, wr = w1.drewN m))
    case atStart => exact ⟨0, rfl, Nat.zero_le _, by go_num, rfl, Lib.hid ⟨0, rfl⟩⟩
    case round =>
      obtain ⟨j, hgn, hj, rfl, rfl, HW⟩ := hrel
      obtain ⟨m, rfl⟩ := HW.out
      have B2 : Hid (Below w.heap.size w (w1.drewN m)) := Lib.hid (B1.out.trans ((drew_below _ _).mono B1.out.size))
      have q3 := D3.out _ B2.out
      have hn := nlr_le s e1 j
      by_cases hlt : j < d
      · have hbj := gb.out (e1 + j) (by omega)
        have z1 : (e1 : Int) + (j : Int) < (e1 : Int) + (d : Int) := by omega
        have z2 : (e1 : Int) + (j : Int) < (s.size : Int) := by omega
        have hnn : nlr s e1 (j + 1) = nlr s e1 j + if bt s (e1 + j) = 10 then 1 else 0 := rfl
        obtain ⟨n, hn2⟩ : ∃ n, n = nlr s e1 j := ⟨_, rfl⟩
        rw [← hn2] at hnn hn ⊢
        obtain ⟨b, hb⟩ : ∃ b, b = bt s (e1 + j) := ⟨_, rfl⟩
        rw [← hb] at hbj hnn
        have HNN := Lib.hid hnn
        clear hb hnn hn2
        by_cases h10 : b = 10
        · have hq : (b == 10) = true := by simpa using h10
          have HN2 : Hid (nlr s e1 (j + 1) = n + 1) := Lib.hid (by rw [HNN.out, if_pos h10])
          clear h10 HNN
          go_wp2_with fail
          go_roundg (d - (j + 1))
          case measure => omega
          case rel => exact ⟨j + 1, rfl, hlt, by go_num, by rw [HN2.out]; go_num, Lib.hid ⟨_, rfl⟩⟩
        · have hq : (b == 10) = false := by simpa using h10
          have HN2 : Hid (nlr s e1 (j + 1) = n) := Lib.hid (by rw [HNN.out, if_neg h10]; rfl)
          clear h10 HNN
          go_wp2_with fail
          go_roundg (d - (j + 1))
          case measure => omega
          case rel => exact ⟨j + 1, rfl, hlt, by go_num, by rw [HN2.out], Lib.hid ⟨_, rfl⟩⟩
      · obtain rfl : j = d := by omega
        have z1 : ¬ (e1 : Int) + (j : Int) < (e1 : Int) + (j : Int) := by omega
        have HF : Hid (nlr s e1 j = R) := Lib.hid HR.out.symm
        go_wp2_with fail
        go_ret
        exact ⟨retN HF.out, B2.out⟩
theorem nh_ops (x : Tok) (t : List Tok) : nh x t = if (ops x.1 x.2.1 || (x.1 == 8 && isFun x.2.1 && par t)) = true then 1 else if cls x.1 x.2.1 = true then -1 else 0 := by
  obtain ⟨K, s, p⟩ := x
  unfold nh ops cls
  simp only [ByteArray.toList_eq]
  by_cases h9 : K = 9
  · subst h9
    simp
  · by_cases h8 : K = 8
    · subst h8
      cases h1 : opw s.data.toList
      · cases h2 : isFun s
        · simp
        · have e : s.data.toList = [102, 117, 110] := by
            unfold isFun at h2
            rw [ByteArray.toList_eq] at h2
            simpa using h2
          have h3 : clw s.data.toList = false := by rw [e]; rfl
          rw [h3]
          simp
      · simp
    · have g9 : (K == 9) = false := beq_false_of_ne h9
      have g8 : (K == 8) = false := beq_false_of_ne h8
      simp [h9, h8, g8]
def opn (x : Tok) (t : List Tok) : Bool := ops x.1 x.2.1 || (x.1 == 8 && isFun x.2.1 && par t)
theorem ret_vb {a b : Bool} (h : a = b) : Value.bool a = Value.bool b := by rw [h]
end Go.Proofs.Ytaaijenbcfjdlaa
