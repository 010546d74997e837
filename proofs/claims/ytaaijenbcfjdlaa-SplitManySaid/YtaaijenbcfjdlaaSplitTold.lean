/-
  What the statements of layer 8 ask of one text each time: it holds. Two like rows of items are told as alike.
-/
import Derived.Test.YtaaijenbcfjdlaaPreSplit
import Derived.Test.YtaaijenbcfjdlaaRefScans
namespace Go.Proofs.Ytaaijenbcfjdlaa
open Go.RowKit Go.PlainAid

theorem sp_step {s : ByteArray} {L : List Tk3} {i n : Nat} {x : Tk3} {b : Bool} (h : L[i]? = some x) (hn : itn (L.drop i) = n) (hb : decide (2 ≤ nls s L i) = b) : sp s L i = (i, i + n, x.1 == 11, b) :: sp s L (i + n) := by rw [sp_go h, hn, hb]
theorem sp_stop {s : ByteArray} {L : List Tk3} {i n : Nat} {x : Tk3} {b : Bool} (h : L[i]? = some x) (hn : itn (L.drop i) = n) (hb : decide (2 ≤ nls s L i) = b) (he : L.length ≤ i + n) : sp s L i = [(i, i + n, x.1 == 11, b)] := by rw [sp_step h hn hb, sp_end (by omega)]
def t81 : ByteArray := { data := #[37, 97, 10, 102, 40, 41, 32, 45, 62, 32, 111, 107, 46, 32, 37, 98] }
def l81 : List Tk3 := [(11, 0, 2), (1, 3, 4), (9, 4, 5), (9, 5, 6), (9, 7, 9), (1, 10, 12), (10, 12, 13), (11, 14, 16)]
theorem t81_is : scanR t81 = (l81, 0) := by rw [scan_F]; decide +kernel
theorem t81_sp : sp t81 l81 0 = [(0, 1, true, false), (1, 7, false, false), (7, 8, true, false)] := by
  rw [sp_step (i := 0) (x := (11, 0, 2)) (n := 1) (b := false) (by decide +kernel) (by decide +kernel) (by decide +kernel),
    sp_step (i := 0 + 1) (x := (1, 3, 4)) (n := 6) (b := false) (by decide +kernel) (by decide +kernel) (by decide +kernel),
    sp_stop (i := 0 + 1 + 6) (x := (11, 14, 16)) (n := 1) (b := false) (by decide +kernel) (by decide +kernel) (by decide +kernel) (by decide)]
  rfl
theorem t81_b1 : bytI t81 l81 1 7 = { data := #[102, 40, 41, 32, 45, 62, 32, 111, 107, 46] } := by decide +kernel
theorem t81_b0 : bytI t81 l81 0 0 = { data := #[] } := by decide +kernel
theorem build_it0 (w : World) : (Instr.build 23 #[]).run Try.prog w = .ok (.agg #[.int .i64 0, .int .i64 0, .bool false, .bool false]) w := run_build w 23 _ _ (by kernel_rfl)
set_option maxRecDepth 100000 in
set_option maxHeartbeats 1000000 in
theorem told8_any (w : World) : Calls Try.prog 7 #[] w fun e w' => e = .returned (.bool true) ∧ Below w.heap.size w w' := by
  have HSC := Lib.hid (fun W => rscan_is { data := #[37, 97, 10, 102, 40, 41, 32, 45, 62, 32, 111, 107, 46, 32, 37, 98] } _ _ t81_is (by decide) W)
  obtain ⟨-, -, hsc⟩ := scan_good t81_is
  have HSP := Lib.hid (fun v W h => split_any8 hsc (by decide) (by decide) v W h)
  rw [t81_sp] at HSP
  have HB1 := Lib.hid (fun v W h => bytes_any8 hsc (by decide) (by decide) v 1 7 false false W h)
  rw [t81_b1] at HB1
  have HB0 := Lib.hid (fun v W h => bytes_any8 hsc (by decide) (by decide) v 0 0 false false W h)
  rw [t81_b0] at HB0
  have hbd := fun W => build_it0 W
  clear hsc
  unfold t81 at HSP HB1 HB0
  go_enter Try.func7, Try.ntmps7
  go_wp2_with fail
  refine (HSC.out _).mono ?_
  rintro e w1 ⟨v, rfl, ha1, hb1⟩
  have A1 := Lib.hid (trow_of ha1)
  have B1 := Lib.hid hb1
  clear hb1 ha1
  go_wp2_with fail
  refine (HSP.out _ _ A1.out).mono ?_
  rintro e w2 ⟨u, rfl, hi2⟩
  have B2 := Lib.hid hi2.2
  have I2 := itAt_of hi2
  obtain ⟨a, cap, rfl, hr⟩ := I2
  obtain ⟨g, rfl, hg, hc⟩ := hr (by decide)
  have C := Lib.hid (fun W (hb : Below w2.heap.size w2 W) => (⟨(hb.cell (p := ⟨g, 2, none⟩) hg).trans (hc 0 _ rfl).2.2.1, (hb.cell (p := ⟨g, 4, none⟩) hg).trans (hc 1 _ rfl).1, (hb.cell (p := ⟨g, 5, none⟩) hg).trans (hc 1 _ rfl).2.1, (hb.cell (p := ⟨g, 6, none⟩) hg).trans (hc 1 _ rfl).2.2.1, (hb.cell (p := ⟨g, 7, none⟩) hg).trans (hc 1 _ rfl).2.2.2, (hb.cell (p := ⟨g, 10, none⟩) hg).trans (hc 2 _ rfl).2.2.1⟩ :
    W.cell? ⟨g, 2, none⟩ = some (.bool true) ∧ W.cell? ⟨g, 4, none⟩ = some (.int .i64 1) ∧ W.cell? ⟨g, 5, none⟩ = some (.int .i64 7) ∧ W.cell? ⟨g, 6, none⟩ = some (.bool false) ∧ W.cell? ⟨g, 7, none⟩ = some (.bool false) ∧ W.cell? ⟨g, 10, none⟩ = some (.bool true)))
  obtain ⟨c1, c2, c3, c4, c5, c6⟩ := C.out _ (Below.refl _ _)
  clear hi2 hr hc
  simp only [List.length_cons, List.length_nil]
  go_wp2_with fail
  refine (HB1.out _ _ (A1.out.below B2.out)).mono ?_
  rintro e w3 ⟨rfl, hb3⟩
  have B3 : Hid (Below w1.heap.size w1 w3) := Lib.hid (B2.out.trans (hb3.mono B2.out.size))
  clear hb3
  go_wp2_with fail
  refine (HB0.out _ _ (A1.out.below B3.out)).mono ?_
  rintro e w4 ⟨rfl, hb4⟩
  have B4 : Hid (Below w1.heap.size w1 w4) := Lib.hid (B3.out.trans (hb4.mono B3.out.size))
  clear hb4
  go_wp2_with fail
  go_ret
  exact ⟨rfl, B1.out.trans (B4.out.mono B1.out.size)⟩
set_option maxRecDepth 100000 in
theorem eqIt (a b : Int) (n c : Bool) (w : World) : (Op.equalIn 10000 23 (.agg #[.int .i64 a, .int .i64 b, .bool n, .bool c]) (.agg #[.int .i64 a, .int .i64 b, .bool n, .bool c])).run Try.prog w = .ok true w := by
  rw [show (10000 : Nat) = 9999 + 1 from rfl, Op.equalIn]
  simp only [Sem.run_bind, run_underlying Try.underlying23, Result.andThen_ok]
  go_simp
set_option maxRecDepth 100000 in
set_option maxHeartbeats 1000000 in
theorem items_same (I : List It) (va vb : Value) (hI : I.length ≤ 1048576) (w : World) (h1 : ItAt w va I) (h2 : ItAt w vb I) :
    Calls Try.prog 11 #[va, vb] w fun e w' => e = .returned (.bool true) ∧ ∃ n, w' = w.drewN n := by
  obtain ⟨a, ca, rfl, ha⟩ := h1
  obtain ⟨b, cb, rfl, hb⟩ := h2
  have HA := Lib.hid ha
  have HB := Lib.hid hb
  clear ha hb
  obtain ⟨n, hn⟩ : ∃ n, n = I.length := ⟨_, rfl⟩
  rw [← hn] at hI HA HB ⊢
  have HN := Lib.hid hn
  clear hn
  have hnn : ((n : Int) != (n : Int)) = false := by simp
  go_enter Try.func11, Try.ntmps11
  go_wp2_with fail
  go_loopg [5] n (fun gn i wr => ∃ k : Nat, gn = n - k ∧ k ≤ n ∧ i = .int .i64 k ∧ Hid (∃ q, wr = w.drewN q))
  case atStart => exact ⟨0, rfl, Nat.zero_le _, rfl, Lib.hid ⟨0, rfl⟩⟩
  case round =>
    obtain ⟨k, hgn, hk, rfl, HW⟩ := hrel
    obtain ⟨q0, rfl⟩ := HW.out
    by_cases hlt : k < n
    · obtain ⟨g1, rfl, -, hc1⟩ := HA.out (by omega)
      obtain ⟨g2, rfl, -, hc2⟩ := HB.out (by omega)
      obtain ⟨x, hx⟩ : ∃ x, I[k]? = some x := ⟨I[k]'(by rw [← HN.out]; exact hlt), List.getElem?_eq_getElem _⟩
      obtain ⟨c1, c2, c3, c4⟩ := hc1 k x hx
      obtain ⟨d1, d2, d3, d4⟩ := hc2 k x hx
      obtain ⟨u, hu⟩ : ∃ u : Int, u = (x.1 : Int) := ⟨_, rfl⟩
      obtain ⟨p, hp⟩ : ∃ p : Int, p = (x.2.1 : Int) := ⟨_, rfl⟩
      obtain ⟨b1, hb1⟩ : ∃ b1, b1 = x.2.2.1 := ⟨_, rfl⟩
      obtain ⟨b2, hb2⟩ : ∃ b2, b2 = x.2.2.2 := ⟨_, rfl⟩
      rw [← hu] at c1 d1
      rw [← hp] at c2 d2
      rw [← hb1] at c3 d3
      rw [← hb2] at c4 d4
      clear hu hp hb1 hb2 hx hc1 hc2
      have kn : (k : Int) < (n : Int) := by omega
      have heq := fun W => eqIt u p b1 b2 W
      go_wp2_with fail
      go_quiet (fail)
      go_wp2_with fail
      go_roundg (n - (k + 1))
      case measure => omega
      case rel => exact ⟨k + 1, rfl, hlt, by go_num, Lib.hid ⟨_, rfl⟩⟩
    · obtain rfl : k = n := by omega
      go_wp2_with fail
      go_ret
      exact ⟨rfl, _, rfl⟩
end Go.Proofs.Ytaaijenbcfjdlaa
