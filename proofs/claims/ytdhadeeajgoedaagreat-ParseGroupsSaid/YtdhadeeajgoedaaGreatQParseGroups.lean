/-
  a op b op c: which two belong together is told by levels and sides; comparisons stand alone (promises 13.1, 9.2): for every two integers the statement ParseGroups returns true. No condition.
-/
import Derived.Test.YtdhadeeajgoedaaGreatK04
import Derived.Test.YtdhadeeajgoedaaGreatK54
import Derived.Deep.CutRange
import Derived.BigRegion
import Derived.BigQuiet
set_option maxRecDepth 100000
set_option linter.unusedVariables false
set_option linter.unusedSimpArgs false
namespace Go.Proofs.YtdhadeeajgoedaaGreat.parseGroups
open Go.ChangeShapes Go.WideShapes Go.ChangeAt Go.RowKit Go.PlainAid
theorem qht (k : Nat) (hk : k < 30) : (op k).size ≤ 7 := by
  have := qeq ⟨k, hk⟩
  simp only at this
  show (opl13.getD k []).toArray.size ≤ _
  rw [List.size_toArray]; exact this
theorem qub (k t : Nat) (hk : k < 30) (ht : t < 30) : (grS k t).size ≤ 1048576 := by
  have h1 := qht k hk
  have h2 := qht t ht
  unfold grS
  rw [ByteArray.size_append, ByteArray.size_append, ByteArray.size_append, ByteArray.size_append]
  show 2 + _ + 3 + _ + 2 ≤ _
  omega
def GrA (k t : Nat) (W : World) (e : Ending) (W' : World) : Prop := Below W.heap.size W W' ∧ ∃ kd tx a1 n1 c1 b1 b2 a2 n2 c2 a3 n3 c3, e = .returned (.tuple #[.agg #[.int .i64 kd, .string tx, .slice a1 n1 c1, .bool b1, .bool b2, .slice a2 n2 c2, .slice a3 n3 c3], .int .i64 (if grK k t = 1 then 8 else 0)]) ∧
  (grK k t ≠ 1 → kd = 14 ∧ n1 = 2 ∧ ∃ g o, a1 = some ⟨g, o, none⟩ ∧ g < W'.heap.size ∧
    (grK k t = 2 → tx = op k ∧ W'.cell? ⟨g, o + 7, none⟩ = some (.int .i64 14) ∧ W'.cell? ⟨g, o + 8, none⟩ = some (.string (op t)) ∧ W'.cell? ⟨g, o + 1, none⟩ = some (.string { data := #[97] })) ∧
    (grK k t ≠ 2 → tx = op t ∧ W'.cell? ⟨g, o, none⟩ = some (.int .i64 14) ∧ W'.cell? ⟨g, o + 1, none⟩ = some (.string (op k)) ∧ W'.cell? ⟨g, o + 8, none⟩ = some (.string { data := #[99] })))
theorem qr9 (k t : Nat) (hk : k < 30) (ht : t < 30) (W : World) : Calls Tryz.prog 27 #[.string (grS k t)] W (GrA k t W) := by
  have h := gr_all ⟨k, hk⟩ ⟨t, ht⟩
  simp only [grC] at h
  rw [← whP_F] at h
  refine (qgi (grS k t) (qub k t hk ht) W).mono ?_
  rintro e W' ⟨hb, c, rfl, hn⟩
  obtain ⟨ka, kc, na, nc, va, vc, rfl, hr, -, -⟩ := qdf hn
  refine ⟨hb, (whP (grS k t)).1.kd, (whP (grS k t)).1.tx, ka, (whP (grS k t)).1.ls.length, kc, (whP (grS k t)).1.bk, (whP (grS k t)).1.bw, na, (whP (grS k t)).1.nof.length, nc, va, (whP (grS k t)).1.tl'.length, vc, ?_, ?_⟩
  · by_cases h1 : grK k t = 1
    · rw [if_pos h1] at h ⊢
      rw [eq_of_beq h]
    · rw [if_neg h1] at h ⊢
      simp only [Bool.and_eq_true, beq_iff_eq] at h
      rw [h.1.1]
  · intro h1
    rw [if_neg h1] at h
    simp only [Bool.and_eq_true, beq_iff_eq] at h
    obtain ⟨⟨h2, h3⟩, h4⟩ := h
    cases hl : (whP (grS k t)).1.ls with
    | nil => rw [hl] at h4; cases h4
    | cons y0 r =>
      cases r with
      | nil => rw [hl] at h4; cases h4
      | cons y1 r =>
        cases r with
        | cons _ _ => rw [hl] at h4; cases h4
        | nil =>
          rw [hl] at h4 hr
          simp only at h4
          obtain ⟨g, oo, _, _, _, _, _, _, rfl, hg, -, d0, d1, -⟩ := qsc hr (i := 0) (y := y0) rfl
          obtain ⟨g', oo', _, _, _, _, _, _, he, -, -, e0, e1, -⟩ := qsc hr (i := 1) (y := y1) rfl
          simp only [Option.some.injEq, Addr.mk.injEq] at he
          obtain ⟨rfl, rfl, -⟩ := he
          refine ⟨h3, rfl, g, oo, rfl, hg, fun h5 => ?_, fun h5 => ?_⟩
          · rw [if_pos h5] at h4
            simp only [Bool.and_eq_true, beq_iff_eq] at h4
            obtain ⟨⟨⟨q1, q2⟩, q3⟩, q4⟩ := h4
            have q1 := qex q1
            have q3 := qex q3
            have q4 := qex q4
            refine ⟨q1, ?_, ?_, ?_⟩
            · rw [← q2]; exact e0
            · rw [← q3]; exact e1
            · rw [← q4]; simpa using d1
          · rw [if_neg h5] at h4
            simp only [Bool.and_eq_true, beq_iff_eq] at h4
            obtain ⟨⟨⟨q1, q2⟩, q3⟩, q4⟩ := h4
            have q1 := qex q1
            have q3 := qex q3
            have q4 := qex q4
            refine ⟨q1, ?_, ?_, ?_⟩
            · rw [← q2]; simpa using d0
            · rw [← q3]; simpa using d1
            · rw [← q4]; exact e1
set_option maxRecDepth 100000 in
set_option maxHeartbeats 40000000 in
theorem walk (x y : Int) (w : World) :
    Calls Tryz.prog 5 #[.int .i64 x, .int .i64 y] w fun e w' => e = .returned (.bool true) ∧ Below w.heap.size w w' := by
  obtain ⟨r, hr, er⟩ := qfa x 30 (by decide) (by decide)
  obtain ⟨q, hq, eq⟩ := qfa y 30 (by decide) (by decide)
  have er : (IntKind.u64.wrap x).tmod 30 = (r : Int) := er
  have eq : (IntKind.u64.wrap y).tmod 30 = (q : Int) := eq
  have CX := Lib.hid (fun (W : World) t cs h => qep W t cs r hr h)
  have CY := Lib.hid (fun (W : World) t cs h => qep W t cs q hq h)
  have hX9 := qht r hr
  have hY9 := qht q hq
  have HW := Lib.hid (fun W => qr9 r q hr hq W)
  have HB1 := Lib.hid (fun W => qfd (op r) W)
  have HB2 := Lib.hid (fun W => qfd (op q) W)
  have HD := Lib.hid (fun W => qp7 (op r) W)
  have hK : grK r q = (if bn (opl13.getD r []) = bn (opl13.getD q []) ∧ sd (opl13.getD r []) = 3 then 1 else if bn (opl13.getD r []) < bn (opl13.getD q []) ∨ bn (opl13.getD q []) = bn (opl13.getD r []) ∧ sd (opl13.getD r []) = 2 then 2 else 3) := rfl
  rw [show (op r).toList = opl13.getD r [] by unfold op; simp] at HB1 HD
  rw [show (op q).toList = opl13.getD q [] by unfold op; simp] at HB2
  unfold GrA at HW
  generalize grK r q = K at HW hK
  unfold grS at HW
  generalize hp : bn (opl13.getD r []) = p at HB1 hK
  generalize hu : bn (opl13.getD q []) = u at HB2 hK
  generalize hs : sd (opl13.getD r []) = s at HD hK
  change Hid (∀ (W : World) (t : TypeId) (cs : Array Value), cs = (opl13.map fun l => Value.string ⟨l.toArray⟩).toArray → (W.alloc (.cells cs t)).cell? ⟨W.heap.size, r, none⟩ = some (.string (op r))) at CX
  change Hid (∀ (W : World) (t : TypeId) (cs : Array Value), cs = (opl13.map fun l => Value.string ⟨l.toArray⟩).toArray → (W.alloc (.cells cs t)).cell? ⟨W.heap.size, q, none⟩ = some (.string (op q))) at CY
  generalize op r = X at CX HW HB1 HD hX9
  generalize op q = Y at CY HW HB2 hY9
  have HT := Lib.hid qez
  clear hp hu hs
  have HK := Lib.hid hK
  clear hK
  go_enter Tryz.func5, Tryz.ntmps5
  go_upto_region 1 with fail
  go_cut [5] from 13 to 13 (fun v wx => v = .slice (some ⟨w.heap.size, 0, none⟩) 30 30 ∧ Hid (wx.cell? ⟨w.heap.size, r, none⟩ = some (.string X)) ∧ Hid (wx.cell? ⟨w.heap.size, q, none⟩ = some (.string Y)) ∧ Hid (Below w.heap.size w wx))
  case first =>
    go_wp2_with fail
    go_meet
    exact ⟨rfl, Lib.hid (CX.out _ _ _ rfl), Lib.hid (CY.out _ _ _ rfl), Lib.hid (qa1 _ _)⟩
  case rest =>
    obtain ⟨rfl, HA, HC, HB0⟩ := hcut
    have cX := HA.out
    have cY := HC.out
    go_wp2_with fail
    go_quiet (fail)
    go_wp2_with fail
    have HBq : Hid (Below w.heap.size w (wc.drewN nq)) := Lib.hid (HB0.out.trans ((qac _ _).mono HB0.out.size))
    refine (HW.out _).mono ?_
    rintro e w1 ⟨hb1, kd, tx, a1, n1, c1, b1, b2, a2, n2, c2, a3, n3, c3, rfl, hin⟩
    have HIN := Lib.hid hin
    have B1 : Hid (Below w.heap.size w w1) := Lib.hid (HBq.out.trans (hb1.mono HBq.out.size))
    clear hb1 hin cX cY HA HC HB0 HBq HW CX CY hX9 hY9
    rcases Nat.lt_trichotomy p u with hc | hc | hc
    · have g1 : (p : Int) < (u : Int) := by omega
      have g2 : ((p : Int) == (u : Int)) = false := beq_false_of_ne (by omega)
      have hn : ¬ (p = u ∧ s = 3) := by omega
      have hK : K = 2 := HK.out.trans (by rw [if_neg hn, if_pos (.inl hc)])
      subst hK
      simp only [show ((2 : Nat) = 1) = False from eq_false (by decide), if_false]
      obtain ⟨rfl, rfl, g, o, rfl, hg, hi2, hi3⟩ := HIN.out (by decide)
      obtain ⟨htx, d1, d2, d3⟩ := hi2 (by decide)
      have htx' := htx.symm
      subst htx'
      clear hi2 hi3
      clear HIN HK
      have S0 : Hid (Below w.heap.size w (w1.alloc (.cells #[.int .i64 14, .string X, .slice (some ⟨g, o, none⟩) 2 c1, .bool b1, .bool b2, .slice a2 n2 c2, .slice a3 n3 c3] 29)) ∧ w1.heap.size < (w1.alloc (.cells #[.int .i64 14, .string X, .slice (some ⟨g, o, none⟩) 2 c1, .bool b1, .bool b2, .slice a2 n2 c2, .slice a3 n3 c3] 29)).heap.size ∧ NdB (w1.alloc (.cells #[.int .i64 14, .string X, .slice (some ⟨g, o, none⟩) 2 c1, .bool b1, .bool b2, .slice a2 n2 c2, .slice a3 n3 c3] 29)) w1.heap.size 14 X (.slice (some ⟨g, o, none⟩) 2 c1) b1 b2 (.slice a2 n2 c2) (.slice a3 n3 c3) ∧ g < (w1.alloc (.cells #[.int .i64 14, .string X, .slice (some ⟨g, o, none⟩) 2 c1, .bool b1, .bool b2, .slice a2 n2 c2, .slice a3 n3 c3] 29)).heap.size ∧ (w1.alloc (.cells #[.int .i64 14, .string X, .slice (some ⟨g, o, none⟩) 2 c1, .bool b1, .bool b2, .slice a2 n2 c2, .slice a3 n3 c3] 29)).cell? ⟨g, o + 7, none⟩ = some (.int .i64 14) ∧ (w1.alloc (.cells #[.int .i64 14, .string X, .slice (some ⟨g, o, none⟩) 2 c1, .bool b1, .bool b2, .slice a2 n2 c2, .slice a3 n3 c3] 29)).cell? ⟨g, o + 8, none⟩ = some (.string Y) ∧ (w1.alloc (.cells #[.int .i64 14, .string X, .slice (some ⟨g, o, none⟩) 2 c1, .bool b1, .bool b2, .slice a2 n2 c2, .slice a3 n3 c3] 29)).cell? ⟨g, o + 1, none⟩ = some (.string { data := #[97] })) := Lib.hid ⟨B1.out.alloc B1.out.size _, by simp, qa8 w1 _, by simp; omega, ⟨((qa1 w1 _).cell (p := ⟨g, o + 7, none⟩) hg).trans d1, ((qa1 w1 _).cell (p := ⟨g, o + 8, none⟩) hg).trans d2, ((qa1 w1 _).cell (p := ⟨g, o + 1, none⟩) hg).trans d3⟩⟩
      have KS : ∀ u u' : World, Below u.heap.size u u' → (Below w.heap.size w u ∧ w1.heap.size < u.heap.size ∧ NdB u w1.heap.size 14 X (.slice (some ⟨g, o, none⟩) 2 c1) b1 b2 (.slice a2 n2 c2) (.slice a3 n3 c3) ∧ g < u.heap.size ∧ u.cell? ⟨g, o + 7, none⟩ = some (.int .i64 14) ∧ u.cell? ⟨g, o + 8, none⟩ = some (.string Y) ∧ u.cell? ⟨g, o + 1, none⟩ = some (.string { data := #[97] })) → Hid (Below w.heap.size w u' ∧ w1.heap.size < u'.heap.size ∧ NdB u' w1.heap.size 14 X (.slice (some ⟨g, o, none⟩) 2 c1) b1 b2 (.slice a2 n2 c2) (.slice a3 n3 c3) ∧ g < u'.heap.size ∧ u'.cell? ⟨g, o + 7, none⟩ = some (.int .i64 14) ∧ u'.cell? ⟨g, o + 8, none⟩ = some (.string Y) ∧ u'.cell? ⟨g, o + 1, none⟩ = some (.string { data := #[97] })) := fun u u' hb hs => Lib.hid ⟨hs.1.trans (hb.mono hs.1.size), Nat.lt_of_lt_of_le hs.2.1 hb.size, (hb.block _ hs.2.1).trans hs.2.2.1, Nat.lt_of_lt_of_le hs.2.2.2.1 hb.size, ⟨(hb.cell (p := ⟨g, o + 7, none⟩) hs.2.2.2.1).trans hs.2.2.2.2.1, (hb.cell (p := ⟨g, o + 8, none⟩) hs.2.2.2.1).trans hs.2.2.2.2.2.1, (hb.cell (p := ⟨g, o + 1, none⟩) hs.2.2.2.1).trans hs.2.2.2.2.2.2⟩⟩
      have KS := Lib.hid KS
      clear hg d1 d2 d3
      clear B1
      go_wp2_with fail
      refine (HB1.out _).mono ?_
      rintro e w2 ⟨rfl, hb2⟩
      have S2 := KS.out _ _ hb2 S0.out
      clear hb2 S0
      go_wp2_with fail
      refine (HB2.out _).mono ?_
      rintro e w3 ⟨rfl, hb3⟩
      have S3 := KS.out _ _ hb3 S2.out
      clear hb3 S2
      obtain ⟨m0, m1, m2, m3, m4, m5, m6⟩ := S3.out.2.2.1.cells
      go_wp2_with fail
      clear m0 m1 m2 m3 m4 m5 m6
      refine (HT.out _).mono ?_
      rintro e w4 ⟨rfl, hb4⟩
      have S4 := KS.out _ _ hb4 S3.out
      clear hb4 S3
      obtain ⟨m0, m1, m2, m3, m4, m5, m6⟩ := S4.out.2.2.1.cells
      obtain ⟨-, -, -, -, d1, d2, d3⟩ := S4.out
      go_wp2_with fail
      go_ret
      exact ⟨rfl, S4.out.1⟩
    · subst hc
      by_cases hs2 : s = 2
      · subst hs2
        have hK : K = 2 := HK.out.trans (by rw [if_neg (fun h => absurd h.2 (by decide)), if_pos (.inr ⟨rfl, rfl⟩)])
        subst hK
        simp only [show ((2 : Nat) = 1) = False from eq_false (by decide), if_false]
        obtain ⟨rfl, rfl, g, o, rfl, hg, hi2, hi3⟩ := HIN.out (by decide)
        obtain ⟨htx, d1, d2, d3⟩ := hi2 (by decide)
        have htx' := htx.symm
        subst htx'
        clear hi2 hi3
        clear HIN HK
        have S0 : Hid (Below w.heap.size w (w1.alloc (.cells #[.int .i64 14, .string X, .slice (some ⟨g, o, none⟩) 2 c1, .bool b1, .bool b2, .slice a2 n2 c2, .slice a3 n3 c3] 29)) ∧ w1.heap.size < (w1.alloc (.cells #[.int .i64 14, .string X, .slice (some ⟨g, o, none⟩) 2 c1, .bool b1, .bool b2, .slice a2 n2 c2, .slice a3 n3 c3] 29)).heap.size ∧ NdB (w1.alloc (.cells #[.int .i64 14, .string X, .slice (some ⟨g, o, none⟩) 2 c1, .bool b1, .bool b2, .slice a2 n2 c2, .slice a3 n3 c3] 29)) w1.heap.size 14 X (.slice (some ⟨g, o, none⟩) 2 c1) b1 b2 (.slice a2 n2 c2) (.slice a3 n3 c3) ∧ g < (w1.alloc (.cells #[.int .i64 14, .string X, .slice (some ⟨g, o, none⟩) 2 c1, .bool b1, .bool b2, .slice a2 n2 c2, .slice a3 n3 c3] 29)).heap.size ∧ (w1.alloc (.cells #[.int .i64 14, .string X, .slice (some ⟨g, o, none⟩) 2 c1, .bool b1, .bool b2, .slice a2 n2 c2, .slice a3 n3 c3] 29)).cell? ⟨g, o + 7, none⟩ = some (.int .i64 14) ∧ (w1.alloc (.cells #[.int .i64 14, .string X, .slice (some ⟨g, o, none⟩) 2 c1, .bool b1, .bool b2, .slice a2 n2 c2, .slice a3 n3 c3] 29)).cell? ⟨g, o + 8, none⟩ = some (.string Y) ∧ (w1.alloc (.cells #[.int .i64 14, .string X, .slice (some ⟨g, o, none⟩) 2 c1, .bool b1, .bool b2, .slice a2 n2 c2, .slice a3 n3 c3] 29)).cell? ⟨g, o + 1, none⟩ = some (.string { data := #[97] })) := Lib.hid ⟨B1.out.alloc B1.out.size _, by simp, qa8 w1 _, by simp; omega, ⟨((qa1 w1 _).cell (p := ⟨g, o + 7, none⟩) hg).trans d1, ((qa1 w1 _).cell (p := ⟨g, o + 8, none⟩) hg).trans d2, ((qa1 w1 _).cell (p := ⟨g, o + 1, none⟩) hg).trans d3⟩⟩
        have KS : ∀ u u' : World, Below u.heap.size u u' → (Below w.heap.size w u ∧ w1.heap.size < u.heap.size ∧ NdB u w1.heap.size 14 X (.slice (some ⟨g, o, none⟩) 2 c1) b1 b2 (.slice a2 n2 c2) (.slice a3 n3 c3) ∧ g < u.heap.size ∧ u.cell? ⟨g, o + 7, none⟩ = some (.int .i64 14) ∧ u.cell? ⟨g, o + 8, none⟩ = some (.string Y) ∧ u.cell? ⟨g, o + 1, none⟩ = some (.string { data := #[97] })) → Hid (Below w.heap.size w u' ∧ w1.heap.size < u'.heap.size ∧ NdB u' w1.heap.size 14 X (.slice (some ⟨g, o, none⟩) 2 c1) b1 b2 (.slice a2 n2 c2) (.slice a3 n3 c3) ∧ g < u'.heap.size ∧ u'.cell? ⟨g, o + 7, none⟩ = some (.int .i64 14) ∧ u'.cell? ⟨g, o + 8, none⟩ = some (.string Y) ∧ u'.cell? ⟨g, o + 1, none⟩ = some (.string { data := #[97] })) := fun u u' hb hs => Lib.hid ⟨hs.1.trans (hb.mono hs.1.size), Nat.lt_of_lt_of_le hs.2.1 hb.size, (hb.block _ hs.2.1).trans hs.2.2.1, Nat.lt_of_lt_of_le hs.2.2.2.1 hb.size, ⟨(hb.cell (p := ⟨g, o + 7, none⟩) hs.2.2.2.1).trans hs.2.2.2.2.1, (hb.cell (p := ⟨g, o + 8, none⟩) hs.2.2.2.1).trans hs.2.2.2.2.2.1, (hb.cell (p := ⟨g, o + 1, none⟩) hs.2.2.2.1).trans hs.2.2.2.2.2.2⟩⟩
        have KS := Lib.hid KS
        clear hg d1 d2 d3
        clear B1
        go_wp2_with fail
        refine (HB1.out _).mono ?_
        rintro e w2 ⟨rfl, hb2⟩
        have S2 := KS.out _ _ hb2 S0.out
        clear hb2 S0
        go_wp2_with fail
        refine (HB2.out _).mono ?_
        rintro e w3 ⟨rfl, hb3⟩
        have S3 := KS.out _ _ hb3 S2.out
        clear hb3 S2
        go_wp2_with fail
        refine (HD.out _).mono ?_
        rintro e w4 ⟨rfl, hb4⟩
        have S4 := KS.out _ _ hb4 S3.out
        clear hb4 S3
        go_wp2_with fail
        refine (HD.out _).mono ?_
        rintro e w5 ⟨rfl, hb5⟩
        have S5 := KS.out _ _ hb5 S4.out
        clear hb5 S4
        obtain ⟨m0, m1, m2, m3, m4, m5, m6⟩ := S5.out.2.2.1.cells
        go_wp2_with fail
        clear m0 m1 m2 m3 m4 m5 m6
        refine (HT.out _).mono ?_
        rintro e w6 ⟨rfl, hb6⟩
        have S6 := KS.out _ _ hb6 S5.out
        clear hb6 S5
        obtain ⟨m0, m1, m2, m3, m4, m5, m6⟩ := S6.out.2.2.1.cells
        obtain ⟨-, -, -, -, d1, d2, d3⟩ := S6.out
        go_wp2_with fail
        go_ret
        exact ⟨rfl, S6.out.1⟩
      by_cases hs3 : s = 3
      · subst hs3
        have hK : K = 1 := HK.out.trans (if_pos ⟨rfl, rfl⟩)
        subst hK
        simp only [if_true]
        clear HIN HK
        have S0 : Hid (Below w.heap.size w (w1.alloc (.cells #[.int .i64 kd, .string tx, .slice a1 n1 c1, .bool b1, .bool b2, .slice a2 n2 c2, .slice a3 n3 c3] 29)) ∧ w1.heap.size < (w1.alloc (.cells #[.int .i64 kd, .string tx, .slice a1 n1 c1, .bool b1, .bool b2, .slice a2 n2 c2, .slice a3 n3 c3] 29)).heap.size ∧ NdB (w1.alloc (.cells #[.int .i64 kd, .string tx, .slice a1 n1 c1, .bool b1, .bool b2, .slice a2 n2 c2, .slice a3 n3 c3] 29)) w1.heap.size kd tx (.slice a1 n1 c1) b1 b2 (.slice a2 n2 c2) (.slice a3 n3 c3) ∧ True ∧ True) := Lib.hid ⟨B1.out.alloc B1.out.size _, by simp, qa8 w1 _, trivial, trivial⟩
        have KS : ∀ u u' : World, Below u.heap.size u u' → (Below w.heap.size w u ∧ w1.heap.size < u.heap.size ∧ NdB u w1.heap.size kd tx (.slice a1 n1 c1) b1 b2 (.slice a2 n2 c2) (.slice a3 n3 c3) ∧ True ∧ True) → Hid (Below w.heap.size w u' ∧ w1.heap.size < u'.heap.size ∧ NdB u' w1.heap.size kd tx (.slice a1 n1 c1) b1 b2 (.slice a2 n2 c2) (.slice a3 n3 c3) ∧ True ∧ True) := fun u u' hb hs => Lib.hid ⟨hs.1.trans (hb.mono hs.1.size), Nat.lt_of_lt_of_le hs.2.1 hb.size, (hb.block _ hs.2.1).trans hs.2.2.1, trivial, trivial⟩
        have KS := Lib.hid KS
        clear B1
        go_wp2_with fail
        refine (HB1.out _).mono ?_
        rintro e w2 ⟨rfl, hb2⟩
        have S2 := KS.out _ _ hb2 S0.out
        clear hb2 S0
        go_wp2_with fail
        refine (HB2.out _).mono ?_
        rintro e w3 ⟨rfl, hb3⟩
        have S3 := KS.out _ _ hb3 S2.out
        clear hb3 S2
        go_wp2_with fail
        refine (HD.out _).mono ?_
        rintro e w4 ⟨rfl, hb4⟩
        have S4 := KS.out _ _ hb4 S3.out
        clear hb4 S3
        go_wp2_with fail
        refine (HD.out _).mono ?_
        rintro e w5 ⟨rfl, hb5⟩
        have S5 := KS.out _ _ hb5 S4.out
        clear hb5 S4
        go_wp2_with fail
        refine (HT.out _).mono ?_
        rintro e w6 ⟨rfl, hb6⟩
        have S6 := KS.out _ _ hb6 S5.out
        clear hb6 S5
        go_wp2_with fail
        go_ret
        exact ⟨rfl, S6.out.1⟩
      · have e2 : ((s : Int) == 2) = false := beq_false_of_ne (by omega)
        have e3 : ((s : Int) == 3) = false := beq_false_of_ne (by omega)
        have hK : K = 3 := HK.out.trans (by rw [if_neg (fun h => hs3 h.2), if_neg (fun h => h.elim (Nat.lt_irrefl _) (fun h => hs2 h.2))])
        subst hK
        simp only [show ((3 : Nat) = 1) = False from eq_false (by decide), if_false]
        obtain ⟨rfl, rfl, g, o, rfl, hg, hi2, hi3⟩ := HIN.out (by decide)
        obtain ⟨htx, d1, d2, d3⟩ := hi3 (by decide)
        have htx' := htx.symm
        subst htx'
        clear hi2 hi3
        clear HIN HK
        have S0 : Hid (Below w.heap.size w (w1.alloc (.cells #[.int .i64 14, .string Y, .slice (some ⟨g, o, none⟩) 2 c1, .bool b1, .bool b2, .slice a2 n2 c2, .slice a3 n3 c3] 29)) ∧ w1.heap.size < (w1.alloc (.cells #[.int .i64 14, .string Y, .slice (some ⟨g, o, none⟩) 2 c1, .bool b1, .bool b2, .slice a2 n2 c2, .slice a3 n3 c3] 29)).heap.size ∧ NdB (w1.alloc (.cells #[.int .i64 14, .string Y, .slice (some ⟨g, o, none⟩) 2 c1, .bool b1, .bool b2, .slice a2 n2 c2, .slice a3 n3 c3] 29)) w1.heap.size 14 Y (.slice (some ⟨g, o, none⟩) 2 c1) b1 b2 (.slice a2 n2 c2) (.slice a3 n3 c3) ∧ g < (w1.alloc (.cells #[.int .i64 14, .string Y, .slice (some ⟨g, o, none⟩) 2 c1, .bool b1, .bool b2, .slice a2 n2 c2, .slice a3 n3 c3] 29)).heap.size ∧ (w1.alloc (.cells #[.int .i64 14, .string Y, .slice (some ⟨g, o, none⟩) 2 c1, .bool b1, .bool b2, .slice a2 n2 c2, .slice a3 n3 c3] 29)).cell? ⟨g, o, none⟩ = some (.int .i64 14) ∧ (w1.alloc (.cells #[.int .i64 14, .string Y, .slice (some ⟨g, o, none⟩) 2 c1, .bool b1, .bool b2, .slice a2 n2 c2, .slice a3 n3 c3] 29)).cell? ⟨g, o + 1, none⟩ = some (.string X) ∧ (w1.alloc (.cells #[.int .i64 14, .string Y, .slice (some ⟨g, o, none⟩) 2 c1, .bool b1, .bool b2, .slice a2 n2 c2, .slice a3 n3 c3] 29)).cell? ⟨g, o + 8, none⟩ = some (.string { data := #[99] })) := Lib.hid ⟨B1.out.alloc B1.out.size _, by simp, qa8 w1 _, by simp; omega, ⟨((qa1 w1 _).cell (p := ⟨g, o, none⟩) hg).trans d1, ((qa1 w1 _).cell (p := ⟨g, o + 1, none⟩) hg).trans d2, ((qa1 w1 _).cell (p := ⟨g, o + 8, none⟩) hg).trans d3⟩⟩
        have KS : ∀ u u' : World, Below u.heap.size u u' → (Below w.heap.size w u ∧ w1.heap.size < u.heap.size ∧ NdB u w1.heap.size 14 Y (.slice (some ⟨g, o, none⟩) 2 c1) b1 b2 (.slice a2 n2 c2) (.slice a3 n3 c3) ∧ g < u.heap.size ∧ u.cell? ⟨g, o, none⟩ = some (.int .i64 14) ∧ u.cell? ⟨g, o + 1, none⟩ = some (.string X) ∧ u.cell? ⟨g, o + 8, none⟩ = some (.string { data := #[99] })) → Hid (Below w.heap.size w u' ∧ w1.heap.size < u'.heap.size ∧ NdB u' w1.heap.size 14 Y (.slice (some ⟨g, o, none⟩) 2 c1) b1 b2 (.slice a2 n2 c2) (.slice a3 n3 c3) ∧ g < u'.heap.size ∧ u'.cell? ⟨g, o, none⟩ = some (.int .i64 14) ∧ u'.cell? ⟨g, o + 1, none⟩ = some (.string X) ∧ u'.cell? ⟨g, o + 8, none⟩ = some (.string { data := #[99] })) := fun u u' hb hs => Lib.hid ⟨hs.1.trans (hb.mono hs.1.size), Nat.lt_of_lt_of_le hs.2.1 hb.size, (hb.block _ hs.2.1).trans hs.2.2.1, Nat.lt_of_lt_of_le hs.2.2.2.1 hb.size, ⟨(hb.cell (p := ⟨g, o, none⟩) hs.2.2.2.1).trans hs.2.2.2.2.1, (hb.cell (p := ⟨g, o + 1, none⟩) hs.2.2.2.1).trans hs.2.2.2.2.2.1, (hb.cell (p := ⟨g, o + 8, none⟩) hs.2.2.2.1).trans hs.2.2.2.2.2.2⟩⟩
        have KS := Lib.hid KS
        clear hg d1 d2 d3
        clear B1
        go_wp2_with fail
        refine (HB1.out _).mono ?_
        rintro e w2 ⟨rfl, hb2⟩
        have S2 := KS.out _ _ hb2 S0.out
        clear hb2 S0
        go_wp2_with fail
        refine (HB2.out _).mono ?_
        rintro e w3 ⟨rfl, hb3⟩
        have S3 := KS.out _ _ hb3 S2.out
        clear hb3 S2
        go_wp2_with fail
        refine (HD.out _).mono ?_
        rintro e w4 ⟨rfl, hb4⟩
        have S4 := KS.out _ _ hb4 S3.out
        clear hb4 S3
        go_wp2_with fail
        refine (HD.out _).mono ?_
        rintro e w5 ⟨rfl, hb5⟩
        have S5 := KS.out _ _ hb5 S4.out
        clear hb5 S4
        obtain ⟨m0, m1, m2, m3, m4, m5, m6⟩ := S5.out.2.2.1.cells
        go_wp2_with fail
        clear m0 m1 m2 m3 m4 m5 m6
        refine (HT.out _).mono ?_
        rintro e w6 ⟨rfl, hb6⟩
        have S6 := KS.out _ _ hb6 S5.out
        clear hb6 S5
        obtain ⟨m0, m1, m2, m3, m4, m5, m6⟩ := S6.out.2.2.1.cells
        obtain ⟨-, -, -, -, d1, d2, d3⟩ := S6.out
        go_wp2_with fail
        go_ret
        exact ⟨rfl, S6.out.1⟩
    · have g1 : ¬ (p : Int) < (u : Int) := by omega
      have g2 : ((p : Int) == (u : Int)) = false := beq_false_of_ne (by omega)
      have g3 : ((u : Int) == (p : Int)) = false := beq_false_of_ne (by omega)
      have hn : ¬ (p = u ∧ s = 3) := by omega
      have hm : ¬ (p < u ∨ u = p ∧ s = 2) := by omega
      have hK : K = 3 := HK.out.trans (by rw [if_neg hn, if_neg hm])
      subst hK
      simp only [show ((3 : Nat) = 1) = False from eq_false (by decide), if_false]
      obtain ⟨rfl, rfl, g, o, rfl, hg, hi2, hi3⟩ := HIN.out (by decide)
      obtain ⟨htx, d1, d2, d3⟩ := hi3 (by decide)
      have htx' := htx.symm
      subst htx'
      clear hi2 hi3
      clear HIN HK
      have S0 : Hid (Below w.heap.size w (w1.alloc (.cells #[.int .i64 14, .string Y, .slice (some ⟨g, o, none⟩) 2 c1, .bool b1, .bool b2, .slice a2 n2 c2, .slice a3 n3 c3] 29)) ∧ w1.heap.size < (w1.alloc (.cells #[.int .i64 14, .string Y, .slice (some ⟨g, o, none⟩) 2 c1, .bool b1, .bool b2, .slice a2 n2 c2, .slice a3 n3 c3] 29)).heap.size ∧ NdB (w1.alloc (.cells #[.int .i64 14, .string Y, .slice (some ⟨g, o, none⟩) 2 c1, .bool b1, .bool b2, .slice a2 n2 c2, .slice a3 n3 c3] 29)) w1.heap.size 14 Y (.slice (some ⟨g, o, none⟩) 2 c1) b1 b2 (.slice a2 n2 c2) (.slice a3 n3 c3) ∧ g < (w1.alloc (.cells #[.int .i64 14, .string Y, .slice (some ⟨g, o, none⟩) 2 c1, .bool b1, .bool b2, .slice a2 n2 c2, .slice a3 n3 c3] 29)).heap.size ∧ (w1.alloc (.cells #[.int .i64 14, .string Y, .slice (some ⟨g, o, none⟩) 2 c1, .bool b1, .bool b2, .slice a2 n2 c2, .slice a3 n3 c3] 29)).cell? ⟨g, o, none⟩ = some (.int .i64 14) ∧ (w1.alloc (.cells #[.int .i64 14, .string Y, .slice (some ⟨g, o, none⟩) 2 c1, .bool b1, .bool b2, .slice a2 n2 c2, .slice a3 n3 c3] 29)).cell? ⟨g, o + 1, none⟩ = some (.string X) ∧ (w1.alloc (.cells #[.int .i64 14, .string Y, .slice (some ⟨g, o, none⟩) 2 c1, .bool b1, .bool b2, .slice a2 n2 c2, .slice a3 n3 c3] 29)).cell? ⟨g, o + 8, none⟩ = some (.string { data := #[99] })) := Lib.hid ⟨B1.out.alloc B1.out.size _, by simp, qa8 w1 _, by simp; omega, ⟨((qa1 w1 _).cell (p := ⟨g, o, none⟩) hg).trans d1, ((qa1 w1 _).cell (p := ⟨g, o + 1, none⟩) hg).trans d2, ((qa1 w1 _).cell (p := ⟨g, o + 8, none⟩) hg).trans d3⟩⟩
      have KS : ∀ u u' : World, Below u.heap.size u u' → (Below w.heap.size w u ∧ w1.heap.size < u.heap.size ∧ NdB u w1.heap.size 14 Y (.slice (some ⟨g, o, none⟩) 2 c1) b1 b2 (.slice a2 n2 c2) (.slice a3 n3 c3) ∧ g < u.heap.size ∧ u.cell? ⟨g, o, none⟩ = some (.int .i64 14) ∧ u.cell? ⟨g, o + 1, none⟩ = some (.string X) ∧ u.cell? ⟨g, o + 8, none⟩ = some (.string { data := #[99] })) → Hid (Below w.heap.size w u' ∧ w1.heap.size < u'.heap.size ∧ NdB u' w1.heap.size 14 Y (.slice (some ⟨g, o, none⟩) 2 c1) b1 b2 (.slice a2 n2 c2) (.slice a3 n3 c3) ∧ g < u'.heap.size ∧ u'.cell? ⟨g, o, none⟩ = some (.int .i64 14) ∧ u'.cell? ⟨g, o + 1, none⟩ = some (.string X) ∧ u'.cell? ⟨g, o + 8, none⟩ = some (.string { data := #[99] })) := fun u u' hb hs => Lib.hid ⟨hs.1.trans (hb.mono hs.1.size), Nat.lt_of_lt_of_le hs.2.1 hb.size, (hb.block _ hs.2.1).trans hs.2.2.1, Nat.lt_of_lt_of_le hs.2.2.2.1 hb.size, ⟨(hb.cell (p := ⟨g, o, none⟩) hs.2.2.2.1).trans hs.2.2.2.2.1, (hb.cell (p := ⟨g, o + 1, none⟩) hs.2.2.2.1).trans hs.2.2.2.2.2.1, (hb.cell (p := ⟨g, o + 8, none⟩) hs.2.2.2.1).trans hs.2.2.2.2.2.2⟩⟩
      have KS := Lib.hid KS
      clear hg d1 d2 d3
      clear B1
      go_wp2_with fail
      refine (HB1.out _).mono ?_
      rintro e w2 ⟨rfl, hb2⟩
      have S2 := KS.out _ _ hb2 S0.out
      clear hb2 S0
      go_wp2_with fail
      refine (HB2.out _).mono ?_
      rintro e w3 ⟨rfl, hb3⟩
      have S3 := KS.out _ _ hb3 S2.out
      clear hb3 S2
      obtain ⟨m0, m1, m2, m3, m4, m5, m6⟩ := S3.out.2.2.1.cells
      go_wp2_with fail
      clear m0 m1 m2 m3 m4 m5 m6
      refine (HT.out _).mono ?_
      rintro e w4 ⟨rfl, hb4⟩
      have S4 := KS.out _ _ hb4 S3.out
      clear hb4 S3
      obtain ⟨m0, m1, m2, m3, m4, m5, m6⟩ := S4.out.2.2.1.cells
      obtain ⟨-, -, -, -, d1, d2, d3⟩ := S4.out
      go_wp2_with fail
      go_ret
      exact ⟨rfl, S4.out.1⟩
set_option maxRecDepth 100000 in
theorem qim (os : Os) (started : os.Started) (H : Type) (enc : TypeId × Value → H) :
    ReturnsInHanded {} Tryz.checked os 5 .any (Rows.parseGroupsSpec.pre6 enc Tryz.prog Tryz.f5 Rows.parseGroupsRow.domain false) (Rows.parseGroupsSpec.post enc Tryz.prog Tryz.f5 false true false false) := by
  refine returnsInHanded_of_change (C := Tryz.checked) qe0 started (by kernel_rfl) Tryz.func5
    (ChangeSpec.witness6 (enc := enc) (C := Tryz.checked) false ⟨#[], #[.int .i64 0, .int .i64 0], []⟩ 8 (by kernel_rfl) (by kernel_rfl) (by kernel_rfl) (by kernel_rfl)) ?_
  intro W base args ds gs before hval0 hW hcnd _
  have hval : ∀ (j : Nat) t v, Tryz.f5.params[j]? = some t → args[j]? = some v → Value.okWide Tryz.prog W .any base t v := hval0
  have hW' := hW
  obtain ⟨p, q, hA0, hV, rfl, hfz, hnd⟩ := hW
  have hA : DataW.TrodAll enc Tryz.prog W 0 (fun _ => true) true Tryz.f5.params.toList args.toList ds p := hA0
  rw [Tryz.params5] at hA hval
  obtain ⟨v0, vs0, d0, ds0, p0, q0, hargs, rfl, rfl, h0, r0⟩ := trodAll_cons hA
  obtain ⟨v1, vs1, d1, ds1, p1, q1, rfl, rfl, rfl, h1, r1⟩ := trodAll_cons r0
  obtain ⟨rfl, rfl, rfl⟩ := trodAll_nil r1
  obtain rfl : args = #[v0, v1] := by cases args; simp_all
  obtain ⟨rfl, rfl⟩ := trodVars_none hV
  obtain ⟨a0, rfl, rfl, rfl, w0⟩ := open_int Tryz.underlying3 (hval 0 3 v0 rfl rfl) h0
  obtain ⟨a1, rfl, rfl, rfl, w1⟩ := open_int Tryz.underlying3 (hval 1 3 v1 rfl rfl) h1
  clear hA0 hval0
  simp only [List.append_nil] at hW'
  refine (walk a0 a1 W).mono fun e W' ⟨he, bel⟩ => ?_
  subst he
  exact ⟨_, rfl, _, _, _, [], _, [], hW', trodAll_mk1 (shut_bool Tryz.underlying4 _), (trodAll_cons_mk (shut_int Tryz.underlying3 w0) (trodAll_cons_mk (shut_int Tryz.underlying3 w1) trodAll_mk0)), rfl, bel.frame _, fun h => by cases h⟩
theorem over : Rows.ParseGroupsSaid :=
  OpenClaim.holds_of_wide 5 Tryz.f5 rfl rfl rfl rfl rfl rfl rfl ⟨rfl, rfl, rfl, rfl, rfl⟩ rfl rfl rfl rfl rfl (by kernel_rfl) Tryz.func5 (by kernel_rfl)
    (of_decide_eq_true (by kernel_rfl)) (by unfold Func.isWrapper; first | (rw [if_pos (by decide +kernel)]; kernel_rfl) | (rw [if_neg (by decide +kernel)]; exact ⟨rfl, rfl⟩))
    (fun os started H enc _ => qim os started H enc)
theorem proved : Rows.ParseGroupsSaid := over
#print axioms proved
end Go.Proofs.YtdhadeeajgoedaaGreat.parseGroups
