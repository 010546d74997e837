/-
  An expression of a level goes as far as operators of at least that level (promise 13.1): for every two integers the statement ParseLevels returns true. No condition.
-/
import Derived.Test.YtdhadeeajgoedaaGreatK04
import Derived.Test.YtdhadeeajgoedaaGreatK54
import Derived.Deep.CutRange
import Derived.BigRegion
import Derived.BigQuiet
set_option maxRecDepth 100000
set_option linter.unusedVariables false
set_option linter.unusedSimpArgs false
namespace Go.Proofs.YtdhadeeajgoedaaGreat.parseLevels
open Go.ChangeShapes Go.WideShapes Go.ChangeAt Go.RowKit Go.PlainAid
def lvS (k : Nat) : ByteArray := ({ data := #[97, 32] } ++ ⟨(opl13.getD k []).toArray⟩) ++ { data := #[32, 98] }
theorem qtb : ∀ k : Fin 30, ∀ q : Fin 14, (qgd (lvS k.val)).2 = 0 ∧ (qgd (lvS k.val)).1.length = 3 ∧
    (match pE (lvS k.val) (qgd (lvS k.val)).1 (.expr ((q.val : Int) - 1)) 0 3 with
      | some o => if (q.val : Int) - 1 ≤ (bn (opl13.getD k.val []) : Int) then o.p.i == 3 && o.x.kd == 14 else o.p.i == 1 && o.x.kd != 14
      | none => false) = true := by decide +kernel
def ctS : ByteArray := { data := #[99, 97, 116, 99, 104, 32, 97] }
def ctL : List Tk3 := [(8, 0, 5), (1, 6, 7)]
theorem ct_is : qch ctS = (ctL, 0) := by rw [qha]; decide +kernel
theorem ct_all : ∀ q : Fin 14, (match pE ctS ctL (.expr ((q.val : Int) - 1)) 0 2 with
      | some o => decide ((q.val : Int) - 1 ≤ 0) && o.p.i == 2 && o.x.kd == 13
      | none => decide (0 < (q.val : Int) - 1)) = true := by decide +kernel
theorem qtq {W : World} {b : Nat} (h : W.heap[b]? = some (.cells #[.int .i64 8, .string { data := #[99, 97, 116, 99, 104] }, .int .i64 0, .int .i64 1, .string { data := #[97] }, .int .i64 6] 34 (0, 0))) : TkR W (.slice (some ⟨b, 0, none⟩) 2 2) (toks { data := #[99, 97, 116, 99, 104, 32, 97] } ctL) := by
  refine qq9 h (by rw [qbb]; rfl) (fun i hi x hx => ?_)
  rw [qbb] at hi
  have hi : i < 2 := hi
  have e1 : ({ data := #[99, 97, 116, 99, 104, 32, 97] } : ByteArray).extract 0 5 = { data := #[99, 97, 116, 99, 104] } := by decide +kernel
  have e2 : ({ data := #[99, 97, 116, 99, 104, 32, 97] } : ByteArray).extract 6 7 = { data := #[97] } := by decide +kernel
  rcases i with _ | _ | i
  · obtain rfl := Option.some.inj hx
    show _ ∧ some (Value.string { data := #[99, 97, 116, 99, 104] }) = some (Value.string (({ data := #[99, 97, 116, 99, 104, 32, 97] } : ByteArray).extract 0 5)) ∧ _
    rw [e1]; exact ⟨rfl, rfl, rfl⟩
  · obtain rfl := Option.some.inj hx
    show _ ∧ some (Value.string { data := #[97] }) = some (Value.string (({ data := #[99, 97, 116, 99, 104, 32, 97] } : ByteArray).extract 6 7)) ∧ _
    rw [e2]; exact ⟨rfl, rfl, rfl⟩
  · omega
theorem quz (k q : Nat) (hk : k < 30) (hq : q < 14) (v : Value) (W : World) (ht : TkR W v (toks (lvS k) (qgd (lvS k)).1)) :
    Calls Tryz.prog 16 #[.string (lvS k), v, .int .i64 0, .int .i64 3, .int .i64 ((q : Int) - 1)] W fun e W' => Below W.heap.size W W' ∧
      ∃ kd tx la n lc b1 b2 na nn nc va vn vc, e = .returned (.tuple #[.agg #[.int .i64 kd, .string tx, .slice la n lc, .bool b1, .bool b2, .slice na nn nc, .slice va vn vc], .int .i64 (if (q : Int) - 1 ≤ (bn (opl13.getD k []) : Int) then 3 else 1), .int .i64 0]) ∧ (if (q : Int) - 1 ≤ (bn (opl13.getD k []) : Int) then kd = 14 else kd ≠ 14) := by
  obtain ⟨h1, h2, h3⟩ := qtb ⟨k, hk⟩ ⟨q, hq⟩
  simp only at h1 h2 h3
  have hR : qch (lvS k) = ((qgd (lvS k)).1, 0) := by rw [qha]; exact Prod.ext rfl h1
  have hz : (lvS k).size ≤ 1048576 := by
    have := qeq ⟨k, hk⟩
    simp only at this
    have h9 : (⟨(opl13.getD k []).toArray⟩ : ByteArray).size = (opl13.getD k []).length := by show (opl13.getD k []).toArray.size = _; simp
    unfold lvS
    rw [ByteArray.size_append, ByteArray.size_append, h9]
    show 2 + _ + 2 ≤ _
    omega
  refine (qdg (qg9 (qdi hR).2.2) hz (by rw [h2]; decide) v 0 3 ((q : Int) - 1) W ht).mono ?_
  cases hp : pE (lvS k) (qgd (lvS k)).1 (.expr ((q : Int) - 1)) 0 3 with
  | none => rw [hp] at h3; cases h3
  | some o =>
    rw [hp] at h3
    simp only at h3
    rintro e W' ⟨hb, c, rfl, hn⟩
    obtain ⟨ka, kc, na, nc, va, vc, rfl, -, -, -⟩ := qdf hn
    refine ⟨hb, o.x.kd, o.x.tx, ka, o.x.ls.length, kc, o.x.bk, o.x.bw, na, o.x.nof.length, nc, va, o.x.tl'.length, vc, ?_, ?_⟩
    · split
      · rename_i hc
        rw [if_pos hc] at h3
        simp only [Bool.and_eq_true, beq_iff_eq] at h3
        rw [h3.1]; rfl
      · rename_i hc
        rw [if_neg hc] at h3
        simp only [Bool.and_eq_true, beq_iff_eq] at h3
        rw [h3.1]; rfl
    · split
      · rename_i hc
        rw [if_pos hc] at h3
        simp only [Bool.and_eq_true, beq_iff_eq] at h3
        exact h3.2
      · rename_i hc
        rw [if_neg hc] at h3
        simp only [Bool.and_eq_true, bne_iff_ne] at h3
        exact h3.2
theorem qu6 (q : Nat) (hq : q < 14) (v : Value) (W : World) (ht : TkR W v (toks ctS ctL)) :
    Calls Tryz.prog 16 #[.string ctS, v, .int .i64 0, .int .i64 2, .int .i64 ((q : Int) - 1)] W fun e W' => Below W.heap.size W W' ∧
      ((q : Int) - 1 ≤ 0 ∧ (∃ tx la n lc b1 b2 na nn nc va vn vc, e = .returned (.tuple #[.agg #[.int .i64 13, .string tx, .slice la n lc, .bool b1, .bool b2, .slice na nn nc, .slice va vn vc], .int .i64 2, .int .i64 0])) ∨ 0 < (q : Int) - 1 ∧ e = .returned (.tuple #[qme, .int .i64 0, .int .i64 8])) := by
  have h3 := ct_all ⟨q, hq⟩
  simp only at h3
  refine (qdg (qg9 (qdi ct_is).2.2) (by decide) (by decide) v 0 2 ((q : Int) - 1) W ht).mono ?_
  cases hp : pE ctS ctL (.expr ((q : Int) - 1)) 0 2 with
  | none =>
    rw [hp] at h3
    rintro e W' ⟨hb, rfl⟩
    exact ⟨hb, .inr ⟨of_decide_eq_true h3, rfl⟩⟩
  | some o =>
    rw [hp] at h3
    simp only [Bool.and_eq_true, beq_iff_eq, decide_eq_true_eq] at h3
    obtain ⟨⟨h1, h2⟩, h4⟩ := h3
    rintro e W' ⟨hb, c, rfl, hn⟩
    obtain ⟨ka, kc, na, nc, va, vc, rfl, -, -, -⟩ := qdf hn
    exact ⟨hb, .inl ⟨h1, _, _, _, _, _, _, _, _, _, _, _, _, by rw [h2, h4]; rfl⟩⟩
set_option maxRecDepth 100000 in
set_option maxHeartbeats 40000000 in
theorem walk (x y : Int) (w : World) :
    Calls Tryz.prog 3 #[.int .i64 x, .int .i64 y] w fun e w' => e = .returned (.bool true) ∧ Below w.heap.size w w' := by
  obtain ⟨r, hr, er⟩ := qfa x 30 (by decide) (by decide)
  obtain ⟨q, hq, eq⟩ := qfa y 14 (by decide) (by decide)
  have er : (IntKind.u64.wrap x).tmod 30 = (r : Int) := er
  have eq : (IntKind.u64.wrap y).tmod 14 = (q : Int) := eq
  obtain ⟨h1, h2, -⟩ := qtb ⟨r, hr⟩ ⟨q, hq⟩
  simp only at h1 h2
  have CX := Lib.hid (fun (W : World) t cs h => qep W t cs r hr h)
  have hX9 : (⟨(opl13.getD r []).toArray⟩ : ByteArray).size ≤ 7 := by
    have := qeq ⟨r, hr⟩
    simp only at this
    show (opl13.getD r []).toArray.size ≤ _
    rw [List.size_toArray]; exact this
  have HS := Lib.hid (fun W => qgb (lvS r) _ 0 (show qch (lvS r) = ((qgd (lvS r)).1, 0) by rw [qha]; exact Prod.ext rfl h1) (by unfold lvS; rw [ByteArray.size_append, ByteArray.size_append]; show 2 + _ + 2 ≤ _; omega) W)
  have HE := Lib.hid (fun v W h => quz r q hr hq v W h)
  have HC := Lib.hid (fun v W h => qu6 q hq v W h)
  have HB := Lib.hid (fun W => qfd ⟨(opl13.getD r []).toArray⟩ W)
  rw [show (⟨(opl13.getD r []).toArray⟩ : ByteArray).toList = opl13.getD r [] by simp] at HB
  generalize hL : (qgd (lvS r)).1 = L at HS HE h2
  unfold lvS at HS HE
  unfold ctS at HC
  unfold qme at HC
  generalize hb : bn (opl13.getD r []) = b at HE HB
  generalize hX : (⟨(opl13.getD r []).toArray⟩ : ByteArray) = X at CX HS HE HB hX9
  have HT := Lib.hid qez
  have HL := Lib.hid h2
  clear h1 hL hb hX h2
  by_cases hv : (q : Int) - 1 ≤ (b : Int)
  · simp only [if_pos hv] at HE
    have hv3 : decide ((b : Int) ≥ (q : Int) - 1) = true := decide_eq_true hv
    go_enter Tryz.func3, Tryz.ntmps3
    go_upto_region 1 with fail
    go_cut [5] from 18 to 18 (fun v wx => v = .slice (some ⟨w.heap.size, 0, none⟩) 30 30 ∧ Hid (wx.cell? ⟨w.heap.size, r, none⟩ = some (.string X)) ∧ Hid (Below w.heap.size w wx))
    case first =>
      go_wp2_with fail
      go_meet
      exact ⟨rfl, Lib.hid (CX.out _ _ _ rfl), Lib.hid (qa1 _ _)⟩
    case rest =>
      obtain ⟨rfl, HA, HB0⟩ := hcut
      have cX := HA.out
      go_wp2_with fail
      refine (HS.out _).mono ?_
      rintro e w1 ⟨v1, rfl, ha1, hb1⟩
      have A1 := Lib.hid ha1
      have B1 : Hid (Below w.heap.size w w1) := Lib.hid (HB0.out.trans (hb1.mono HB0.out.size))
      clear ha1 hb1 cX HA HB0 HS CX
      obtain ⟨la, lc, rfl, -⟩ := A1.out.row
      rw [show (toks (({ data := #[97, 32] } ++ X) ++ { data := #[32, 98] }) L).length = 3 by rw [qbb]; exact HL.out] at *
      go_wp2_with fail
      refine (HE.out _ _ A1.out).mono ?_
      rintro e w2 ⟨hb2, kd, tx, a1, n1, c1, b1, b2, a2, n2, c2, a3, n3, c3, rfl, hkd⟩
      have B2 : Hid (Below w.heap.size w (w2.alloc (.cells #[.int .i64 kd, .string tx, .slice a1 n1 c1, .bool b1, .bool b2, .slice a2 n2 c2, .slice a3 n3 c3] 29))) := Lib.hid ((B1.out.trans (hb2.mono B1.out.size)).alloc (Nat.le_trans B1.out.size hb2.size) _)
      have N2 : Hid (NdB (w2.alloc (.cells #[.int .i64 kd, .string tx, .slice a1 n1 c1, .bool b1, .bool b2, .slice a2 n2 c2, .slice a3 n3 c3] 29)) w2.heap.size kd tx (.slice a1 n1 c1) b1 b2 (.slice a2 n2 c2) (.slice a3 n3 c3) ∧ w2.heap.size < (w2.alloc (.cells #[.int .i64 kd, .string tx, .slice a1 n1 c1, .bool b1, .bool b2, .slice a2 n2 c2, .slice a3 n3 c3] 29)).heap.size) := Lib.hid ⟨qa8 w2 _, by simp⟩
      have HKD := Lib.hid hkd
      clear hb2 hkd A1 B1 HE
      go_wp2_with fail
      refine (HB.out _).mono ?_
      rintro e w3 ⟨rfl, hb3⟩
      have B3 : Hid (Below w.heap.size w w3) := Lib.hid (B2.out.trans (hb3.mono B2.out.size))
      have N3 : Hid (NdB w3 w2.heap.size kd tx (.slice a1 n1 c1) b1 b2 (.slice a2 n2 c2) (.slice a3 n3 c3) ∧ w2.heap.size < w3.heap.size) := Lib.hid ⟨(hb3.block _ N2.out.2).trans N2.out.1, Nat.lt_of_lt_of_le N2.out.2 hb3.size⟩
      clear hb3 B2 N2 HB
      go_wp2_with fail
      generalize hw4 : (w3.alloc (.cells #[.int .i64 8, .string { data := #[99, 97, 116, 99, 104] }, .int .i64 0, .int .i64 1, .string { data := #[97] }, .int .i64 6] 34)) = w4
      have B4 : Hid (Below w.heap.size w w4) := Lib.hid (by rw [← hw4]; exact B3.out.alloc B3.out.size _)
      have N4 : Hid (NdB w4 w2.heap.size kd tx (.slice a1 n1 c1) b1 b2 (.slice a2 n2 c2) (.slice a3 n3 c3) ∧ w2.heap.size < w4.heap.size) := Lib.hid (by rw [← hw4]; exact ⟨((qa1 w3 _).block _ N3.out.2).trans N3.out.1, by have := N3.out.2; simp; omega⟩)
      have R4 : Hid (TkR w4 (.slice (some ⟨w3.heap.size, 0, none⟩) 2 2) (toks { data := #[99, 97, 116, 99, 104, 32, 97] } ctL)) := Lib.hid (qtq (by rw [← hw4]; exact qa8 w3 _))
      clear hw4 B3 N3
      refine (HC.out _ _ R4.out).mono ?_
      rintro e w5 ⟨hb5, he⟩
      have B5 : Hid (Below w.heap.size w w5) := Lib.hid (B4.out.trans (hb5.mono B4.out.size))
      have N5 : Hid (NdB w5 w2.heap.size kd tx (.slice a1 n1 c1) b1 b2 (.slice a2 n2 c2) (.slice a3 n3 c3) ∧ w2.heap.size < w5.heap.size) := Lib.hid ⟨(hb5.block _ N4.out.2).trans N4.out.1, Nat.lt_of_lt_of_le N4.out.2 hb5.size⟩
      clear hb5 B4 N4 R4 HC
      rcases he with ⟨hv1, tx5, a5, n5, c5, b5, b6, a6, n6, c6, a7, n7, c7, rfl⟩ | ⟨hv1, rfl⟩
      · have hv2 : ¬ (0 : Int) < (q : Int) - 1 := by omega
        go_wp2_with fail
        refine (HT.out _).mono ?_
        rintro e w6 ⟨rfl, hb6⟩
        have B6 : Hid (Below w.heap.size w w6) := Lib.hid ((B5.out.alloc B5.out.size _).trans (hb6.mono (by have := B5.out.size; simp; omega)))
        have N6 : NdB w6 w2.heap.size kd tx (.slice a1 n1 c1) b1 b2 (.slice a2 n2 c2) (.slice a3 n3 c3) := (hb6.block _ (by have := N5.out.2; simp; omega)).trans (((qa1 w5 _).block _ N5.out.2).trans N5.out.1)
        obtain ⟨m0, -, -, -, -, -, -⟩ := N6.cells
        clear hb6 N6 N5 B5
        have hk2 : kd = 14 := HKD.out
        subst hk2
        go_wp2_with fail
        go_ret
        exact ⟨rfl, B6.out⟩
      · have hv2 : ¬ (q : Int) - 1 ≤ (0 : Int) := by omega
        go_wp2_with fail
        refine (HT.out _).mono ?_
        rintro e w6 ⟨rfl, hb6⟩
        have B6 : Hid (Below w.heap.size w w6) := Lib.hid ((B5.out.alloc B5.out.size _).trans (hb6.mono (by have := B5.out.size; simp; omega)))
        have N6 : NdB w6 w2.heap.size kd tx (.slice a1 n1 c1) b1 b2 (.slice a2 n2 c2) (.slice a3 n3 c3) := (hb6.block _ (by have := N5.out.2; simp; omega)).trans (((qa1 w5 _).block _ N5.out.2).trans N5.out.1)
        obtain ⟨m0, -, -, -, -, -, -⟩ := N6.cells
        clear hb6 N6 N5 B5
        have hk2 : kd = 14 := HKD.out
        subst hk2
        go_wp2_with fail
        go_ret
        exact ⟨rfl, B6.out⟩
  · simp only [if_neg hv] at HE
    have hv3 : decide ((b : Int) ≥ (q : Int) - 1) = false := decide_eq_false hv
    go_enter Tryz.func3, Tryz.ntmps3
    go_upto_region 1 with fail
    go_cut [5] from 18 to 18 (fun v wx => v = .slice (some ⟨w.heap.size, 0, none⟩) 30 30 ∧ Hid (wx.cell? ⟨w.heap.size, r, none⟩ = some (.string X)) ∧ Hid (Below w.heap.size w wx))
    case first =>
      go_wp2_with fail
      go_meet
      exact ⟨rfl, Lib.hid (CX.out _ _ _ rfl), Lib.hid (qa1 _ _)⟩
    case rest =>
      obtain ⟨rfl, HA, HB0⟩ := hcut
      have cX := HA.out
      go_wp2_with fail
      refine (HS.out _).mono ?_
      rintro e w1 ⟨v1, rfl, ha1, hb1⟩
      have A1 := Lib.hid ha1
      have B1 : Hid (Below w.heap.size w w1) := Lib.hid (HB0.out.trans (hb1.mono HB0.out.size))
      clear ha1 hb1 cX HA HB0 HS CX
      obtain ⟨la, lc, rfl, -⟩ := A1.out.row
      rw [show (toks (({ data := #[97, 32] } ++ X) ++ { data := #[32, 98] }) L).length = 3 by rw [qbb]; exact HL.out] at *
      go_wp2_with fail
      refine (HE.out _ _ A1.out).mono ?_
      rintro e w2 ⟨hb2, kd, tx, a1, n1, c1, b1, b2, a2, n2, c2, a3, n3, c3, rfl, hkd⟩
      have B2 : Hid (Below w.heap.size w (w2.alloc (.cells #[.int .i64 kd, .string tx, .slice a1 n1 c1, .bool b1, .bool b2, .slice a2 n2 c2, .slice a3 n3 c3] 29))) := Lib.hid ((B1.out.trans (hb2.mono B1.out.size)).alloc (Nat.le_trans B1.out.size hb2.size) _)
      have N2 : Hid (NdB (w2.alloc (.cells #[.int .i64 kd, .string tx, .slice a1 n1 c1, .bool b1, .bool b2, .slice a2 n2 c2, .slice a3 n3 c3] 29)) w2.heap.size kd tx (.slice a1 n1 c1) b1 b2 (.slice a2 n2 c2) (.slice a3 n3 c3) ∧ w2.heap.size < (w2.alloc (.cells #[.int .i64 kd, .string tx, .slice a1 n1 c1, .bool b1, .bool b2, .slice a2 n2 c2, .slice a3 n3 c3] 29)).heap.size) := Lib.hid ⟨qa8 w2 _, by simp⟩
      have HKD := Lib.hid hkd
      clear hb2 hkd A1 B1 HE
      go_wp2_with fail
      refine (HB.out _).mono ?_
      rintro e w3 ⟨rfl, hb3⟩
      have B3 : Hid (Below w.heap.size w w3) := Lib.hid (B2.out.trans (hb3.mono B2.out.size))
      have N3 : Hid (NdB w3 w2.heap.size kd tx (.slice a1 n1 c1) b1 b2 (.slice a2 n2 c2) (.slice a3 n3 c3) ∧ w2.heap.size < w3.heap.size) := Lib.hid ⟨(hb3.block _ N2.out.2).trans N2.out.1, Nat.lt_of_lt_of_le N2.out.2 hb3.size⟩
      clear hb3 B2 N2 HB
      go_wp2_with fail
      generalize hw4 : (w3.alloc (.cells #[.int .i64 8, .string { data := #[99, 97, 116, 99, 104] }, .int .i64 0, .int .i64 1, .string { data := #[97] }, .int .i64 6] 34)) = w4
      have B4 : Hid (Below w.heap.size w w4) := Lib.hid (by rw [← hw4]; exact B3.out.alloc B3.out.size _)
      have N4 : Hid (NdB w4 w2.heap.size kd tx (.slice a1 n1 c1) b1 b2 (.slice a2 n2 c2) (.slice a3 n3 c3) ∧ w2.heap.size < w4.heap.size) := Lib.hid (by rw [← hw4]; exact ⟨((qa1 w3 _).block _ N3.out.2).trans N3.out.1, by have := N3.out.2; simp; omega⟩)
      have R4 : Hid (TkR w4 (.slice (some ⟨w3.heap.size, 0, none⟩) 2 2) (toks { data := #[99, 97, 116, 99, 104, 32, 97] } ctL)) := Lib.hid (qtq (by rw [← hw4]; exact qa8 w3 _))
      clear hw4 B3 N3
      refine (HC.out _ _ R4.out).mono ?_
      rintro e w5 ⟨hb5, he⟩
      have B5 : Hid (Below w.heap.size w w5) := Lib.hid (B4.out.trans (hb5.mono B4.out.size))
      have N5 : Hid (NdB w5 w2.heap.size kd tx (.slice a1 n1 c1) b1 b2 (.slice a2 n2 c2) (.slice a3 n3 c3) ∧ w2.heap.size < w5.heap.size) := Lib.hid ⟨(hb5.block _ N4.out.2).trans N4.out.1, Nat.lt_of_lt_of_le N4.out.2 hb5.size⟩
      clear hb5 B4 N4 R4 HC
      rcases he with ⟨hv1, tx5, a5, n5, c5, b5, b6, a6, n6, c6, a7, n7, c7, rfl⟩ | ⟨hv1, rfl⟩
      · exact absurd hv1 (by omega)
      · have hv2 : ¬ (q : Int) - 1 ≤ (0 : Int) := by omega
        go_wp2_with fail
        refine (HT.out _).mono ?_
        rintro e w6 ⟨rfl, hb6⟩
        have B6 : Hid (Below w.heap.size w w6) := Lib.hid ((B5.out.alloc B5.out.size _).trans (hb6.mono (by have := B5.out.size; simp; omega)))
        have N6 : NdB w6 w2.heap.size kd tx (.slice a1 n1 c1) b1 b2 (.slice a2 n2 c2) (.slice a3 n3 c3) := (hb6.block _ (by have := N5.out.2; simp; omega)).trans (((qa1 w5 _).block _ N5.out.2).trans N5.out.1)
        obtain ⟨m0, -, -, -, -, -, -⟩ := N6.cells
        clear hb6 N6 N5 B5
        have hk2 : (kd == 14) = false := beq_false_of_ne HKD.out
        go_wp2_with fail
        go_ret
        exact ⟨rfl, B6.out⟩
set_option maxRecDepth 100000 in
theorem qim (os : Os) (started : os.Started) (H : Type) (enc : TypeId × Value → H) :
    ReturnsInHanded {} Tryz.checked os 3 .any (Rows.parseLevelsSpec.pre6 enc Tryz.prog Tryz.f3 Rows.parseLevelsRow.domain false) (Rows.parseLevelsSpec.post enc Tryz.prog Tryz.f3 false true false false) := by
  refine returnsInHanded_of_change (C := Tryz.checked) qe0 started (by kernel_rfl) Tryz.func3
    (ChangeSpec.witness6 (enc := enc) (C := Tryz.checked) false ⟨#[], #[.int .i64 0, .int .i64 0], []⟩ 8 (by kernel_rfl) (by kernel_rfl) (by kernel_rfl) (by kernel_rfl)) ?_
  intro W base args ds gs before hval0 hW hcnd _
  have hval : ∀ (j : Nat) t v, Tryz.f3.params[j]? = some t → args[j]? = some v → Value.okWide Tryz.prog W .any base t v := hval0
  have hW' := hW
  obtain ⟨p, q, hA0, hV, rfl, hfz, hnd⟩ := hW
  have hA : DataW.TrodAll enc Tryz.prog W 0 (fun _ => true) true Tryz.f3.params.toList args.toList ds p := hA0
  rw [Tryz.params3] at hA hval
  obtain ⟨v0, vs0, d0, ds0, p0, q0, hargs, rfl, rfl, h0, r0⟩ := trodAll_cons hA
  obtain ⟨v1, vs1, d1, ds1, p1, q1, rfl, rfl, rfl, h1, r1⟩ := trodAll_cons r0
  obtain ⟨rfl, rfl, rfl⟩ := trodAll_nil r1
  obtain rfl : args = #[v0, v1] := by cases args; simp_all
  obtain ⟨rfl, rfl⟩ := trodVars_none hV
  obtain ⟨a0, rfl, rfl, rfl, w0⟩ := open_int Tryz.underlying3 (hval 0 3 v0 rfl rfl) h0
  obtain ⟨a1, rfl, rfl, rfl, w1⟩ := open_int Tryz.underlying3 (hval 1 3 v1 rfl rfl) h1
  clear hA0 hval0
  simp only [List.append_nil] at hW'
  refine (walk a0 a1 W).mono fun e W' ⟨he, bel⟩ => ?_
  subst he
  exact ⟨_, rfl, _, _, _, [], _, [], hW', trodAll_mk1 (shut_bool Tryz.underlying4 _), (trodAll_cons_mk (shut_int Tryz.underlying3 w0) (trodAll_cons_mk (shut_int Tryz.underlying3 w1) trodAll_mk0)), rfl, bel.frame _, fun h => by cases h⟩
theorem over : Rows.ParseLevelsSaid :=
  OpenClaim.holds_of_wide 3 Tryz.f3 rfl rfl rfl rfl rfl rfl rfl ⟨rfl, rfl, rfl, rfl, rfl⟩ rfl rfl rfl rfl rfl (by kernel_rfl) Tryz.func3 (by kernel_rfl)
    (of_decide_eq_true (by kernel_rfl)) (by unfold Func.isWrapper; first | (rw [if_pos (by decide +kernel)]; kernel_rfl) | (rw [if_neg (by decide +kernel)]; exact ⟨rfl, rfl⟩))
    (fun os started H enc _ => qim os started H enc)
theorem proved : Rows.ParseLevelsSaid := over
#print axioms proved
end Go.Proofs.YtdhadeeajgoedaaGreat.parseLevels
