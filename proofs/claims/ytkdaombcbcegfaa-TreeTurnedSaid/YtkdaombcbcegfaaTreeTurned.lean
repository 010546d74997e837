/-
  A tree with one part of one node turned is another one; with one Break turned it is like it (promise 10.1): for every tree and every two integers the statement TreeTurned returns true. No condition.
-/
import Derived.Test.YtkdaombcbcegfaaBase
import Derived.Test.YtkdaombcbcegfaaNode
import Derived.Test.YtkdaombcbcegfaaTreeTold
import Derived.Test.YtkdaombcbcegfaaTreeFewW
import Derived.Test.YtkdaombcbcegfaaTurnedB
import Derived.Deep.CutRange
import Derived.Deep.RegionHeld3
namespace Go.Proofs.Ytkdaombcbcegfaa.treeTurned
open Go.ChangeShapes Go.WideShapes Go.ChangeAt Go.RowKit Go.PlainAid

theorem few_txk : ∀ (d : Nat) (n : Nd), fewN d n < 1000 → txk n
  | 0, _, h => by simp [fewN] at h
  | d + 1, .mk kk t l br bl no ta, h => by
    simp only [fewN] at h
    split at h
    case isFalse => omega
    case isTrue ht =>
      simp only [topOk, Bool.and_eq_true, decide_eq_true_eq] at ht
      obtain ⟨⟨⟨h1, h2⟩, h3⟩, h4⟩ := ht
      have key : ∀ (l : List Nd) (k : Nat), fewL d l k < 1000 → txkL l := by
        intro l
        induction l with
        | nil => intro k _; simp only [txkL]
        | cons x t ih =>
          intro k hk
          rw [fewL_cons] at hk
          by_cases hk1 : k < 1000
          · rw [if_pos hk1] at hk
            have hm := fewL_mono d t (k + fewN d x)
            simp only [txkL]
            exact ⟨few_txk d x (by omega), ih _ hk⟩
          · rw [if_neg hk1, fewL_done d t k (by omega)] at hk
            omega
      simp only [txk]
      exact ⟨by omega, key l 1 h⟩
theorem nd_true {W : World} {c : List Value} {n : Nd} (h : NdAt W c n) : NdIn W (fun _ => True) c n := by
  induction h with
  | mk k t l br bl no ta lv nv tv cs hn ht hl hc ih =>
    obtain ⟨a1, c1, e1, g1⟩ := hn
    obtain ⟨a2, c2, e2, g2⟩ := ht
    obtain ⟨a3, c3, e3, g3⟩ := hl
    exact .mk k t l br bl no ta lv nv tv cs ⟨a1, c1, e1, fun h0 => by obtain ⟨g, o, k1, k2, k3⟩ := g1 h0; exact ⟨g, o, k1, trivial, k2, k3⟩⟩ ⟨a2, c2, e2, fun h0 => by obtain ⟨g, o, k1, k2, k3⟩ := g2 h0; exact ⟨g, o, k1, trivial, k2, k3⟩⟩ ⟨a3, c3, e3, fun h0 => by obtain ⟨g, o, k1, k2, k3⟩ := g3 h0; exact ⟨g, o, k1, trivial, k2, k3⟩⟩ ih
theorem mod_at (x : Int) (C : Nat) (hC : 1 ≤ C) : ∃ r : Nat, r < C ∧ (IntKind.u64.wrap x).tmod (C : Int) = (r : Int) := by
  have := IntKind.wrap_u64 x
  have h0 := Int.tmod_nonneg (a := IntKind.u64.wrap x) (C : Int) (by omega)
  have h1 := Int.tmod_lt_of_pos (IntKind.u64.wrap x) (b := (C : Int)) (by omega)
  have h2 := Int.toNat_of_nonneg h0
  exact ⟨((IntKind.u64.wrap x).tmod (C : Int)).toNat, by omega, h2.symm⟩
set_option maxRecDepth 100000 in
set_option maxHeartbeats 16000000 in
theorem walk (c : List Value) (n : Nd) (x y : Int) (w : World) (h : NdAt w c n) (_ : Szd n) :
    Calls Try.prog 5 #[.agg c.toArray, .int .i64 x, .int .i64 y] w fun e w' => e = .returned (.bool true) ∧ Below w.heap.size w w' := by
  have hn := nd_true h
  obtain ⟨k, t, l, br, bl, no, ta, lv, nv, tv, cs, hno, hta, hll, hcs⟩ := hn
  obtain ⟨na, nc, rfl, -⟩ := hno
  obtain ⟨ta2, tc, rfl, -⟩ := hta
  obtain ⟨la, lc, rfl, -⟩ := hll
  have HF := Lib.hid (fun W (hb : Below w.heap.size w W) => fewB_any _ _ W (h.bel hb))
  cases hfew : fewB (.mk k t l br bl no ta)
  · rw [hfew] at HF
    go_enter Try.func5, Try.ntmps5
    go_wp2_with fail
    refine (HF.out _ (below1 _ _)).mono ?_
    rintro e w1 ⟨rfl, hb1⟩
    have HB1 : Hid (Below w.heap.size w w1) := Lib.hid ((below1 w _).trans (hb1.mono (by simp)))
    clear hb1
    go_wp2_with fail
    refine (told10_any _).mono ?_
    rintro e w9 ⟨rfl, hb9⟩
    have HB9 : Hid (Below w.heap.size w w9) := Lib.hid (HB1.out.trans (hb9.mono HB1.out.size))
    clear hb9
    go_wp2_with fail
    go_ret
    exact ⟨rfl, HB9.out⟩
  · rw [hfew] at HF
    obtain ⟨hc4, hs4⟩ := fewB_ok hfew
    have hok := fewB_okT hfew
    have htx := few_txk 40 (.mk k t l br bl no ta) (Nat.lt_of_le_of_lt (of_decide_eq_true hfew) (by omega))
    obtain ⟨n, hn⟩ : ∃ n, n = Nd.mk k t l br bl no ta := ⟨_, rfl⟩
    rw [← hn] at h hc4 hs4 hok htx
    have hpos := cnt_pos n
    obtain ⟨C, hC⟩ : ∃ C, C = cnt n := ⟨_, rfl⟩
    rw [← hC] at hc4 hpos
    obtain ⟨K, hK, eK⟩ := mod_at x C hpos
    obtain ⟨p, hp, ep⟩ := mod_at y 7 (by omega)
    have ep : (IntKind.u64.wrap y).tmod 7 = (p : Int) := ep
    have hA : ∀ W, Below (w.alloc (.cells #[.int .i64 k, .string t, .slice la l.length lc, .bool br, .bool bl, .slice na no.length nc, .slice ta2 ta.length tc] 26)).heap.size (w.alloc (.cells #[.int .i64 k, .string t, .slice la l.length lc, .bool br, .bool bl, .slice na no.length nc, .slice ta2 ta.length tc] 26)) W → W.cell? ⟨w.heap.size, 0, none⟩ = some (.int .i64 k) ∧ W.cell? ⟨w.heap.size, 1, none⟩ = some (.string t) ∧ W.cell? ⟨w.heap.size, 2, none⟩ = some (.slice la l.length lc) ∧ W.cell? ⟨w.heap.size, 3, none⟩ = some (.bool br) ∧ W.cell? ⟨w.heap.size, 4, none⟩ = some (.bool bl) ∧ W.cell? ⟨w.heap.size, 5, none⟩ = some (.slice na no.length nc) ∧ W.cell? ⟨w.heap.size, 6, none⟩ = some (.slice ta2 ta.length tc) := fun W hb => by
      have h1 := (hb.block w.heap.size (by simp)).trans (show (w.alloc (.cells #[.int .i64 k, .string t, .slice la l.length lc, .bool br, .bool bl, .slice na no.length nc, .slice ta2 ta.length tc] 26)).heap[w.heap.size]? = some (.cells #[.int .i64 k, .string t, .slice la l.length lc, .bool br, .bool bl, .slice na no.length nc, .slice ta2 ta.length tc] 26) by show (w.heap.push _)[w.heap.size]? = _; rw [Array.getElem?_push, if_pos rfl])
      refine ⟨?_, ?_, ?_, ?_, ?_, ?_, ?_⟩ <;> rw [cell_of_row W _ _ _ _ _ h1] <;> rfl
    obtain ⟨Z, hZ⟩ : ∃ Z, Z = w.alloc (.cells #[.int .i64 k, .string t, .slice la l.length lc, .bool br, .bool bl, .slice na no.length nc, .slice ta2 ta.length tc] 26) := ⟨_, rfl⟩
    have hbZ : Below w.heap.size w Z := by rw [hZ]; exact below1 _ _
    rw [← hZ] at hA
    have HA := Lib.hid hA
    have HZB : Hid (∀ W, W = w.alloc (.cells #[.int .i64 k, .string t, .slice la l.length lc, .bool br, .bool bl, .slice na no.length nc, .slice ta2 ta.length tc] 26) → Below Z.heap.size Z W) := Lib.hid (fun W e => by rw [e, ← hZ]; exact Below.refl _ _)
    have UP : Hid (∀ W, Below Z.heap.size Z W → Below w.heap.size w W) := Lib.hid (fun W hb => hbZ.trans (hb.mono hbZ.size))
    have HCT : Hid (∀ W, Below Z.heap.size Z W → Calls Try.prog 16 #[.agg #[.int .i64 k, .string t, .slice la l.length lc, .bool br, .bool bl, .slice na no.length nc, .slice ta2 ta.length tc]] W fun e w' => e = .returned (.int .i64 (C : Int)) ∧ Below Z.heap.size Z w') := Lib.hid (fun W hb => (rtcount_any 400 (by omega) n (by omega) _ W (h.bel (UP.out W hb))).mono fun e w' h9 => ⟨by rw [hC]; exact h9.1, hb.trans (h9.2.mono hb.size)⟩)
    have HTU : Hid (∀ W, Below Z.heap.size Z W → Calls Try.prog 22 #[.agg #[.int .i64 k, .string t, .slice la l.length lc, .bool br, .bool bl, .slice na no.length nc, .slice ta2 ta.length tc], .int .i64 (K : Int), .int .i64 (p : Int)] W fun e w' => ∃ (c2 : List Value) (x2 : Int), e = .returned (.tuple #[.agg c2.toArray, .int .i64 x2]) ∧ NdAt w' c2 (trn K p n) ∧ Below Z.heap.size Z w') := Lib.hid (fun W hb => (turned_any p (by omega) 400 (by omega) n (by omega) (smk_mono (by omega) n hs4) htx K (fun _ => True) _ W (by omega) (nd_true (h.bel (UP.out W hb))) (fun _ _ => trivial)).mono (by
      rintro e w' ⟨c2, x2, h1, h2, h3⟩
      exact ⟨c2, x2, h1, h2.nd, hb.trans (h3.mono hb.size)⟩))
    have HFZ : Hid (∀ W, Below Z.heap.size Z W → Calls Try.prog 10 #[.agg #[.int .i64 k, .string t, .slice la l.length lc, .bool br, .bool bl, .slice na no.length nc, .slice ta2 ta.length tc]] W fun e w' => e = .returned (.bool true) ∧ Below Z.heap.size Z w') := Lib.hid (fun W hb => (HF.out W (UP.out W hb)).mono fun e w' h9 => ⟨h9.1, hb.trans (h9.2.mono hb.size)⟩)
    have hlt := lk_trn true p n K (by omega)
    have hlf := lk_trn false p n K (by omega)
    have hok2 : OkT (trn K p n) := ⟨by have := trn_cnt p n K; omega, smk_mono (by omega) _ (trn_smk p 40 n K hs4)⟩
    obtain ⟨n2, hn2⟩ : ∃ n2, n2 = trn K p n := ⟨_, rfl⟩
    rw [← hn2] at HTU hlt hlf hok2
    have HLT := Lib.hid hlt
    have HLF := Lib.hid hlf
    have HOK2 := Lib.hid hok2
    have HOK := Lib.hid hok
    have HN := Lib.hid h
    have C4 : (C : Int) ≤ 400 := by omega
    have C1 : (1 : Int) ≤ (C : Int) := by omega
    have K4 : (K : Int) < 400 := by omega
    have p7 : (p : Int) < 7 := by omega
    clear hcs hfew hs4 htx hn hC hA hZ hbZ HF hlt hlf hok2 hok h hn2 hK
    go_enter Try.func5, Try.ntmps5
    go_wp2_with fail
    refine (HFZ.out _ (HZB.out _ rfl)).mono ?_
    rintro e w1 ⟨rfl, hb1⟩
    have HB1 := Lib.hid hb1
    obtain ⟨c0, c1, c2, c3, c4, c5, c6⟩ := HA.out _ hb1
    clear hb1
    go_wp2_with fail
    refine (HCT.out _ HB1.out).mono ?_
    rintro e w2 ⟨rfl, hb2⟩
    have HB2 := Lib.hid hb2
    obtain ⟨c0, c1, c2, c3, c4, c5, c6⟩ := HA.out _ hb2
    clear hb2
    go_wp2_with fail
    refine (HTU.out _ HB2.out).mono ?_
    rintro e w3 ⟨cl, x2, rfl, hn2, hb3⟩
    have HB3 := Lib.hid hb3
    obtain ⟨c0, c1, c2, c3, c4, c5, c6⟩ := HA.out _ hb3
    have HN2 := Lib.hid hn2
    obtain ⟨k2, t2, L2, br2, bl2, no2, tl2, lv2, nv2, tv2, cs2, ⟨na2, nc2, rfl, -⟩, ⟨ta3, tc2, rfl, -⟩, ⟨la2, lc2, rfl, -⟩, -⟩ := hn2
    have hB : ∀ W, Below (w3.alloc (.cells #[.int .i64 k2, .string t2, .slice la2 L2.length lc2, .bool br2, .bool bl2, .slice na2 no2.length nc2, .slice ta3 tl2.length tc2] 26)).heap.size (w3.alloc (.cells #[.int .i64 k2, .string t2, .slice la2 L2.length lc2, .bool br2, .bool bl2, .slice na2 no2.length nc2, .slice ta3 tl2.length tc2] 26)) W → W.cell? ⟨w3.heap.size, 0, none⟩ = some (.int .i64 k2) ∧ W.cell? ⟨w3.heap.size, 1, none⟩ = some (.string t2) ∧ W.cell? ⟨w3.heap.size, 2, none⟩ = some (.slice la2 L2.length lc2) ∧ W.cell? ⟨w3.heap.size, 3, none⟩ = some (.bool br2) ∧ W.cell? ⟨w3.heap.size, 4, none⟩ = some (.bool bl2) ∧ W.cell? ⟨w3.heap.size, 5, none⟩ = some (.slice na2 no2.length nc2) ∧ W.cell? ⟨w3.heap.size, 6, none⟩ = some (.slice ta3 tl2.length tc2) := fun W hb => by
      have h1 := (hb.block w3.heap.size (by simp)).trans (show (w3.alloc (.cells #[.int .i64 k2, .string t2, .slice la2 L2.length lc2, .bool br2, .bool bl2, .slice na2 no2.length nc2, .slice ta3 tl2.length tc2] 26)).heap[w3.heap.size]? = some (.cells #[.int .i64 k2, .string t2, .slice la2 L2.length lc2, .bool br2, .bool bl2, .slice na2 no2.length nc2, .slice ta3 tl2.length tc2] 26) by show (w3.heap.push _)[w3.heap.size]? = _; rw [Array.getElem?_push, if_pos rfl])
      refine ⟨?_, ?_, ?_, ?_, ?_, ?_, ?_⟩ <;> rw [cell_of_row W _ _ _ _ _ h1] <;> rfl
    obtain ⟨Y, hY⟩ : ∃ Y, Y = w3.alloc (.cells #[.int .i64 k2, .string t2, .slice la2 L2.length lc2, .bool br2, .bool bl2, .slice na2 no2.length nc2, .slice ta3 tl2.length tc2] 26) := ⟨_, rfl⟩
    have hbY : Below w3.heap.size w3 Y := by rw [hY]; exact below1 _ _
    rw [← hY] at hB
    have HB := Lib.hid hB
    have HYY : Hid (∀ W, W = w3.alloc (.cells #[.int .i64 k2, .string t2, .slice la2 L2.length lc2, .bool br2, .bool bl2, .slice na2 no2.length nc2, .slice ta3 tl2.length tc2] 26) → Below Y.heap.size Y W) := Lib.hid (fun W e => by rw [e, ← hY]; exact Below.refl _ _)
    have HYB : Hid (∀ W, Below Y.heap.size Y W → Below w3.heap.size w3 W) := Lib.hid (fun W hb => hbY.trans (hb.mono hbY.size))
    have HYZ : Hid (∀ W, Below Y.heap.size Y W → Below Z.heap.size Z W) := Lib.hid (fun W hb => hb3.trans ((HYB.out W hb).mono hb3.size))
    have CSS : Hid (∀ W, Below Y.heap.size Y W → Calls Try.prog 11 #[.agg #[.int .i64 k, .string t, .slice la l.length lc, .bool br, .bool bl, .slice na no.length nc, .slice ta2 ta.length tc], .agg #[.int .i64 k, .string t, .slice la l.length lc, .bool br, .bool bl, .slice na no.length nc, .slice ta2 ta.length tc]] W fun e w' => e = .returned (.bool true) ∧ Below Y.heap.size Y w') := Lib.hid (fun W hb => (psame_any _ _ _ _ W (HN.out.bel (UP.out W (HYZ.out W hb))) (HN.out.bel (UP.out W (HYZ.out W hb))) HOK.out HOK.out).mono fun e w' h9 => ⟨by rw [h9.1, lk_refl], hb.trans (h9.2.mono hb.size)⟩)
    have CLL : Hid (∀ W, Below Y.heap.size Y W → Calls Try.prog 13 #[.agg #[.int .i64 k, .string t, .slice la l.length lc, .bool br, .bool bl, .slice na no.length nc, .slice ta2 ta.length tc], .agg #[.int .i64 k, .string t, .slice la l.length lc, .bool br, .bool bl, .slice na no.length nc, .slice ta2 ta.length tc]] W fun e w' => e = .returned (.bool true) ∧ Below Y.heap.size Y w') := Lib.hid (fun W hb => (plike_any _ _ _ _ W (HN.out.bel (UP.out W (HYZ.out W hb))) (HN.out.bel (UP.out W (HYZ.out W hb))) HOK.out HOK.out).mono fun e w' h9 => ⟨by rw [h9.1, lk_refl], hb.trans (h9.2.mono hb.size)⟩)
    have CSB : Hid (∀ W, Below Y.heap.size Y W → Calls Try.prog 11 #[.agg #[.int .i64 k, .string t, .slice la l.length lc, .bool br, .bool bl, .slice na no.length nc, .slice ta2 ta.length tc], .agg #[.int .i64 k2, .string t2, .slice la2 L2.length lc2, .bool br2, .bool bl2, .slice na2 no2.length nc2, .slice ta3 tl2.length tc2]] W fun e w' => e = .returned (.bool false) ∧ Below Y.heap.size Y w') := Lib.hid (fun W hb => (psame_any _ _ _ _ W (HN.out.bel (UP.out W (HYZ.out W hb))) (HN2.out.bel (HYB.out W hb)) HOK.out HOK2.out).mono fun e w' h9 => ⟨by rw [h9.1, HLT.out, Bool.not_true, Bool.false_and], hb.trans (h9.2.mono hb.size)⟩)
    have CLB : Hid (∀ W, Below Y.heap.size Y W → Calls Try.prog 13 #[.agg #[.int .i64 k, .string t, .slice la l.length lc, .bool br, .bool bl, .slice na no.length nc, .slice ta2 ta.length tc], .agg #[.int .i64 k2, .string t2, .slice la2 L2.length lc2, .bool br2, .bool bl2, .slice na2 no2.length nc2, .slice ta3 tl2.length tc2]] W fun e w' => e = .returned (.bool (decide (6 ≤ p))) ∧ Below Y.heap.size Y w') := Lib.hid (fun W hb => (plike_any _ _ _ _ W (HN.out.bel (UP.out W (HYZ.out W hb))) (HN2.out.bel (HYB.out W hb)) HOK.out HOK2.out).mono fun e w' h9 => ⟨by rw [h9.1, HLF.out, Bool.not_false, Bool.true_and], hb.trans (h9.2.mono hb.size)⟩)
    have CBL : Hid (∀ W, Below Y.heap.size Y W → Calls Try.prog 13 #[.agg #[.int .i64 k2, .string t2, .slice la2 L2.length lc2, .bool br2, .bool bl2, .slice na2 no2.length nc2, .slice ta3 tl2.length tc2], .agg #[.int .i64 k, .string t, .slice la l.length lc, .bool br, .bool bl, .slice na no.length nc, .slice ta2 ta.length tc]] W fun e w' => e = .returned (.bool (decide (6 ≤ p))) ∧ Below Y.heap.size Y w') := Lib.hid (fun W hb => (plike_any _ _ _ _ W (HN2.out.bel (HYB.out W hb)) (HN.out.bel (UP.out W (HYZ.out W hb))) HOK2.out HOK.out).mono fun e w' h9 => ⟨by rw [h9.1, lk_comm, HLF.out, Bool.not_false, Bool.true_and], hb.trans (h9.2.mono hb.size)⟩)
    have CTD : Hid (∀ W, Below Y.heap.size Y W → Calls Try.prog 7 #[] W fun e w' => e = .returned (.bool true) ∧ Below Y.heap.size Y w') := Lib.hid (fun W hb => (told10_any W).mono fun e w' h9 => ⟨h9.1, hb.trans (h9.2.mono hb.size)⟩)
    have FIN : Hid (∀ W, Below Y.heap.size Y W → Below w.heap.size w W) := Lib.hid (fun W hb => UP.out W (HYZ.out W hb))
    obtain ⟨s, hs⟩ : ∃ s, s = decide (6 ≤ p) := ⟨_, rfl⟩
    have es : ((p : Int) == 6) = s := by
      rw [hs]
      rcases Nat.lt_or_ge p 6 with h6 | h6
      · rw [decide_eq_false (by omega)]; exact beq_false_of_ne (by omega)
      · rw [decide_eq_true h6, show (p : Int) = 6 by omega]; rfl
    rw [← hs] at CLB CBL
    have ss : (s == s) = true := beq_self_eq_true s
    clear hB hY hbY hb3 hs HOK HOK2 HLT HLF
    go_wp2_with fail
    refine (CTD.out _ (HYY.out _ rfl)).mono ?_
    rintro e v0 ⟨rfl, hd⟩
    have D0 := Lib.hid hd
    obtain ⟨c0, c1, c2, c3, c4, c5, c6⟩ := HA.out _ (HYZ.out _ hd)
    obtain ⟨e0, e1, e2, e3, e4, e5, e6⟩ := HB.out _ hd
    clear hd
    go_wp2_with fail
    refine (CSS.out _ (D0.out)).mono ?_
    rintro e v1 ⟨rfl, hd⟩
    have D1 := Lib.hid hd
    obtain ⟨c0, c1, c2, c3, c4, c5, c6⟩ := HA.out _ (HYZ.out _ hd)
    obtain ⟨e0, e1, e2, e3, e4, e5, e6⟩ := HB.out _ hd
    clear hd
    go_wp2_with fail
    refine (CLL.out _ (D1.out)).mono ?_
    rintro e v2 ⟨rfl, hd⟩
    have D2 := Lib.hid hd
    obtain ⟨c0, c1, c2, c3, c4, c5, c6⟩ := HA.out _ (HYZ.out _ hd)
    obtain ⟨e0, e1, e2, e3, e4, e5, e6⟩ := HB.out _ hd
    clear hd
    go_wp2_with fail
    refine (CSB.out _ (D2.out)).mono ?_
    rintro e v3 ⟨rfl, hd⟩
    have D3 := Lib.hid hd
    obtain ⟨c0, c1, c2, c3, c4, c5, c6⟩ := HA.out _ (HYZ.out _ hd)
    obtain ⟨e0, e1, e2, e3, e4, e5, e6⟩ := HB.out _ hd
    clear hd
    go_wp2_with fail
    refine (CLB.out _ (D3.out)).mono ?_
    rintro e v4 ⟨rfl, hd⟩
    have D4 := Lib.hid hd
    obtain ⟨c0, c1, c2, c3, c4, c5, c6⟩ := HA.out _ (HYZ.out _ hd)
    obtain ⟨e0, e1, e2, e3, e4, e5, e6⟩ := HB.out _ hd
    clear hd
    go_wp2_with fail
    refine (CBL.out _ (D4.out)).mono ?_
    rintro e v5 ⟨rfl, hd⟩
    have D5 := Lib.hid hd
    obtain ⟨c0, c1, c2, c3, c4, c5, c6⟩ := HA.out _ (HYZ.out _ hd)
    obtain ⟨e0, e1, e2, e3, e4, e5, e6⟩ := HB.out _ hd
    clear hd
    go_wp2_with fail
    go_ret
    exact ⟨rfl, FIN.out _ D5.out⟩
set_option maxRecDepth 100000 in
theorem lifted (os : Os) (started : os.Started) (H : Type) (enc : TypeId × Value → H) :
    ReturnsInHanded {} Try.checked os 5 .any (Rows.treeTurnedSpec.pre6 enc Try.prog Try.f5 Rows.treeTurnedRow.domain false) (Rows.treeTurnedSpec.post enc Try.prog Try.f5 false true false false) := by
  refine returnsInHanded_of_change_sized (C := Try.checked) ownKnobNone started (by kernel_rfl) Try.func5
    (ChangeSpec.witness6 (enc := enc) (C := Try.checked) false ⟨#[], #[.agg #[.int .i64 0, .string ByteArray.empty, .slice none 0 0, .bool false, .bool false, .slice none 0 0, .slice none 0 0], .int .i64 0, .int .i64 0], []⟩ 8 (by kernel_rfl) (by kernel_rfl) (by kernel_rfl) (by kernel_rfl)) ?_
  intro W base args ds gs before hval0 hW _ hz0 _
  have hval : ∀ (j : Nat) t v, Try.f5.params[j]? = some t → args[j]? = some v → Value.okWide Try.prog W .any base t v := hval0
  have hW' := hW
  obtain ⟨p, q, hA0, hV, rfl, hfz, hnd⟩ := hW
  have hA : DataW.TrodAll enc Try.prog W 0 (fun _ => true) true Try.f5.params.toList args.toList ds p := hA0
  rw [Try.params5] at hA hval
  obtain ⟨v0, vs0, d0, ds0, p0, q0, hargs, rfl, rfl, h0, r0⟩ := trodAll_cons hA
  obtain ⟨v1, vs1, d1, ds1, p1, q1, rfl, rfl, rfl, h1, r1⟩ := trodAll_cons r0
  obtain ⟨v2, vs2, d2, ds2, p2, q2, rfl, rfl, rfl, h2, r2⟩ := trodAll_cons r1
  obtain ⟨rfl, rfl, rfl⟩ := trodAll_nil r2
  obtain rfl : args = #[v0, v1, v2] := by cases args; simp_all
  obtain ⟨rfl, rfl⟩ := trodVars_none hV
  have hz0' : ∀ m ∈ d0.weights Try.prog 26, m ≤ reachBytes := fun m hm => by simpa using List.all_eq_true.1 hz0 m (DataW.weights_mem_each (j := 0) (by rw [Try.params5]; rfl) rfl m hm)
  have hz1' : ∀ m ∈ d1.weights Try.prog 3, m ≤ reachBytes := fun m hm => by simpa using List.all_eq_true.1 hz0 m (DataW.weights_mem_each (j := 1) (by rw [Try.params5]; rfl) rfl m hm)
  have hz2' : ∀ m ∈ d2.weights Try.prog 3, m ≤ reachBytes := fun m hm => by simpa using List.all_eq_true.1 hz0 m (DataW.weights_mem_each (j := 2) (by rw [Try.params5]; rfl) rfl m hm)
  have k0 := h0
  have lt0 : ∀ x ∈ p0, x.block < W.heap.size := by obtain ⟨m, hm⟩ := k0; exact DataW.trod_lt m _ _ _ hm
  obtain ⟨c0, n0, rfl, g0, s0⟩ := open_node (hval 0 26 v0 rfl rfl) h0 hz0'
  obtain ⟨a1, rfl, rfl, rfl, w1⟩ := open_int Try.underlying3 (hval 1 3 v1 rfl rfl) h1
  obtain ⟨a2, rfl, rfl, rfl, w2⟩ := open_int Try.underlying3 (hval 2 3 v2 rfl rfl) h2
  clear hA0 hval0
  refine (walk c0 n0 a1 a2 W g0 s0).mono fun e W' ⟨he, bel⟩ => ?_
  subst he
  exact ⟨_, rfl, _, _, _, [], _, [], hW', trodAll_mk1 (shut_bool Try.underlying4 _), (trodAll_cons_mk (Below.trod laidOutP (by kernel_rfl) (of_decide_eq_true (by kernel_rfl)) k0 bel lt0) (trodAll_cons_mk (shut_int Try.underlying3 w1) (trodAll_cons_mk (shut_int Try.underlying3 w2) trodAll_mk0))), rfl, bel.frame _, fun h => by cases h⟩
theorem over : Rows.TreeTurnedSaid :=
  OpenClaim.holds_of_wide 5 Try.f5 rfl rfl rfl rfl rfl rfl rfl ⟨rfl, rfl, rfl, rfl, rfl⟩ rfl rfl rfl rfl rfl (by kernel_rfl) Try.func5 (by kernel_rfl)
    (of_decide_eq_true (by kernel_rfl)) (by unfold Func.isWrapper; first | (rw [if_pos (by decide +kernel)]; kernel_rfl) | (rw [if_neg (by decide +kernel)]; exact ⟨rfl, rfl⟩))
    (fun os started H enc _ => lifted os started H enc)
/-- THE STATEMENT. -/
theorem proved : Rows.TreeTurnedSaid := over
#print axioms proved
end Go.Proofs.Ytkdaombcbcegfaa.treeTurned
