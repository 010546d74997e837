/-
  FlatRows, a case of its walk.
-/
import Derived.Test.YtnmpapmjkihfcaaDoorFlatRowsM
set_option linter.all false
namespace Go.Proofs.YtnmpapmjkihfcaaDoor.flatRows
open Go.ChangeShapes Go.WideShapes Go.ChangeAt Go.RowKit Go.PlainAid Go.Proofs.YtnmpapmjkihfcaaDoor

set_option maxRecDepth 100000 in
set_option maxHeartbeats 4000000 in
theorem coreFT (b1 b2 : Bool) (hb1 : b1 = false) (hb2 : b2 = true) (d d' : Dc) (c c' : List Value) (w : World) (g : DcAt w c d) (g' : DcAt w c' d') (htb : Tabs w) (hf : fwD d = true) (hf' : fwD d' = true) (hr : drt d = true) (hr' : drt d' = true) (e1 : dfrc d = b1) (e2 : dfrc d' = b2) :
    Calls Tryd.prog 5 #[.agg c.toArray, .agg c'.toArray] w fun e w' => e = .returned (.bool true) ∧ Below w.heap.size w w' := by
  obtain ⟨o1, o2⟩ := fwD_ok hf
  obtain ⟨o1', o2'⟩ := fwD_ok hf'
  have o3 := dtz_mono (show 100 ≤ 1048576 by omega) _ o2
  have o3' := dtz_mono (show 100 ≤ 1048576 by omega) _ o2'
  obtain ⟨k, n, t, lv, rfl⟩ : ∃ k n t lv, c = [.int .i64 k, .int .i64 n, .string t, lv] := by
    cases d with
    | mk k n t l => obtain ⟨lv, cs, rfl, -⟩ := g.inv; exact ⟨_, _, _, _, rfl⟩
  obtain ⟨k', n', t', lv', rfl⟩ : ∃ k n t lv, c' = [.int .i64 k, .int .i64 n, .string t, lv] := by
    cases d' with
    | mk k n t l => obtain ⟨lv, cs, rfl, -⟩ := g'.inv; exact ⟨_, _, _, _, rfl⟩
  obtain ⟨Z, hZ⟩ : ∃ Z, Z = (w.alloc (.cells #[.int .i64 k, .int .i64 n, .string t, lv] 26)).alloc (.cells #[.int .i64 k', .int .i64 n', .string t', lv'] 26) := ⟨_, rfl⟩
  have hbW : Below w.heap.size w Z := by rw [hZ]; exact (below1 _ _).alloc (by simp) _
  have HB0 : Hid (Below Z.heap.size Z ((w.alloc (.cells #[.int .i64 k, .int .i64 n, .string t, lv] 26)).alloc (.cells #[.int .i64 k', .int .i64 n', .string t', lv'] 26))) := Lib.hid (by rw [← hZ]; exact Below.refl _ _)
  have UP := Lib.hid (fun W (h : Below Z.heap.size Z W) => hbW.trans (h.mono hbW.size))
  have CC := Lib.hid (fun W (hb : Below Z.heap.size Z W) => two_cells (by rw [hZ] at hb; exact hb))
  have HTZ : Hid (∀ W, Below Z.heap.size Z W → Tabs W) := Lib.hid fun W h => htb.below (UP.out W h)
  have GA : Hid (∀ W, Below Z.heap.size Z W → DcAt W [.int .i64 k, .int .i64 n, .string t, lv] d) := Lib.hid fun W h => g.bel (UP.out W h)
  have GB : Hid (∀ W, Below Z.heap.size Z W → DcAt W [.int .i64 k', .int .i64 n', .string t', lv'] d') := Lib.hid fun W h => g'.bel (UP.out W h)
  have HF0 : Hid (∀ W, Below Z.heap.size Z W → Calls Tryd.prog 13 #[.agg #[.int .i64 k, .int .i64 n, .string t, lv]] W fun e w' => e = .returned (.bool true) ∧ Below Z.heap.size Z w') := Lib.hid fun W hb => (fwD_any d _ W (GA.out W hb)).mono fun e w' ⟨h1, h2⟩ => ⟨by rw [h1, hf], hb.trans (h2.mono hb.size)⟩
  have HF0' : Hid (∀ W, Below Z.heap.size Z W → Calls Tryd.prog 13 #[.agg #[.int .i64 k', .int .i64 n', .string t', lv']] W fun e w' => e = .returned (.bool true) ∧ Below Z.heap.size Z w') := Lib.hid fun W hb => (fwD_any d' _ W (GB.out W hb)).mono fun e w' ⟨h1, h2⟩ => ⟨by rw [h1, hf'], hb.trans (h2.mono hb.size)⟩
  have HM0 : Hid (∀ W, Below Z.heap.size Z W → Calls Tryd.prog 14 #[.agg #[.int .i64 k, .int .i64 n, .string t, lv]] W fun e w' => e = .returned (.bool true) ∧ Below Z.heap.size Z w') := Lib.hid fun W hb => (rdmay_any d (by omega) o3 _ W (GA.out W hb)).mono fun e w' ⟨h1, h2⟩ => ⟨by rw [h1, hr], hb.trans (h2.mono hb.size)⟩
  have HM0' : Hid (∀ W, Below Z.heap.size Z W → Calls Tryd.prog 14 #[.agg #[.int .i64 k', .int .i64 n', .string t', lv']] W fun e w' => e = .returned (.bool true) ∧ Below Z.heap.size Z w') := Lib.hid fun W hb => (rdmay_any d' (by omega) o3' _ W (GB.out W hb)).mono fun e w' ⟨h1, h2⟩ => ⟨by rw [h1, hr'], hb.trans (h2.mono hb.size)⟩
  have HT : Hid (∀ W, Below Z.heap.size Z W → Calls Tryd.prog 12 #[] W fun e w' => e = .returned (.bool true) ∧ Below Z.heap.size Z w' ∧ Hid (Below W.heap.size W w')) := Lib.hid fun W hb => (told16_any W (HTZ.out W hb)).mono fun e w' ⟨h1, h2⟩ => ⟨h1, hb.trans (h2.mono hb.size), Lib.hid h2⟩
  -- what is asked of any document
  have HPF : Hid (∀ x b S c W, dcnt x ≤ 5000 → dtz 1048576 x → dfrc x = b → ctx (lvs x) = S → DcAt W c x → Below Z.heap.size Z W → Calls Tryd.prog 15 #[.agg c.toArray] W fun e w' => e = .returned (.tuple #[.string (if b = true then ⟨#[]⟩ else S), .bool (!b)]) ∧ Below Z.heap.size Z w' ∧ Hid (Below W.heap.size W w')) := Lib.hid fun x b S c W hx hz hb hS hd h => (pfflat_any x (by omega) hz c W hd).mono fun e w' ⟨h1, h2⟩ => ⟨by rw [h1, hb, hS], h.trans (h2.mono h.size), Lib.hid h2⟩
  have HPW : Hid (∀ x (M : Nat) c W, dcnt x ≤ 5000 → dtz 1048576 x → wsum (lvs x) = M → DcAt W c x → Below Z.heap.size Z W → Calls Tryd.prog 17 #[.agg c.toArray] W fun e w' => e = .returned (.int .i64 (M : Int)) ∧ Below Z.heap.size Z w' ∧ Hid (Below W.heap.size W w')) := Lib.hid fun x M c W hx hz hM hd h => (pfwidth_any x (by omega) hz c W hd (HTZ.out W h)).mono fun e w' ⟨h1, h2⟩ => ⟨by rw [h1, hM], h.trans (h2.mono h.size), Lib.hid h2⟩
  obtain ⟨S, hS⟩ : ∃ S, S = ctx (lvs d) := ⟨_, rfl⟩
  obtain ⟨S', hS'⟩ : ∃ S, S = ctx (lvs d') := ⟨_, rfl⟩
  obtain ⟨M, hM⟩ : ∃ M, M = wsum (lvs d) := ⟨_, rfl⟩
  obtain ⟨M', hM'⟩ : ∃ M, M = wsum (lvs d') := ⟨_, rfl⟩
  obtain ⟨F, hF⟩ : ∃ F, F = fsum (lvsL [d, d']) := ⟨_, rfl⟩
  have hMb : M ≤ 500 * 1048576 := by
    have h1 := wsum_le (lvs d) (fun x hx => wrt_sz (lvs_sz d o3 x hx))
    have h2 := lvs_len d
    have h3 : (lvs d).length * 1048576 ≤ 500 * 1048576 := Nat.mul_le_mul_right _ (by omega)
    omega
  have hMb' : M' ≤ 500 * 1048576 := by
    have h1 := wsum_le (lvs d') (fun x hx => wrt_sz (lvs_sz d' o3' x hx))
    have h2 := lvs_len d'
    have h3 : (lvs d').length * 1048576 ≤ 500 * 1048576 := Nat.mul_le_mul_right _ (by omega)
    omega
  have hSb : S.size ≤ 500 * 1048576 := by
    have h1 := ctx_le (lvs d) (fun x hx => wrt_sz (lvs_sz d o3 x hx))
    have h2 := lvs_len d
    have h3 : (lvs d).length * 1048576 ≤ 500 * 1048576 := Nat.mul_le_mul_right _ (by omega)
    rw [hS]; exact Nat.le_trans h1 h3
  have hSb' : S'.size ≤ 500 * 1048576 := by
    have h1 := ctx_le (lvs d') (fun x hx => wrt_sz (lvs_sz d' o3' x hx))
    have h2 := lvs_len d'
    have h3 : (lvs d').length * 1048576 ≤ 500 * 1048576 := Nat.mul_le_mul_right _ (by omega)
    rw [hS']; exact Nat.le_trans h1 h3
  have HFA : Hid (∀ W, Below Z.heap.size Z W → Calls Tryd.prog 15 #[.agg #[.int .i64 k, .int .i64 n, .string t, lv]] W fun e w' => e = .returned (.tuple #[.string (if b1 = true then ⟨#[]⟩ else S), .bool (!b1)]) ∧ Below Z.heap.size Z w' ∧ Hid (Below W.heap.size W w')) := Lib.hid fun W h => HPF.out d b1 S _ W (by omega) o3 e1 hS.symm (GA.out W h) h
  have HFB : Hid (∀ W, Below Z.heap.size Z W → Calls Tryd.prog 15 #[.agg #[.int .i64 k', .int .i64 n', .string t', lv']] W fun e w' => e = .returned (.tuple #[.string (if b2 = true then ⟨#[]⟩ else S'), .bool (!b2)]) ∧ Below Z.heap.size Z w' ∧ Hid (Below W.heap.size W w')) := Lib.hid fun W h => HPF.out d' b2 S' _ W (by omega) o3' e2 hS'.symm (GB.out W h) h
  have HWA : Hid (∀ W, Below Z.heap.size Z W → Calls Tryd.prog 17 #[.agg #[.int .i64 k, .int .i64 n, .string t, lv]] W fun e w' => e = .returned (.int .i64 (M : Int)) ∧ Below Z.heap.size Z w' ∧ Hid (Below W.heap.size W w')) := Lib.hid fun W h => HPW.out d M _ W (by omega) o3 hM.symm (GA.out W h) h
  have HWB : Hid (∀ W, Below Z.heap.size Z W → Calls Tryd.prog 17 #[.agg #[.int .i64 k', .int .i64 n', .string t', lv']] W fun e w' => e = .returned (.int .i64 (M' : Int)) ∧ Below Z.heap.size Z w' ∧ Hid (Below W.heap.size W w')) := Lib.hid fun W h => HPW.out d' M' _ W (by omega) o3' hM'.symm (GB.out W h) h
  -- the row, the nest
  have zR : dtz 1048576 (.mk 5 0 ⟨#[]⟩ [d, d']) := ⟨by show (0 : Nat) ≤ 1048576; omega, o3, o3', trivial⟩
  have zN : dtz 1048576 (.mk 6 9 ⟨#[]⟩ [d]) := ⟨by show (0 : Nat) ≤ 1048576; omega, o3, trivial⟩
  have lR : lvs (.mk 5 0 ⟨#[]⟩ [d, d']) = lvs d ++ lvs d' := by rw [lvs_other (by decide)]; simp [lvsL]
  have lN : lvs (.mk 6 9 ⟨#[]⟩ [d]) = lvs d := by rw [lvs_other (by decide)]; simp [lvsL]
  have nR : dcnt (.mk 5 0 ⟨#[]⟩ [d, d']) ≤ 5000 := by simp only [dcnt, dcntL]; omega
  have nN : dcnt (.mk 6 9 ⟨#[]⟩ [d]) ≤ 5000 := by simp only [dcnt, dcntL]; omega
  have HFR : Hid (∀ W v, DcAt W [.int .i64 5, .int .i64 0, .string ⟨#[]⟩, v] (.mk 5 0 ⟨#[]⟩ [d, d']) → Below Z.heap.size Z W → Calls Tryd.prog 15 #[.agg #[.int .i64 5, .int .i64 0, .string ⟨#[]⟩, v]] W fun e w' => e = .returned (.tuple #[.string (if (b1 || b2) = true then ⟨#[]⟩ else S ++ S'), .bool (!(b1 || b2))]) ∧ Below Z.heap.size Z w' ∧ Hid (Below W.heap.size W w')) := Lib.hid fun W v hd h => HPF.out (.mk 5 0 ⟨#[]⟩ [d, d']) (b1 || b2) (S ++ S') _ W nR zR (by simp [dfrc, dfrcL, dfr, e1, e2]) (by rw [lR, ctx_app, hS, hS']) hd h
  have HFN : Hid (∀ W v, DcAt W [.int .i64 6, .int .i64 9, .string ⟨#[]⟩, v] (.mk 6 9 ⟨#[]⟩ [d]) → Below Z.heap.size Z W → Calls Tryd.prog 15 #[.agg #[.int .i64 6, .int .i64 9, .string ⟨#[]⟩, v]] W fun e w' => e = .returned (.tuple #[.string (if b1 = true then ⟨#[]⟩ else S), .bool (!b1)]) ∧ Below Z.heap.size Z w' ∧ Hid (Below W.heap.size W w')) := Lib.hid fun W v hd h => HPF.out (.mk 6 9 ⟨#[]⟩ [d]) b1 S _ W nN zN (by simp [dfrc, dfrcL, dfr, e1]) (by rw [lN, hS]) hd h
  have HWR : Hid (∀ W v, DcAt W [.int .i64 5, .int .i64 0, .string ⟨#[]⟩, v] (.mk 5 0 ⟨#[]⟩ [d, d']) → Below Z.heap.size Z W → Calls Tryd.prog 17 #[.agg #[.int .i64 5, .int .i64 0, .string ⟨#[]⟩, v]] W fun e w' => e = .returned (.int .i64 ((M : Int) + (M' : Int))) ∧ Below Z.heap.size Z w' ∧ Hid (Below W.heap.size W w')) := Lib.hid fun W v hd h => by
    rw [show (M : Int) + (M' : Int) = ((M + M' : Nat) : Int) by omega]
    exact HPW.out (.mk 5 0 ⟨#[]⟩ [d, d']) (M + M') _ W nR zR (by rw [lR, wsum_app, hM, hM']) hd h
  have HWN : Hid (∀ W v, DcAt W [.int .i64 6, .int .i64 9, .string ⟨#[]⟩, v] (.mk 6 9 ⟨#[]⟩ [d]) → Below Z.heap.size Z W → Calls Tryd.prog 17 #[.agg #[.int .i64 6, .int .i64 9, .string ⟨#[]⟩, v]] W fun e w' => e = .returned (.int .i64 (M : Int)) ∧ Below Z.heap.size Z w' ∧ Hid (Below W.heap.size W w')) := Lib.hid fun W v hd h => HPW.out (.mk 6 9 ⟨#[]⟩ [d]) M _ W nN zN (by rw [lN, hM]) hd h
  have HI1 : Hid (∀ W g, W.heap[g]? = some (.cells #[.int .i64 k, .int .i64 n, .string t, lv, .int .i64 k', .int .i64 n', .string t', lv'] 26) → Below Z.heap.size Z W → Calls Tryd.prog 19 #[.slice (some ⟨g, 0, none⟩) 2 2] W fun e w' => e = .returned (.int .i64 (F : Int)) ∧ Below Z.heap.size Z w' ∧ Hid (Below W.heap.size W w')) := Lib.hid fun W g hg h => (pffirst_any [d, d'] (by simp only [dcntL]; omega) ⟨o3, o3', trivial⟩ _ W (rowTwo (lt_of_block hg) hg (GA.out W h) (GB.out W h)) (HTZ.out W h)).mono fun e w' ⟨h1, h2⟩ => ⟨by rw [h1, hF], h.trans (h2.mono h.size), Lib.hid h2⟩
  have HI2 : Hid (∀ W g v, W.heap[g]? = some (.cells #[.int .i64 5, .int .i64 0, .string ⟨#[]⟩, v] 26) → DcAt W [.int .i64 5, .int .i64 0, .string ⟨#[]⟩, v] (.mk 5 0 ⟨#[]⟩ [d, d']) → Below Z.heap.size Z W → Calls Tryd.prog 19 #[.slice (some ⟨g, 0, none⟩) 1 1] W fun e w' => e = .returned (.int .i64 (F : Int)) ∧ Below Z.heap.size Z w' ∧ Hid (Below W.heap.size W w')) := Lib.hid fun W g v hg hd h => (pffirst_any [.mk 5 0 ⟨#[]⟩ [d, d']] (by simp only [dcntL, dcnt]; omega) ⟨zR, trivial⟩ _ W (rowOne (lt_of_block hg) hg hd) (HTZ.out W h)).mono fun e w' ⟨h1, h2⟩ => ⟨by rw [h1, lvsL_one, lvs_other (show lfk 5 = false by decide), hF], h.trans (h2.mono h.size), Lib.hid h2⟩
  obtain ⟨⟨d0, d1, d2, d3⟩, ⟨f0, f1, f2, f3⟩⟩ := CC.out _ HB0.out
  clear g g' hf hf' hr hr' e1 e2 o1 o2 o1' o2' o3 o3' hS hS' hM hM' hF zR zN lR lN nR nN HPF HPW hZ hbW htb
  subst hb1; subst hb2
  all_goals
    simp only [Bool.or_true, Bool.or_false, Bool.not_true, Bool.not_false, if_true, Bool.false_eq_true, if_false] at HFA HFB HFR HFN
    go_enter Tryd.func5, Tryd.ntmps5
    go_wp2_with fail
    refine (HF0.out _ HB0.out).mono ?_
    rintro e w1 ⟨rfl, ht⟩
    have HB1 := Lib.hid ht
    clear ht d0 d1 d2 d3 f0 f1 f2 f3
    obtain ⟨⟨d0, d1, d2, d3⟩, ⟨f0, f1, f2, f3⟩⟩ := CC.out _ HB1.out
    go_wp2_with fail
    refine (HF0'.out _ HB1.out).mono ?_
    rintro e w2 ⟨rfl, ht⟩
    have HB2 := Lib.hid ht
    clear ht d0 d1 d2 d3 f0 f1 f2 f3
    obtain ⟨⟨d0, d1, d2, d3⟩, ⟨f0, f1, f2, f3⟩⟩ := CC.out _ HB2.out
    go_wp2_with fail
    refine (HM0.out _ HB2.out).mono ?_
    rintro e w3 ⟨rfl, ht⟩
    have HB3 := Lib.hid ht
    clear ht d0 d1 d2 d3 f0 f1 f2 f3
    obtain ⟨⟨d0, d1, d2, d3⟩, ⟨f0, f1, f2, f3⟩⟩ := CC.out _ HB3.out
    go_wp2_with fail
    refine (HM0'.out _ HB3.out).mono ?_
    rintro e w4 ⟨rfl, ht⟩
    have HB4 := Lib.hid ht
    clear ht d0 d1 d2 d3 f0 f1 f2 f3
    obtain ⟨⟨d0, d1, d2, d3⟩, ⟨f0, f1, f2, f3⟩⟩ := CC.out _ HB4.out
    go_wp2_with fail
    refine (HFA.out _ HB4.out).mono ?_
    rintro e w5 ⟨rfl, ht, -⟩
    have HB5 := Lib.hid ht
    clear ht d0 d1 d2 d3 f0 f1 f2 f3 HF0 HF0' HM0 HM0' HB0 HB1 HB2 HB3 HB4
    obtain ⟨⟨d0, d1, d2, d3⟩, ⟨f0, f1, f2, f3⟩⟩ := CC.out _ HB5.out
    go_wp2_with fail
    refine (HFB.out _ HB5.out).mono ?_
    rintro e w6 ⟨rfl, ht, -⟩
    have HB6 := Lib.hid ht
    clear ht d0 d1 d2 d3 f0 f1 f2 f3
    obtain ⟨⟨d0, d1, d2, d3⟩, ⟨f0, f1, f2, f3⟩⟩ := CC.out _ HB6.out
    go_wp2_with fail
    obtain ⟨xr, hxr⟩ : ∃ xr, xr = w6.heap.size + 1 := ⟨_, rfl⟩
    obtain ⟨W7, hW7⟩ : ∃ W7, W7 = (w6.alloc (.cells #[.int .i64 k, .int .i64 n, .string t, lv, .int .i64 k', .int .i64 n', .string t', lv'] 26)).alloc (.cells #[.int .i64 5, .int .i64 0, .string ⟨#[]⟩, .slice (some ⟨w6.heap.size, 0, none⟩) 2 2] 26) := ⟨_, rfl⟩
    have B67 : Below w6.heap.size w6 W7 := by rw [hW7]; exact (below1 _ _).alloc (by simp) _
    have HB7 : Hid (Below Z.heap.size Z W7) := Lib.hid (HB6.out.trans (B67.mono HB6.out.size))
    have hr7 : W7.heap[w6.heap.size]? = some (.cells #[.int .i64 k, .int .i64 n, .string t, lv, .int .i64 k', .int .i64 n', .string t', lv'] 26) := by rw [hW7]; exact m1
    have hx7 : W7.heap[xr]? = some (.cells #[.int .i64 5, .int .i64 0, .string ⟨#[]⟩, .slice (some ⟨w6.heap.size, 0, none⟩) 2 2] 26) := by rw [hW7]; exact m1' hxr
    have HDR : Hid (DcAt W7 [.int .i64 5, .int .i64 0, .string ⟨#[]⟩, .slice (some ⟨w6.heap.size, 0, none⟩) 2 2] (.mk 5 0 ⟨#[]⟩ [d, d'])) := Lib.hid ((rowTwo (P := fun g => g < W7.heap.size) (lt_of_block hr7) hr7 (GA.out _ HB7.out) (GB.out _ HB7.out)).dc9 5 0 ⟨#[]⟩)
    have HX7 := Lib.hid hx7
    rw [← hW7]
    try rw [← hxr]
    clear hW7 hr7 hx7 B67 hxr
    refine (HFR.out _ _ HDR.out HB7.out).mono ?_
    rintro e w8 ⟨rfl, ht, hk⟩
    have HB8 := Lib.hid ht
    have HX8 : Hid (w8.heap[xr]? = some (.cells #[.int .i64 5, .int .i64 0, .string ⟨#[]⟩, .slice (some ⟨w6.heap.size, 0, none⟩) 2 2] 26)) := Lib.hid ((hk.out.block _ (lt_of_block HX7.out)).trans HX7.out)
    have HDR8 := Lib.hid (HDR.out.bel hk.out)
    clear ht hk d0 d1 d2 d3 f0 f1 f2 f3 HX7 HDR HFA HFB HFR HB7
    obtain ⟨⟨d0, d1, d2, d3⟩, ⟨f0, f1, f2, f3⟩⟩ := CC.out _ HB8.out
    go_wp2_with fail
    obtain ⟨xn, hxn⟩ : ∃ xn, xn = w8.heap.size + 1 := ⟨_, rfl⟩
    obtain ⟨W9, hW9⟩ : ∃ W9, W9 = (w8.alloc (.cells #[.int .i64 k, .int .i64 n, .string t, lv] 26)).alloc (.cells #[.int .i64 6, .int .i64 9, .string ⟨#[]⟩, .slice (some ⟨w8.heap.size, 0, none⟩) 1 1] 26) := ⟨_, rfl⟩
    have B89 : Below w8.heap.size w8 W9 := by rw [hW9]; exact (below1 _ _).alloc (by simp) _
    have HB9 : Hid (Below Z.heap.size Z W9) := Lib.hid (HB8.out.trans (B89.mono HB8.out.size))
    have hr9 : W9.heap[w8.heap.size]? = some (.cells #[.int .i64 k, .int .i64 n, .string t, lv] 26) := by rw [hW9]; exact m1
    have hx9 : W9.heap[xn]? = some (.cells #[.int .i64 6, .int .i64 9, .string ⟨#[]⟩, .slice (some ⟨w8.heap.size, 0, none⟩) 1 1] 26) := by rw [hW9]; exact m1' hxn
    have HDN : Hid (DcAt W9 [.int .i64 6, .int .i64 9, .string ⟨#[]⟩, .slice (some ⟨w8.heap.size, 0, none⟩) 1 1] (.mk 6 9 ⟨#[]⟩ [d])) := Lib.hid ((rowOne (P := fun g => g < W9.heap.size) (lt_of_block hr9) hr9 (GA.out _ HB9.out)).dc9 6 9 ⟨#[]⟩)
    have HX9 := Lib.hid hx9
    have HR9 : Hid (W9.heap[xr]? = some (.cells #[.int .i64 5, .int .i64 0, .string ⟨#[]⟩, .slice (some ⟨w6.heap.size, 0, none⟩) 2 2] 26)) := Lib.hid ((B89.block _ (lt_of_block HX8.out)).trans HX8.out)
    have HDR9 := Lib.hid (HDR8.out.bel B89)
    rw [← hW9]
    try rw [← hxn]
    clear hW9 hr9 hx9 B89 hxn HX8 HDR8
    refine (HFN.out _ _ HDN.out HB9.out).mono ?_
    rintro e V ⟨rfl, ht, hk⟩
    have HBV := Lib.hid ht
    have hxv : V.heap[xr]? = some (.cells #[.int .i64 5, .int .i64 0, .string ⟨#[]⟩, .slice (some ⟨w6.heap.size, 0, none⟩) 2 2] 26) := (hk.out.block _ (lt_of_block HR9.out)).trans HR9.out
    have hnv : V.heap[xn]? = some (.cells #[.int .i64 6, .int .i64 9, .string ⟨#[]⟩, .slice (some ⟨w8.heap.size, 0, none⟩) 1 1] 26) := (hk.out.block _ (lt_of_block HX9.out)).trans HX9.out
    have HDRV := Lib.hid (HDR9.out.bel hk.out)
    have HDNV := Lib.hid (HDN.out.bel hk.out)
    have UV := Lib.hid (fun W (h : Below V.heap.size V W) => HBV.out.trans (h.mono HBV.out.size))
    obtain ⟨lr, hlr⟩ : ∃ lr, lr = Value.slice (some ⟨w6.heap.size, 0, none⟩) 2 2 := ⟨_, rfl⟩
    obtain ⟨ln, hln⟩ : ∃ ln, ln = Value.slice (some ⟨w8.heap.size, 0, none⟩) 1 1 := ⟨_, rfl⟩
    have CV := Lib.hid (fun W (hb : Below V.heap.size V W) => (⟨(CC.out W (UV.out W hb)).1, (CC.out W (UV.out W hb)).2, four_of0 ((hb.block _ (lt_of_block hxv)).trans hxv), four_of0 ((hb.block _ (lt_of_block hnv)).trans hnv), Lib.hid hb⟩ :
      (W.cell? ⟨w.heap.size, 0, none⟩ = some (.int .i64 k) ∧ W.cell? ⟨w.heap.size, 1, none⟩ = some (.int .i64 n) ∧ W.cell? ⟨w.heap.size, 2, none⟩ = some (.string t) ∧ W.cell? ⟨w.heap.size, 3, none⟩ = some lv) ∧
      (W.cell? ⟨w.heap.size + 1, 0, none⟩ = some (.int .i64 k') ∧ W.cell? ⟨w.heap.size + 1, 1, none⟩ = some (.int .i64 n') ∧ W.cell? ⟨w.heap.size + 1, 2, none⟩ = some (.string t') ∧ W.cell? ⟨w.heap.size + 1, 3, none⟩ = some lv') ∧
      (W.cell? ⟨xr, 0, none⟩ = some (.int .i64 5) ∧ W.cell? ⟨xr, 1, none⟩ = some (.int .i64 0) ∧ W.cell? ⟨xr, 2, none⟩ = some (.string ⟨#[]⟩) ∧ W.cell? ⟨xr, 3, none⟩ = some (.slice (some ⟨w6.heap.size, 0, none⟩) 2 2)) ∧
      (W.cell? ⟨xn, 0, none⟩ = some (.int .i64 6) ∧ W.cell? ⟨xn, 1, none⟩ = some (.int .i64 9) ∧ W.cell? ⟨xn, 2, none⟩ = some (.string ⟨#[]⟩) ∧ W.cell? ⟨xn, 3, none⟩ = some (.slice (some ⟨w8.heap.size, 0, none⟩) 1 1)) ∧ Hid (Below V.heap.size V W)))
    have RT : Hid (∀ W, Below V.heap.size V W → Calls Tryd.prog 12 #[] W fun e w' => e = .returned (.bool true) ∧ Below V.heap.size V w' ∧ Hid (Below W.heap.size W w')) := Lib.hid fun W h => (HT.out W (UV.out W h)).mono fun e w' ⟨h1, _, h2⟩ => ⟨h1, h.trans (h2.out.mono h.size), h2⟩
    have RA : Hid (∀ W, Below V.heap.size V W → Calls Tryd.prog 17 #[.agg #[.int .i64 k, .int .i64 n, .string t, lv]] W fun e w' => e = .returned (.int .i64 (M : Int)) ∧ Below V.heap.size V w' ∧ Hid (Below W.heap.size W w')) := Lib.hid fun W h => (HWA.out W (UV.out W h)).mono fun e w' ⟨h1, _, h2⟩ => ⟨h1, h.trans (h2.out.mono h.size), h2⟩
    have RB : Hid (∀ W, Below V.heap.size V W → Calls Tryd.prog 17 #[.agg #[.int .i64 k', .int .i64 n', .string t', lv']] W fun e w' => e = .returned (.int .i64 (M' : Int)) ∧ Below V.heap.size V w' ∧ Hid (Below W.heap.size W w')) := Lib.hid fun W h => (HWB.out W (UV.out W h)).mono fun e w' ⟨h1, _, h2⟩ => ⟨h1, h.trans (h2.out.mono h.size), h2⟩
    have RR : Hid (∀ W, Below V.heap.size V W → Calls Tryd.prog 17 #[.agg #[.int .i64 5, .int .i64 0, .string ⟨#[]⟩, .slice (some ⟨w6.heap.size, 0, none⟩) 2 2]] W fun e w' => e = .returned (.int .i64 ((M : Int) + (M' : Int))) ∧ Below V.heap.size V w' ∧ Hid (Below W.heap.size W w')) := Lib.hid fun W h => (HWR.out W _ (HDRV.out.bel h) (UV.out W h)).mono fun e w' ⟨h1, _, h2⟩ => ⟨h1, h.trans (h2.out.mono h.size), h2⟩
    have RN : Hid (∀ W, Below V.heap.size V W → Calls Tryd.prog 17 #[.agg #[.int .i64 6, .int .i64 9, .string ⟨#[]⟩, .slice (some ⟨w8.heap.size, 0, none⟩) 1 1]] W fun e w' => e = .returned (.int .i64 (M : Int)) ∧ Below V.heap.size V w' ∧ Hid (Below W.heap.size W w')) := Lib.hid fun W h => (HWN.out W _ (HDNV.out.bel h) (UV.out W h)).mono fun e w' ⟨h1, _, h2⟩ => ⟨h1, h.trans (h2.out.mono h.size), h2⟩
    have R1 : Hid (∀ W g, W.heap[g]? = some (.cells #[.int .i64 k, .int .i64 n, .string t, lv, .int .i64 k', .int .i64 n', .string t', lv'] 26) → Below V.heap.size V W → Calls Tryd.prog 19 #[.slice (some ⟨g, 0, none⟩) 2 2] W fun e w' => e = .returned (.int .i64 (F : Int)) ∧ Below V.heap.size V w' ∧ Hid (Below W.heap.size W w')) := Lib.hid fun W g hg h => (HI1.out W g hg (UV.out W h)).mono fun e w' ⟨h1, _, h2⟩ => ⟨h1, h.trans (h2.out.mono h.size), h2⟩
    have R2 : Hid (∀ W g, W.heap[g]? = some (.cells #[.int .i64 5, .int .i64 0, .string ⟨#[]⟩, .slice (some ⟨w6.heap.size, 0, none⟩) 2 2] 26) → Below V.heap.size V W → Calls Tryd.prog 19 #[.slice (some ⟨g, 0, none⟩) 1 1] W fun e w' => e = .returned (.int .i64 (F : Int)) ∧ Below V.heap.size V w' ∧ Hid (Below W.heap.size W w')) := Lib.hid fun W g hg h => (HI2.out W g _ hg (HDRV.out.bel h) (UV.out W h)).mono fun e w' ⟨h1, _, h2⟩ => ⟨h1, h.trans (h2.out.mono h.size), h2⟩
    have UW := Lib.hid (fun W (hb : Below V.heap.size V W) => UP.out W (UV.out W hb))
    have HBr : Hid (Below V.heap.size V V) := Lib.hid (Below.refl _ _)
    have HBd : Hid (Below V.heap.size V V.drew) := Lib.hid (Below.drew (Below.refl _ _))
    have qS : (S.toList == S.toList) = true := beq_self_eq_true _
    have qT : ((S ++ S').toList == (S ++ S').toList) = true := beq_self_eq_true _
    have qM : ((M : Int) == (M : Int)) = true := beq_self_eq_true _
    have qN : ((M : Int) + (M' : Int) == (M : Int) + (M' : Int)) = true := beq_self_eq_true _
    have qF : ((F : Int) == (F : Int)) = true := beq_self_eq_true _
    have hw : IntKind.i64.wrap ((M : Int) + (M' : Int)) = (M : Int) + (M' : Int) := by rw [IntKind.wrap_i64]; omega
    have hs2 : ¬ 9223372036854775807 < S.size + S'.size := by omega
    have hso : ∀ w, (Op.stringOp .add S S').run Tryd.prog w = .ok (.string (S ++ S')) w := fun w => run_string_add_sum (P := Tryd.prog) (w := w) S S' (by omega)
    have hs3 : ¬ (9223372036854775807 : Int) < (S.size : Int) + (S'.size : Int) := by omega
    clear ht hk d0 d1 d2 d3 f0 f1 f2 f3 hxv hnv HX9 HR9 HDR9 HDN HFN HWA HWB HWR HWN HI1 HI2 HT HDRV HDNV UV GA GB UP CC HTZ HB5 HB6 HB8 HB9 hlr hln lr ln
    obtain ⟨⟨d0, d1, d2, d3⟩, ⟨f0, f1, f2, f3⟩, ⟨x0, x1, x2, x3⟩, ⟨y0, y1, y2, y3⟩, -⟩ := CV.out _ HBr.out
    go_wp2_with fail
    refine wp_region_noPanic ?_
    refine wp_region_held_drew (S := (fun W => (W.cell? ⟨w.heap.size, 0, none⟩ = some (.int .i64 k) ∧ W.cell? ⟨w.heap.size, 1, none⟩ = some (.int .i64 n) ∧ W.cell? ⟨w.heap.size, 2, none⟩ = some (.string t) ∧ W.cell? ⟨w.heap.size, 3, none⟩ = some lv) ∧
      (W.cell? ⟨w.heap.size + 1, 0, none⟩ = some (.int .i64 k') ∧ W.cell? ⟨w.heap.size + 1, 1, none⟩ = some (.int .i64 n') ∧ W.cell? ⟨w.heap.size + 1, 2, none⟩ = some (.string t') ∧ W.cell? ⟨w.heap.size + 1, 3, none⟩ = some lv') ∧
      (W.cell? ⟨xr, 0, none⟩ = some (.int .i64 5) ∧ W.cell? ⟨xr, 1, none⟩ = some (.int .i64 0) ∧ W.cell? ⟨xr, 2, none⟩ = some (.string ⟨#[]⟩) ∧ W.cell? ⟨xr, 3, none⟩ = some (.slice (some ⟨w6.heap.size, 0, none⟩) 2 2)) ∧
      (W.cell? ⟨xn, 0, none⟩ = some (.int .i64 6) ∧ W.cell? ⟨xn, 1, none⟩ = some (.int .i64 9) ∧ W.cell? ⟨xn, 2, none⟩ = some (.string ⟨#[]⟩) ∧ W.cell? ⟨xn, 3, none⟩ = some (.slice (some ⟨w8.heap.size, 0, none⟩) 1 1)) ∧ Hid (Below V.heap.size V W))) (by kernel_rfl) (by (try dsimp only); (first | exact CV.out _ ht | exact CV.out _ (ht.alloc ht.size _) | exact CV.out _ ((ht.alloc ht.size _).alloc (by have := ht.size; simp; omega) _) | exact CV.out _ HBd.out)) (fun hHeld => ?_)
    refine wpAnyH_ready (rs := [0]) (by kernel_rfl) (by simp) ?_
    refine (AllReadyH.cons rfl (fun K hK => ?_) AllReadyH.nil)
    go_simp
    try (first
      | (go_at_call 12; refine (RT.out _ HBd.out).mono ?_; rintro e w20 ⟨rfl, ht, hk⟩)
      | (go_at_call 17; (first | with_reducible refine (RA.out _ ht).mono ?_ | with_reducible refine (RB.out _ ht).mono ?_ | with_reducible refine (RR.out _ ht).mono ?_ | with_reducible refine (RN.out _ ht).mono ?_); rintro e w21 ⟨rfl, ht, hk⟩)
      | (go_at_call 19; (first | with_reducible refine (R1.out _ _ ?_ ?_).mono ?_ | with_reducible refine (R2.out _ _ ?_ ?_).mono ?_); (first | exact m0 | exact m1 | exact m1' rfl | exact m2 (by assumption) | exact m3 (by assumption) | exact m4 (by assumption) rfl | exact m5 (by assumption)); (first | exact ht | exact ht.alloc ht.size _ | exact (ht.alloc ht.size _).alloc (by have := ht.size; simp; omega) _); rintro e w22 ⟨rfl, ht, hk⟩))
    refine hK.out _ _ (by (try dsimp only); (first | exact CV.out _ ht | exact CV.out _ (ht.alloc ht.size _) | exact CV.out _ ((ht.alloc ht.size _).alloc (by have := ht.size; simp; omega) _) | exact CV.out _ HBd.out)) (fun hHeld => ?_)
    clear hK K
    try simp only [Act.put, List.setIfInBounds_toArray, List.set_cons_zero, List.set_cons_succ, List.getElem_toArray, List.getElem_cons_zero, List.getElem_cons_succ]
    refine wpAnyH_take (i := 1) (v := ?_) rfl (by kernel_rfl) (by kernel_rfl) (by kernel_rfl) (fun _ _ _ h => h) (Or.inl ⟨by rfl, ?_⟩) (by assumption) ?_
    rotate_left 1
    · (intro w' hSw; (try dsimp only at hSw); go_simp; (first | done | with_reducible rfl))
    try simp only [Act.put, List.setIfInBounds_toArray, List.set_cons_zero, List.set_cons_succ, List.getElem_toArray, List.getElem_cons_zero, List.getElem_cons_succ]
    refine wpAnyH_take (i := 2) (v := ?_) rfl (by kernel_rfl) (by kernel_rfl) (by kernel_rfl) (fun _ _ _ h => h) (Or.inl ⟨by rfl, ?_⟩) (by assumption) ?_
    rotate_left 1
    · (intro w' hSw; (try dsimp only at hSw); go_simp; (first | done | with_reducible rfl))
    try simp only [Act.put, List.setIfInBounds_toArray, List.set_cons_zero, List.set_cons_succ, List.getElem_toArray, List.getElem_cons_zero, List.getElem_cons_succ]
    refine wpAnyH_take (i := 3) (v := ?_) rfl (by kernel_rfl) (by kernel_rfl) (by kernel_rfl) (fun _ _ _ h => h) (Or.inl ⟨by rfl, ?_⟩) (by assumption) ?_
    rotate_left 1
    · (intro w' hSw; (try dsimp only at hSw); go_simp; (first | done | with_reducible rfl))
    try simp only [Act.put, List.setIfInBounds_toArray, List.set_cons_zero, List.set_cons_succ, List.getElem_toArray, List.getElem_cons_zero, List.getElem_cons_succ]
    refine wpAnyH_take (i := 4) (v := ?_) rfl (by kernel_rfl) (by kernel_rfl) (by kernel_rfl) (fun _ _ _ h => h) (Or.inl ⟨by rfl, ?_⟩) (by assumption) ?_
    rotate_left 1
    · (intro w' hSw; (try dsimp only at hSw); go_simp; (first | done | with_reducible rfl))
    try simp only [Act.put, List.setIfInBounds_toArray, List.set_cons_zero, List.set_cons_succ, List.getElem_toArray, List.getElem_cons_zero, List.getElem_cons_succ]
    refine wpAnyH_take (i := 5) (v := ?_) rfl (by kernel_rfl) (by kernel_rfl) (by kernel_rfl) (fun _ _ _ h => h) (Or.inl ⟨by rfl, ?_⟩) (by assumption) ?_
    rotate_left 1
    · (intro w' hSw; (try dsimp only at hSw); go_simp; (first | done | with_reducible rfl))
    try simp only [Act.put, List.setIfInBounds_toArray, List.set_cons_zero, List.set_cons_succ, List.getElem_toArray, List.getElem_cons_zero, List.getElem_cons_succ]
    refine wpAnyH_take (i := 6) (v := ?_) rfl (by kernel_rfl) (by kernel_rfl) (by kernel_rfl) (fun _ _ _ h => h) (Or.inl ⟨by rfl, ?_⟩) (by assumption) ?_
    rotate_left 1
    · (intro w' hSw; (try dsimp only at hSw); go_simp; (first | done | with_reducible rfl))
    try simp only [Act.put, List.setIfInBounds_toArray, List.set_cons_zero, List.set_cons_succ, List.getElem_toArray, List.getElem_cons_zero, List.getElem_cons_succ]
    refine wpAnyH_take (i := 7) (v := ?_) rfl (by kernel_rfl) (by kernel_rfl) (by kernel_rfl) (fun _ _ _ h => h) (Or.inl ⟨by rfl, ?_⟩) (by assumption) ?_
    rotate_left 1
    · (intro w' hSw; (try dsimp only at hSw); go_simp; (first | done | with_reducible rfl))
    try simp only [Act.put, List.setIfInBounds_toArray, List.set_cons_zero, List.set_cons_succ, List.getElem_toArray, List.getElem_cons_zero, List.getElem_cons_succ]
    refine wpAnyH_take (i := 8) (v := ?_) rfl (by kernel_rfl) (by kernel_rfl) (by kernel_rfl) (fun _ _ _ h => h) (Or.inl ⟨by rfl, ?_⟩) (by assumption) ?_
    rotate_left 1
    · (intro w' hSw; (try dsimp only at hSw); go_simp; (first | done | with_reducible rfl))
    try simp only [Act.put, List.setIfInBounds_toArray, List.set_cons_zero, List.set_cons_succ, List.getElem_toArray, List.getElem_cons_zero, List.getElem_cons_succ]
    refine wpAnyH_take (i := 9) (v := ?_) rfl (by kernel_rfl) (by kernel_rfl) (by kernel_rfl) (fun _ _ _ h => h) (Or.inl ⟨by rfl, ?_⟩) (by assumption) ?_
    rotate_left 1
    · (intro w' hSw; (try dsimp only at hSw); go_simp; (first | done | with_reducible rfl))
    try simp only [Act.put, List.setIfInBounds_toArray, List.set_cons_zero, List.set_cons_succ, List.getElem_toArray, List.getElem_cons_zero, List.getElem_cons_succ]
    refine wpAnyH_take (i := 10) (v := ?_) rfl (by kernel_rfl) (by kernel_rfl) (by kernel_rfl) (fun _ _ _ h => h) (Or.inl ⟨by rfl, ?_⟩) (by assumption) ?_
    rotate_left 1
    · (intro w' hSw; (try dsimp only at hSw); go_simp; (first | done | with_reducible rfl))
    try simp only [Act.put, List.setIfInBounds_toArray, List.set_cons_zero, List.set_cons_succ, List.getElem_toArray, List.getElem_cons_zero, List.getElem_cons_succ]
    refine wpAnyH_take (i := 11) (v := ?_) rfl (by kernel_rfl) (by kernel_rfl) (by kernel_rfl) (fun _ _ _ h => h) (Or.inl ⟨by rfl, ?_⟩) (by assumption) ?_
    rotate_left 1
    · (intro w' hSw; (try dsimp only at hSw); go_simp; (first | done | with_reducible rfl))
    try simp only [Act.put, List.setIfInBounds_toArray, List.set_cons_zero, List.set_cons_succ, List.getElem_toArray, List.getElem_cons_zero, List.getElem_cons_succ]
    refine wpAnyH_take (i := 12) (v := ?_) rfl (by kernel_rfl) (by kernel_rfl) (by kernel_rfl) (fun _ _ _ h => h) (Or.inl ⟨by rfl, ?_⟩) (by assumption) ?_
    rotate_left 1
    · (intro w' hSw; (try dsimp only at hSw); go_simp; (first | done | with_reducible rfl))
    try simp only [Act.put, List.setIfInBounds_toArray, List.set_cons_zero, List.set_cons_succ, List.getElem_toArray, List.getElem_cons_zero, List.getElem_cons_succ]
    refine wpAnyH_take (i := 13) (v := undef) rfl (by kernel_rfl) (by kernel_rfl) (by kernel_rfl) (fun _ _ _ h => h) (Or.inr ⟨by rfl, rfl⟩) (by assumption) ?_
    try simp only [Act.put, List.setIfInBounds_toArray, List.set_cons_zero, List.set_cons_succ, List.getElem_toArray, List.getElem_cons_zero, List.getElem_cons_succ]
    refine wpAnyH_take (i := 14) (v := undef) rfl (by kernel_rfl) (by kernel_rfl) (by kernel_rfl) (fun _ _ _ h => h) (Or.inr ⟨by rfl, rfl⟩) (by assumption) ?_
    try simp only [Act.put, List.setIfInBounds_toArray, List.set_cons_zero, List.set_cons_succ, List.getElem_toArray, List.getElem_cons_zero, List.getElem_cons_succ]
    refine wpAnyH_take (i := 15) (v := undef) rfl (by kernel_rfl) (by kernel_rfl) (by kernel_rfl) (fun _ _ _ h => h) (Or.inr ⟨by rfl, rfl⟩) (by assumption) ?_
    try simp only [Act.put, List.setIfInBounds_toArray, List.set_cons_zero, List.set_cons_succ, List.getElem_toArray, List.getElem_cons_zero, List.getElem_cons_succ]
    refine wpAnyH_take (i := 16) (v := undef) rfl (by kernel_rfl) (by kernel_rfl) (by kernel_rfl) (fun _ _ _ h => h) (Or.inr ⟨by rfl, rfl⟩) (by assumption) ?_
    try simp only [Act.put, List.setIfInBounds_toArray, List.set_cons_zero, List.set_cons_succ, List.getElem_toArray, List.getElem_cons_zero, List.getElem_cons_succ]
    refine wpAnyH_take (i := 17) (v := undef) rfl (by kernel_rfl) (by kernel_rfl) (by kernel_rfl) (fun _ _ _ h => h) (Or.inr ⟨by rfl, rfl⟩) (by assumption) ?_
    try simp only [Act.put, List.setIfInBounds_toArray, List.set_cons_zero, List.set_cons_succ, List.getElem_toArray, List.getElem_cons_zero, List.getElem_cons_succ]
    refine wpAnyH_take (i := 18) (v := ?_) rfl (by kernel_rfl) (by kernel_rfl) (by kernel_rfl) (fun _ _ _ h => h) (Or.inl ⟨by rfl, ?_⟩) (by assumption) ?_
    rotate_left 1
    · (intro w' hSw; (try dsimp only at hSw); go_simp; (first | done | with_reducible rfl))
    try simp only [Act.put, List.setIfInBounds_toArray, List.set_cons_zero, List.set_cons_succ, List.getElem_toArray, List.getElem_cons_zero, List.getElem_cons_succ]
    refine wpAnyH_take (i := 19) (v := ?_) rfl (by kernel_rfl) (by kernel_rfl) (by kernel_rfl) (fun _ _ _ h => h) (Or.inl ⟨by rfl, ?_⟩) (by assumption) ?_
    rotate_left 1
    · (intro w' hSw; (try dsimp only at hSw); go_simp; (first | done | with_reducible rfl))
    try simp only [Act.put, List.setIfInBounds_toArray, List.set_cons_zero, List.set_cons_succ, List.getElem_toArray, List.getElem_cons_zero, List.getElem_cons_succ]
    refine wpAnyH_take (i := 20) (v := ?_) rfl (by kernel_rfl) (by kernel_rfl) (by kernel_rfl) (fun _ _ _ h => h) (Or.inl ⟨by rfl, ?_⟩) (by assumption) ?_
    rotate_left 1
    · (intro w' hSw; (try dsimp only at hSw); go_simp; (first | done | with_reducible rfl))
    try simp only [Act.put, List.setIfInBounds_toArray, List.set_cons_zero, List.set_cons_succ, List.getElem_toArray, List.getElem_cons_zero, List.getElem_cons_succ]
    refine wpAnyH_take (i := 21) (v := ?_) rfl (by kernel_rfl) (by kernel_rfl) (by kernel_rfl) (fun _ _ _ h => h) (Or.inl ⟨by rfl, ?_⟩) (by assumption) ?_
    rotate_left 1
    · (intro w' hSw; (try dsimp only at hSw); go_simp; (first | done | with_reducible rfl))
    try simp only [Act.put, List.setIfInBounds_toArray, List.set_cons_zero, List.set_cons_succ, List.getElem_toArray, List.getElem_cons_zero, List.getElem_cons_succ]
    refine wpAnyH_take (i := 23) (v := ?_) rfl (by kernel_rfl) (by kernel_rfl) (by kernel_rfl) (fun _ _ _ h => h) (Or.inl ⟨by rfl, ?_⟩) (by assumption) ?_
    rotate_left 1
    · (intro w' hSw; (try dsimp only at hSw); go_simp; (first | done | with_reducible rfl))
    try simp only [Act.put, List.setIfInBounds_toArray, List.set_cons_zero, List.set_cons_succ, List.getElem_toArray, List.getElem_cons_zero, List.getElem_cons_succ]
    refine wpAnyH_take (i := 25) (v := ?_) rfl (by kernel_rfl) (by kernel_rfl) (by kernel_rfl) (fun _ _ _ h => h) (Or.inl ⟨by rfl, ?_⟩) (by assumption) ?_
    rotate_left 1
    · (intro w' hSw; (try dsimp only at hSw); go_simp; (first | done | with_reducible rfl))
    try simp only [Act.put, List.setIfInBounds_toArray, List.set_cons_zero, List.set_cons_succ, List.getElem_toArray, List.getElem_cons_zero, List.getElem_cons_succ]
    refine wpAnyH_ready (rs := [22]) (by kernel_rfl) (by simp) ?_
    refine (AllReadyH.cons rfl (fun K hK => ?_) AllReadyH.nil)
    go_simp
    try (first
      | (go_at_call 12; refine (RT.out _ HBd.out).mono ?_; rintro e w20 ⟨rfl, ht, hk⟩)
      | (go_at_call 17; (first | with_reducible refine (RA.out _ ht).mono ?_ | with_reducible refine (RB.out _ ht).mono ?_ | with_reducible refine (RR.out _ ht).mono ?_ | with_reducible refine (RN.out _ ht).mono ?_); rintro e w21 ⟨rfl, ht, hk⟩)
      | (go_at_call 19; (first | with_reducible refine (R1.out _ _ ?_ ?_).mono ?_ | with_reducible refine (R2.out _ _ ?_ ?_).mono ?_); (first | exact m0 | exact m1 | exact m1' rfl | exact m2 (by assumption) | exact m3 (by assumption) | exact m4 (by assumption) rfl | exact m5 (by assumption)); (first | exact ht | exact ht.alloc ht.size _ | exact (ht.alloc ht.size _).alloc (by have := ht.size; simp; omega) _); rintro e w22 ⟨rfl, ht, hk⟩))
    refine hK.out _ _ (by (try dsimp only); (first | exact CV.out _ ht | exact CV.out _ (ht.alloc ht.size _) | exact CV.out _ ((ht.alloc ht.size _).alloc (by have := ht.size; simp; omega) _) | exact CV.out _ HBd.out)) (fun hHeld => ?_)
    clear hK K
    try simp only [Act.put, List.setIfInBounds_toArray, List.set_cons_zero, List.set_cons_succ, List.getElem_toArray, List.getElem_cons_zero, List.getElem_cons_succ]
    refine wpAnyH_ready (rs := [24]) (by kernel_rfl) (by simp) ?_
    refine (AllReadyH.cons rfl (fun K hK => ?_) AllReadyH.nil)
    go_simp
    try (first
      | (go_at_call 12; refine (RT.out _ HBd.out).mono ?_; rintro e w20 ⟨rfl, ht, hk⟩)
      | (go_at_call 17; (first | with_reducible refine (RA.out _ ht).mono ?_ | with_reducible refine (RB.out _ ht).mono ?_ | with_reducible refine (RR.out _ ht).mono ?_ | with_reducible refine (RN.out _ ht).mono ?_); rintro e w21 ⟨rfl, ht, hk⟩)
      | (go_at_call 19; (first | with_reducible refine (R1.out _ _ ?_ ?_).mono ?_ | with_reducible refine (R2.out _ _ ?_ ?_).mono ?_); (first | exact m0 | exact m1 | exact m1' rfl | exact m2 (by assumption) | exact m3 (by assumption) | exact m4 (by assumption) rfl | exact m5 (by assumption)); (first | exact ht | exact ht.alloc ht.size _ | exact (ht.alloc ht.size _).alloc (by have := ht.size; simp; omega) _); rintro e w22 ⟨rfl, ht, hk⟩))
    refine hK.out _ _ (by (try dsimp only); (first | exact CV.out _ ht | exact CV.out _ (ht.alloc ht.size _) | exact CV.out _ ((ht.alloc ht.size _).alloc (by have := ht.size; simp; omega) _) | exact CV.out _ HBd.out)) (fun hHeld => ?_)
    clear hK K
    try simp only [Act.put, List.setIfInBounds_toArray, List.set_cons_zero, List.set_cons_succ, List.getElem_toArray, List.getElem_cons_zero, List.getElem_cons_succ]
    refine wpAnyH_ready (rs := [26]) (by kernel_rfl) (by simp) ?_
    refine (AllReadyH.cons rfl (fun K hK => ?_) AllReadyH.nil)
    go_simp
    try (first
      | (go_at_call 12; refine (RT.out _ HBd.out).mono ?_; rintro e w20 ⟨rfl, ht, hk⟩)
      | (go_at_call 17; (first | with_reducible refine (RA.out _ ht).mono ?_ | with_reducible refine (RB.out _ ht).mono ?_ | with_reducible refine (RR.out _ ht).mono ?_ | with_reducible refine (RN.out _ ht).mono ?_); rintro e w21 ⟨rfl, ht, hk⟩)
      | (go_at_call 19; (first | with_reducible refine (R1.out _ _ ?_ ?_).mono ?_ | with_reducible refine (R2.out _ _ ?_ ?_).mono ?_); (first | exact m0 | exact m1 | exact m1' rfl | exact m2 (by assumption) | exact m3 (by assumption) | exact m4 (by assumption) rfl | exact m5 (by assumption)); (first | exact ht | exact ht.alloc ht.size _ | exact (ht.alloc ht.size _).alloc (by have := ht.size; simp; omega) _); rintro e w22 ⟨rfl, ht, hk⟩))
    refine hK.out _ _ (by (try dsimp only); (first | exact CV.out _ ht | exact CV.out _ (ht.alloc ht.size _) | exact CV.out _ ((ht.alloc ht.size _).alloc (by have := ht.size; simp; omega) _) | exact CV.out _ HBd.out)) (fun hHeld => ?_)
    clear hK K
    try simp only [Act.put, List.setIfInBounds_toArray, List.set_cons_zero, List.set_cons_succ, List.getElem_toArray, List.getElem_cons_zero, List.getElem_cons_succ]
    refine wpAnyH_take (i := 27) (v := ?_) rfl (by kernel_rfl) (by kernel_rfl) (by kernel_rfl) (fun _ _ _ h => h) (Or.inl ⟨by rfl, ?_⟩) (by assumption) ?_
    rotate_left 1
    · (intro w' hSw; (try dsimp only at hSw); go_simp; (first | done | with_reducible rfl))
    try simp only [Act.put, List.setIfInBounds_toArray, List.set_cons_zero, List.set_cons_succ, List.getElem_toArray, List.getElem_cons_zero, List.getElem_cons_succ]
    refine wpAnyH_take (i := 28) (v := ?_) rfl (by kernel_rfl) (by kernel_rfl) (by kernel_rfl) (fun _ _ _ h => h) (Or.inl ⟨by rfl, ?_⟩) (by assumption) ?_
    rotate_left 1
    · (intro w' hSw; (try dsimp only at hSw); go_simp; (first | done | with_reducible rfl))
    try simp only [Act.put, List.setIfInBounds_toArray, List.set_cons_zero, List.set_cons_succ, List.getElem_toArray, List.getElem_cons_zero, List.getElem_cons_succ]
    refine wpAnyH_take (i := 29) (v := ?_) rfl (by kernel_rfl) (by kernel_rfl) (by kernel_rfl) (fun _ _ _ h => h) (Or.inl ⟨by rfl, ?_⟩) (by assumption) ?_
    rotate_left 1
    · (intro w' hSw; (try dsimp only at hSw); go_simp; (first | done | with_reducible rfl))
    try simp only [Act.put, List.setIfInBounds_toArray, List.set_cons_zero, List.set_cons_succ, List.getElem_toArray, List.getElem_cons_zero, List.getElem_cons_succ]
    refine wpAnyH_take (i := 30) (v := ?_) rfl (by kernel_rfl) (by kernel_rfl) (by kernel_rfl) (fun _ _ _ h => h) (Or.inl ⟨by rfl, ?_⟩) (by assumption) ?_
    rotate_left 1
    · (intro w' hSw; (try dsimp only at hSw); go_simp; (first | done | with_reducible rfl))
    try simp only [Act.put, List.setIfInBounds_toArray, List.set_cons_zero, List.set_cons_succ, List.getElem_toArray, List.getElem_cons_zero, List.getElem_cons_succ]
    refine wpAnyH_take (i := 31) (v := ?_) rfl (by kernel_rfl) (by kernel_rfl) (by kernel_rfl) (fun _ _ _ h => h) (Or.inl ⟨by rfl, ?_⟩) (by assumption) ?_
    rotate_left 1
    · (intro w' hSw; (try dsimp only at hSw); go_simp; (first | done | with_reducible rfl))
    try simp only [Act.put, List.setIfInBounds_toArray, List.set_cons_zero, List.set_cons_succ, List.getElem_toArray, List.getElem_cons_zero, List.getElem_cons_succ]
    refine wpAnyH_take (i := 32) (v := ?_) rfl (by kernel_rfl) (by kernel_rfl) (by kernel_rfl) (fun _ _ _ h => h) (Or.inl ⟨by rfl, ?_⟩) (by assumption) ?_
    rotate_left 1
    · (intro w' hSw; (try dsimp only at hSw); go_simp; (first | done | with_reducible rfl))
    try simp only [Act.put, List.setIfInBounds_toArray, List.set_cons_zero, List.set_cons_succ, List.getElem_toArray, List.getElem_cons_zero, List.getElem_cons_succ]
    refine wpAnyH_take (i := 33) (v := ?_) rfl (by kernel_rfl) (by kernel_rfl) (by kernel_rfl) (fun _ _ _ h => h) (Or.inl ⟨by rfl, ?_⟩) (by assumption) ?_
    rotate_left 1
    · (intro w' hSw; (try dsimp only at hSw); go_simp; (first | done | with_reducible rfl))
    try simp only [Act.put, List.setIfInBounds_toArray, List.set_cons_zero, List.set_cons_succ, List.getElem_toArray, List.getElem_cons_zero, List.getElem_cons_succ]
    refine wpAnyH_take (i := 34) (v := ?_) rfl (by kernel_rfl) (by kernel_rfl) (by kernel_rfl) (fun _ _ _ h => h) (Or.inl ⟨by rfl, ?_⟩) (by assumption) ?_
    rotate_left 1
    · (intro w' hSw; (try dsimp only at hSw); go_simp; (first | done | with_reducible rfl))
    try simp only [Act.put, List.setIfInBounds_toArray, List.set_cons_zero, List.set_cons_succ, List.getElem_toArray, List.getElem_cons_zero, List.getElem_cons_succ]
    refine wpAnyH_take (i := 35) (v := ?_) rfl (by kernel_rfl) (by kernel_rfl) (by kernel_rfl) (fun _ _ _ h => h) (Or.inl ⟨by rfl, ?_⟩) (by assumption) ?_
    rotate_left 1
    · (intro w' hSw; (try dsimp only at hSw); go_simp; (first | done | with_reducible rfl))
    try simp only [Act.put, List.setIfInBounds_toArray, List.set_cons_zero, List.set_cons_succ, List.getElem_toArray, List.getElem_cons_zero, List.getElem_cons_succ]
    refine wpAnyH_take (i := 36) (v := ?_) rfl (by kernel_rfl) (by kernel_rfl) (by kernel_rfl) (fun _ _ _ h => h) (Or.inl ⟨by rfl, ?_⟩) (by assumption) ?_
    rotate_left 1
    · (intro w' hSw; (try dsimp only at hSw); go_simp; (first | done | with_reducible rfl))
    try simp only [Act.put, List.setIfInBounds_toArray, List.set_cons_zero, List.set_cons_succ, List.getElem_toArray, List.getElem_cons_zero, List.getElem_cons_succ]
    refine wpAnyH_take (i := 37) (v := ?_) rfl (by kernel_rfl) (by kernel_rfl) (by kernel_rfl) (fun _ _ _ h => h) (Or.inl ⟨by rfl, ?_⟩) (by assumption) ?_
    rotate_left 1
    · (intro w' hSw; (try dsimp only at hSw); go_simp; (first | done | with_reducible rfl))
    try simp only [Act.put, List.setIfInBounds_toArray, List.set_cons_zero, List.set_cons_succ, List.getElem_toArray, List.getElem_cons_zero, List.getElem_cons_succ]
    refine wpAnyH_take (i := 38) (v := ?_) rfl (by kernel_rfl) (by kernel_rfl) (by kernel_rfl) (fun _ _ _ h => h) (Or.inl ⟨by rfl, ?_⟩) (by assumption) ?_
    rotate_left 1
    · (intro w' hSw; (try dsimp only at hSw); go_simp; (first | done | with_reducible rfl))
    try simp only [Act.put, List.setIfInBounds_toArray, List.set_cons_zero, List.set_cons_succ, List.getElem_toArray, List.getElem_cons_zero, List.getElem_cons_succ]
    refine wpAnyH_take (i := 39) (v := ?_) rfl (by kernel_rfl) (by kernel_rfl) (by kernel_rfl) (fun _ _ _ h => h) (Or.inl ⟨by rfl, ?_⟩) (by assumption) ?_
    rotate_left 1
    · (intro w' hSw; (try dsimp only at hSw); go_simp; (first | done | with_reducible rfl))
    try simp only [Act.put, List.setIfInBounds_toArray, List.set_cons_zero, List.set_cons_succ, List.getElem_toArray, List.getElem_cons_zero, List.getElem_cons_succ]
    refine wpAnyH_take (i := 40) (v := ?_) rfl (by kernel_rfl) (by kernel_rfl) (by kernel_rfl) (fun _ _ _ h => h) (Or.inl ⟨by rfl, ?_⟩) (by assumption) ?_
    rotate_left 1
    · (intro w' hSw; (try dsimp only at hSw); go_simp; (first | done | with_reducible rfl))
    try simp only [Act.put, List.setIfInBounds_toArray, List.set_cons_zero, List.set_cons_succ, List.getElem_toArray, List.getElem_cons_zero, List.getElem_cons_succ]
    refine wpAnyH_take (i := 41) (v := ?_) rfl (by kernel_rfl) (by kernel_rfl) (by kernel_rfl) (fun _ _ _ h => h) (Or.inl ⟨by rfl, ?_⟩) (by assumption) ?_
    rotate_left 1
    · (intro w' hSw; (try dsimp only at hSw); go_simp; (first | done | with_reducible rfl))
    try simp only [Act.put, List.setIfInBounds_toArray, List.set_cons_zero, List.set_cons_succ, List.getElem_toArray, List.getElem_cons_zero, List.getElem_cons_succ]
    refine wpAnyH_take (i := 43) (v := ?_) rfl (by kernel_rfl) (by kernel_rfl) (by kernel_rfl) (fun _ _ _ h => h) (Or.inl ⟨by rfl, ?_⟩) (by assumption) ?_
    rotate_left 1
    · (intro w' hSw; (try dsimp only at hSw); go_simp; (first | done | with_reducible rfl))
    try simp only [Act.put, List.setIfInBounds_toArray, List.set_cons_zero, List.set_cons_succ, List.getElem_toArray, List.getElem_cons_zero, List.getElem_cons_succ]
    refine wpAnyH_ready (rs := [42]) (by kernel_rfl) (by simp) ?_
    refine (AllReadyH.cons rfl (fun K hK => ?_) AllReadyH.nil)
    go_simp
    try (first
      | (go_at_call 12; refine (RT.out _ HBd.out).mono ?_; rintro e w20 ⟨rfl, ht, hk⟩)
      | (go_at_call 17; (first | with_reducible refine (RA.out _ ht).mono ?_ | with_reducible refine (RB.out _ ht).mono ?_ | with_reducible refine (RR.out _ ht).mono ?_ | with_reducible refine (RN.out _ ht).mono ?_); rintro e w21 ⟨rfl, ht, hk⟩)
      | (go_at_call 19; (first | with_reducible refine (R1.out _ _ ?_ ?_).mono ?_ | with_reducible refine (R2.out _ _ ?_ ?_).mono ?_); (first | exact m0 | exact m1 | exact m1' rfl | exact m2 (by assumption) | exact m3 (by assumption) | exact m4 (by assumption) rfl | exact m5 (by assumption)); (first | exact ht | exact ht.alloc ht.size _ | exact (ht.alloc ht.size _).alloc (by have := ht.size; simp; omega) _); rintro e w22 ⟨rfl, ht, hk⟩))
    refine hK.out _ _ (by (try dsimp only); (first | exact CV.out _ ht | exact CV.out _ (ht.alloc ht.size _) | exact CV.out _ ((ht.alloc ht.size _).alloc (by have := ht.size; simp; omega) _) | exact CV.out _ HBd.out)) (fun hHeld => ?_)
    clear hK K
    try simp only [Act.put, List.setIfInBounds_toArray, List.set_cons_zero, List.set_cons_succ, List.getElem_toArray, List.getElem_cons_zero, List.getElem_cons_succ]
    refine wpAnyH_ready (rs := [44]) (by kernel_rfl) (by simp) ?_
    refine (AllReadyH.cons rfl (fun K hK => ?_) AllReadyH.nil)
    go_simp
    try (first
      | (go_at_call 12; refine (RT.out _ HBd.out).mono ?_; rintro e w20 ⟨rfl, ht, hk⟩)
      | (go_at_call 17; (first | with_reducible refine (RA.out _ ht).mono ?_ | with_reducible refine (RB.out _ ht).mono ?_ | with_reducible refine (RR.out _ ht).mono ?_ | with_reducible refine (RN.out _ ht).mono ?_); rintro e w21 ⟨rfl, ht, hk⟩)
      | (go_at_call 19; (first | with_reducible refine (R1.out _ _ ?_ ?_).mono ?_ | with_reducible refine (R2.out _ _ ?_ ?_).mono ?_); (first | exact m0 | exact m1 | exact m1' rfl | exact m2 (by assumption) | exact m3 (by assumption) | exact m4 (by assumption) rfl | exact m5 (by assumption)); (first | exact ht | exact ht.alloc ht.size _ | exact (ht.alloc ht.size _).alloc (by have := ht.size; simp; omega) _); rintro e w22 ⟨rfl, ht, hk⟩))
    refine hK.out _ _ (by (try dsimp only); (first | exact CV.out _ ht | exact CV.out _ (ht.alloc ht.size _) | exact CV.out _ ((ht.alloc ht.size _).alloc (by have := ht.size; simp; omega) _) | exact CV.out _ HBd.out)) (fun hHeld => ?_)
    clear hK K
    try simp only [Act.put, List.setIfInBounds_toArray, List.set_cons_zero, List.set_cons_succ, List.getElem_toArray, List.getElem_cons_zero, List.getElem_cons_succ]
    refine wpAnyH_take (i := 45) (v := ?_) rfl (by kernel_rfl) (by kernel_rfl) (by kernel_rfl) (fun _ _ _ h => h) (Or.inl ⟨by rfl, ?_⟩) (by assumption) ?_
    rotate_left 1
    · (intro w' hSw; (try dsimp only at hSw); go_simp; (first | done | with_reducible rfl))
    try simp only [Act.put, List.setIfInBounds_toArray, List.set_cons_zero, List.set_cons_succ, List.getElem_toArray, List.getElem_cons_zero, List.getElem_cons_succ]
    refine wpAnyH_take (i := 46) (v := ?_) rfl (by kernel_rfl) (by kernel_rfl) (by kernel_rfl) (fun _ _ _ h => h) (Or.inl ⟨by rfl, ?_⟩) (by assumption) ?_
    rotate_left 1
    · (intro w' hSw; (try dsimp only at hSw); go_simp; (first | done | with_reducible rfl))
    try simp only [Act.put, List.setIfInBounds_toArray, List.set_cons_zero, List.set_cons_succ, List.getElem_toArray, List.getElem_cons_zero, List.getElem_cons_succ]
    refine wpAnyH_take (i := 47) (v := ?_) rfl (by kernel_rfl) (by kernel_rfl) (by kernel_rfl) (fun _ _ _ h => h) (Or.inl ⟨by rfl, ?_⟩) (by assumption) ?_
    rotate_left 1
    · (intro w' hSw; (try dsimp only at hSw); go_simp; (first | done | with_reducible rfl))
    try simp only [Act.put, List.setIfInBounds_toArray, List.set_cons_zero, List.set_cons_succ, List.getElem_toArray, List.getElem_cons_zero, List.getElem_cons_succ]
    refine wpAnyH_take (i := 48) (v := ?_) rfl (by kernel_rfl) (by kernel_rfl) (by kernel_rfl) (fun _ _ _ h => h) (Or.inl ⟨by rfl, ?_⟩) (by assumption) ?_
    rotate_left 1
    · (intro w' hSw; (try dsimp only at hSw); go_simp; (first | done | with_reducible rfl))
    try simp only [Act.put, List.setIfInBounds_toArray, List.set_cons_zero, List.set_cons_succ, List.getElem_toArray, List.getElem_cons_zero, List.getElem_cons_succ]
    refine wpAnyH_take (i := 49) (v := ?_) rfl (by kernel_rfl) (by kernel_rfl) (by kernel_rfl) (fun _ _ _ h => h) (Or.inl ⟨by rfl, ?_⟩) (by assumption) ?_
    rotate_left 1
    · (intro w' hSw; (try dsimp only at hSw); go_simp; (first | done | with_reducible rfl))
    try simp only [Act.put, List.setIfInBounds_toArray, List.set_cons_zero, List.set_cons_succ, List.getElem_toArray, List.getElem_cons_zero, List.getElem_cons_succ]
    refine wpAnyH_take (i := 52) (v := ?_) rfl (by kernel_rfl) (by kernel_rfl) (by kernel_rfl) (fun _ _ _ h => h) (Or.inl ⟨by rfl, ?_⟩) (by assumption) ?_
    rotate_left 1
    · (intro w' hSw; (try dsimp only at hSw); go_simp; (first | done | with_reducible rfl))
    try simp only [Act.put, List.setIfInBounds_toArray, List.set_cons_zero, List.set_cons_succ, List.getElem_toArray, List.getElem_cons_zero, List.getElem_cons_succ]
    refine wpAnyH_ready (rs := [50, 53]) (by kernel_rfl) (by simp) ?_
    refine (AllReadyH.cons rfl (fun K hK => ?_) (AllReadyH.cons rfl (fun K hK => ?_) AllReadyH.nil))
    focus
      go_simp
      refine hK.out _ _ (by (try dsimp only); (first | exact CV.out _ ht | exact CV.out _ (ht.alloc ht.size _) | exact CV.out _ ((ht.alloc ht.size _).alloc (by have := ht.size; simp; omega) _) | exact CV.out _ HBd.out)) (fun hHeld => ?_)
      clear hK K
      try simp only [Act.put, List.setIfInBounds_toArray, List.set_cons_zero, List.set_cons_succ, List.getElem_toArray, List.getElem_cons_zero, List.getElem_cons_succ]
      refine wpAnyH_ready (rs := [51, 53]) (by kernel_rfl) (by simp) ?_
      refine (AllReadyH.cons rfl (fun K hK => ?_) (AllReadyH.cons rfl (fun K hK => ?_) AllReadyH.nil))
      focus
        go_simp
        try (first
      | (go_at_call 12; refine (RT.out _ HBd.out).mono ?_; rintro e w20 ⟨rfl, ht, hk⟩)
      | (go_at_call 17; (first | with_reducible refine (RA.out _ ht).mono ?_ | with_reducible refine (RB.out _ ht).mono ?_ | with_reducible refine (RR.out _ ht).mono ?_ | with_reducible refine (RN.out _ ht).mono ?_); rintro e w21 ⟨rfl, ht, hk⟩)
      | (go_at_call 19; (first | with_reducible refine (R1.out _ _ ?_ ?_).mono ?_ | with_reducible refine (R2.out _ _ ?_ ?_).mono ?_); (first | exact m0 | exact m1 | exact m1' rfl | exact m2 (by assumption) | exact m3 (by assumption) | exact m4 (by assumption) rfl | exact m5 (by assumption)); (first | exact ht | exact ht.alloc ht.size _ | exact (ht.alloc ht.size _).alloc (by have := ht.size; simp; omega) _); rintro e w22 ⟨rfl, ht, hk⟩))
        refine hK.out _ _ (by (try dsimp only); (first | exact CV.out _ ht | exact CV.out _ (ht.alloc ht.size _) | exact CV.out _ ((ht.alloc ht.size _).alloc (by have := ht.size; simp; omega) _) | exact CV.out _ HBd.out)) (fun hHeld => ?_)
        clear hK K
        try simp only [Act.put, List.setIfInBounds_toArray, List.set_cons_zero, List.set_cons_succ, List.getElem_toArray, List.getElem_cons_zero, List.getElem_cons_succ]
        refine wpAnyH_ready (rs := [53]) (by kernel_rfl) (by simp) ?_
        refine (AllReadyH.cons rfl (fun K hK => ?_) AllReadyH.nil)
        go_simp
        refine hK.out _ _ (by (try dsimp only); (first | exact CV.out _ ht | exact CV.out _ (ht.alloc ht.size _) | exact CV.out _ ((ht.alloc ht.size _).alloc (by have := ht.size; simp; omega) _) | exact CV.out _ HBd.out)) (fun hHeld => ?_)
        clear hK K
        try simp only [Act.put, List.setIfInBounds_toArray, List.set_cons_zero, List.set_cons_succ, List.getElem_toArray, List.getElem_cons_zero, List.getElem_cons_succ]
        refine wpAnyH_ready (rs := [54]) (by kernel_rfl) (by simp) ?_
        refine (AllReadyH.cons rfl (fun K hK => ?_) AllReadyH.nil)
        go_simp
        try (first
      | (go_at_call 12; refine (RT.out _ HBd.out).mono ?_; rintro e w20 ⟨rfl, ht, hk⟩)
      | (go_at_call 17; (first | with_reducible refine (RA.out _ ht).mono ?_ | with_reducible refine (RB.out _ ht).mono ?_ | with_reducible refine (RR.out _ ht).mono ?_ | with_reducible refine (RN.out _ ht).mono ?_); rintro e w21 ⟨rfl, ht, hk⟩)
      | (go_at_call 19; (first | with_reducible refine (R1.out _ _ ?_ ?_).mono ?_ | with_reducible refine (R2.out _ _ ?_ ?_).mono ?_); (first | exact m0 | exact m1 | exact m1' rfl | exact m2 (by assumption) | exact m3 (by assumption) | exact m4 (by assumption) rfl | exact m5 (by assumption)); (first | exact ht | exact ht.alloc ht.size _ | exact (ht.alloc ht.size _).alloc (by have := ht.size; simp; omega) _); rintro e w22 ⟨rfl, ht, hk⟩))
        refine hK.out _ _ (by (try dsimp only); (first | exact CV.out _ ht | exact CV.out _ (ht.alloc ht.size _) | exact CV.out _ ((ht.alloc ht.size _).alloc (by have := ht.size; simp; omega) _) | exact CV.out _ HBd.out)) (fun hHeld => ?_)
        clear hK K
        try simp only [Act.put, List.setIfInBounds_toArray, List.set_cons_zero, List.set_cons_succ, List.getElem_toArray, List.getElem_cons_zero, List.getElem_cons_succ]
        refine wpAnyH_take (i := 55) (v := ?_) rfl (by kernel_rfl) (by kernel_rfl) (by kernel_rfl) (fun _ _ _ h => h) (Or.inl ⟨by rfl, ?_⟩) (by assumption) ?_
        rotate_left 1
        · (intro w' hSw; (try dsimp only at hSw); go_simp; (first | done | with_reducible rfl))
        try simp only [Act.put, List.setIfInBounds_toArray, List.set_cons_zero, List.set_cons_succ, List.getElem_toArray, List.getElem_cons_zero, List.getElem_cons_succ]
        refine wpAnyH_take (i := 56) (v := ?_) rfl (by kernel_rfl) (by kernel_rfl) (by kernel_rfl) (fun _ _ _ h => h) (Or.inl ⟨by rfl, ?_⟩) (by assumption) ?_
        rotate_left 1
        · (intro w' hSw; (try dsimp only at hSw); go_simp; (first | done | with_reducible rfl))
        try simp only [Act.put, List.setIfInBounds_toArray, List.set_cons_zero, List.set_cons_succ, List.getElem_toArray, List.getElem_cons_zero, List.getElem_cons_succ]
        refine wpAnyH_take (i := 57) (v := ?_) rfl (by kernel_rfl) (by kernel_rfl) (by kernel_rfl) (fun _ _ _ h => h) (Or.inl ⟨by rfl, ?_⟩) (by assumption) ?_
        rotate_left 1
        · (intro w' hSw; (try dsimp only at hSw); go_simp; (first | done | with_reducible rfl))
        try simp only [Act.put, List.setIfInBounds_toArray, List.set_cons_zero, List.set_cons_succ, List.getElem_toArray, List.getElem_cons_zero, List.getElem_cons_succ]
        refine wpAnyH_done (by kernel_rfl) ?_ _
        refine NoPanic.normal ?_
        have HB9 : Hid (Below w.heap.size w _) := Lib.hid (UW.out _ ht)
        clear ht hk RT RA RB RR RN R1 R2 CV UW
        go_wp2_with fail
        go_ret
        exact ⟨rfl, HB9.out⟩
      focus
        go_simp
        refine hK.out _ _ (by (try dsimp only); (first | exact CV.out _ ht | exact CV.out _ (ht.alloc ht.size _) | exact CV.out _ ((ht.alloc ht.size _).alloc (by have := ht.size; simp; omega) _) | exact CV.out _ HBd.out)) (fun hHeld => ?_)
        clear hK K
        try simp only [Act.put, List.setIfInBounds_toArray, List.set_cons_zero, List.set_cons_succ, List.getElem_toArray, List.getElem_cons_zero, List.getElem_cons_succ]
        refine wpAnyH_ready (rs := [51]) (by kernel_rfl) (by simp) ?_
        refine (AllReadyH.cons rfl (fun K hK => ?_) AllReadyH.nil)
        go_simp
        try (first
      | (go_at_call 12; refine (RT.out _ HBd.out).mono ?_; rintro e w20 ⟨rfl, ht, hk⟩)
      | (go_at_call 17; (first | with_reducible refine (RA.out _ ht).mono ?_ | with_reducible refine (RB.out _ ht).mono ?_ | with_reducible refine (RR.out _ ht).mono ?_ | with_reducible refine (RN.out _ ht).mono ?_); rintro e w21 ⟨rfl, ht, hk⟩)
      | (go_at_call 19; (first | with_reducible refine (R1.out _ _ ?_ ?_).mono ?_ | with_reducible refine (R2.out _ _ ?_ ?_).mono ?_); (first | exact m0 | exact m1 | exact m1' rfl | exact m2 (by assumption) | exact m3 (by assumption) | exact m4 (by assumption) rfl | exact m5 (by assumption)); (first | exact ht | exact ht.alloc ht.size _ | exact (ht.alloc ht.size _).alloc (by have := ht.size; simp; omega) _); rintro e w22 ⟨rfl, ht, hk⟩))
        refine hK.out _ _ (by (try dsimp only); (first | exact CV.out _ ht | exact CV.out _ (ht.alloc ht.size _) | exact CV.out _ ((ht.alloc ht.size _).alloc (by have := ht.size; simp; omega) _) | exact CV.out _ HBd.out)) (fun hHeld => ?_)
        clear hK K
        try simp only [Act.put, List.setIfInBounds_toArray, List.set_cons_zero, List.set_cons_succ, List.getElem_toArray, List.getElem_cons_zero, List.getElem_cons_succ]
        refine wpAnyH_ready (rs := [54]) (by kernel_rfl) (by simp) ?_
        refine (AllReadyH.cons rfl (fun K hK => ?_) AllReadyH.nil)
        go_simp
        try (first
      | (go_at_call 12; refine (RT.out _ HBd.out).mono ?_; rintro e w20 ⟨rfl, ht, hk⟩)
      | (go_at_call 17; (first | with_reducible refine (RA.out _ ht).mono ?_ | with_reducible refine (RB.out _ ht).mono ?_ | with_reducible refine (RR.out _ ht).mono ?_ | with_reducible refine (RN.out _ ht).mono ?_); rintro e w21 ⟨rfl, ht, hk⟩)
      | (go_at_call 19; (first | with_reducible refine (R1.out _ _ ?_ ?_).mono ?_ | with_reducible refine (R2.out _ _ ?_ ?_).mono ?_); (first | exact m0 | exact m1 | exact m1' rfl | exact m2 (by assumption) | exact m3 (by assumption) | exact m4 (by assumption) rfl | exact m5 (by assumption)); (first | exact ht | exact ht.alloc ht.size _ | exact (ht.alloc ht.size _).alloc (by have := ht.size; simp; omega) _); rintro e w22 ⟨rfl, ht, hk⟩))
        refine hK.out _ _ (by (try dsimp only); (first | exact CV.out _ ht | exact CV.out _ (ht.alloc ht.size _) | exact CV.out _ ((ht.alloc ht.size _).alloc (by have := ht.size; simp; omega) _) | exact CV.out _ HBd.out)) (fun hHeld => ?_)
        clear hK K
        try simp only [Act.put, List.setIfInBounds_toArray, List.set_cons_zero, List.set_cons_succ, List.getElem_toArray, List.getElem_cons_zero, List.getElem_cons_succ]
        refine wpAnyH_take (i := 55) (v := ?_) rfl (by kernel_rfl) (by kernel_rfl) (by kernel_rfl) (fun _ _ _ h => h) (Or.inl ⟨by rfl, ?_⟩) (by assumption) ?_
        rotate_left 1
        · (intro w' hSw; (try dsimp only at hSw); go_simp; (first | done | with_reducible rfl))
        try simp only [Act.put, List.setIfInBounds_toArray, List.set_cons_zero, List.set_cons_succ, List.getElem_toArray, List.getElem_cons_zero, List.getElem_cons_succ]
        refine wpAnyH_take (i := 56) (v := ?_) rfl (by kernel_rfl) (by kernel_rfl) (by kernel_rfl) (fun _ _ _ h => h) (Or.inl ⟨by rfl, ?_⟩) (by assumption) ?_
        rotate_left 1
        · (intro w' hSw; (try dsimp only at hSw); go_simp; (first | done | with_reducible rfl))
        try simp only [Act.put, List.setIfInBounds_toArray, List.set_cons_zero, List.set_cons_succ, List.getElem_toArray, List.getElem_cons_zero, List.getElem_cons_succ]
        refine wpAnyH_take (i := 57) (v := ?_) rfl (by kernel_rfl) (by kernel_rfl) (by kernel_rfl) (fun _ _ _ h => h) (Or.inl ⟨by rfl, ?_⟩) (by assumption) ?_
        rotate_left 1
        · (intro w' hSw; (try dsimp only at hSw); go_simp; (first | done | with_reducible rfl))
        try simp only [Act.put, List.setIfInBounds_toArray, List.set_cons_zero, List.set_cons_succ, List.getElem_toArray, List.getElem_cons_zero, List.getElem_cons_succ]
        refine wpAnyH_done (by kernel_rfl) ?_ _
        refine NoPanic.normal ?_
        have HB9 : Hid (Below w.heap.size w _) := Lib.hid (UW.out _ ht)
        clear ht hk RT RA RB RR RN R1 R2 CV UW
        go_wp2_with fail
        go_ret
        exact ⟨rfl, HB9.out⟩
    focus
      go_simp
      refine hK.out _ _ (by (try dsimp only); (first | exact CV.out _ ht | exact CV.out _ (ht.alloc ht.size _) | exact CV.out _ ((ht.alloc ht.size _).alloc (by have := ht.size; simp; omega) _) | exact CV.out _ HBd.out)) (fun hHeld => ?_)
      clear hK K
      try simp only [Act.put, List.setIfInBounds_toArray, List.set_cons_zero, List.set_cons_succ, List.getElem_toArray, List.getElem_cons_zero, List.getElem_cons_succ]
      refine wpAnyH_ready (rs := [50]) (by kernel_rfl) (by simp) ?_
      refine (AllReadyH.cons rfl (fun K hK => ?_) AllReadyH.nil)
      go_simp
      refine hK.out _ _ (by (try dsimp only); (first | exact CV.out _ ht | exact CV.out _ (ht.alloc ht.size _) | exact CV.out _ ((ht.alloc ht.size _).alloc (by have := ht.size; simp; omega) _) | exact CV.out _ HBd.out)) (fun hHeld => ?_)
      clear hK K
      try simp only [Act.put, List.setIfInBounds_toArray, List.set_cons_zero, List.set_cons_succ, List.getElem_toArray, List.getElem_cons_zero, List.getElem_cons_succ]
      refine wpAnyH_ready (rs := [51]) (by kernel_rfl) (by simp) ?_
      refine (AllReadyH.cons rfl (fun K hK => ?_) AllReadyH.nil)
      go_simp
      try (first
      | (go_at_call 12; refine (RT.out _ HBd.out).mono ?_; rintro e w20 ⟨rfl, ht, hk⟩)
      | (go_at_call 17; (first | with_reducible refine (RA.out _ ht).mono ?_ | with_reducible refine (RB.out _ ht).mono ?_ | with_reducible refine (RR.out _ ht).mono ?_ | with_reducible refine (RN.out _ ht).mono ?_); rintro e w21 ⟨rfl, ht, hk⟩)
      | (go_at_call 19; (first | with_reducible refine (R1.out _ _ ?_ ?_).mono ?_ | with_reducible refine (R2.out _ _ ?_ ?_).mono ?_); (first | exact m0 | exact m1 | exact m1' rfl | exact m2 (by assumption) | exact m3 (by assumption) | exact m4 (by assumption) rfl | exact m5 (by assumption)); (first | exact ht | exact ht.alloc ht.size _ | exact (ht.alloc ht.size _).alloc (by have := ht.size; simp; omega) _); rintro e w22 ⟨rfl, ht, hk⟩))
      refine hK.out _ _ (by (try dsimp only); (first | exact CV.out _ ht | exact CV.out _ (ht.alloc ht.size _) | exact CV.out _ ((ht.alloc ht.size _).alloc (by have := ht.size; simp; omega) _) | exact CV.out _ HBd.out)) (fun hHeld => ?_)
      clear hK K
      try simp only [Act.put, List.setIfInBounds_toArray, List.set_cons_zero, List.set_cons_succ, List.getElem_toArray, List.getElem_cons_zero, List.getElem_cons_succ]
      refine wpAnyH_ready (rs := [54]) (by kernel_rfl) (by simp) ?_
      refine (AllReadyH.cons rfl (fun K hK => ?_) AllReadyH.nil)
      go_simp
      try (first
      | (go_at_call 12; refine (RT.out _ HBd.out).mono ?_; rintro e w20 ⟨rfl, ht, hk⟩)
      | (go_at_call 17; (first | with_reducible refine (RA.out _ ht).mono ?_ | with_reducible refine (RB.out _ ht).mono ?_ | with_reducible refine (RR.out _ ht).mono ?_ | with_reducible refine (RN.out _ ht).mono ?_); rintro e w21 ⟨rfl, ht, hk⟩)
      | (go_at_call 19; (first | with_reducible refine (R1.out _ _ ?_ ?_).mono ?_ | with_reducible refine (R2.out _ _ ?_ ?_).mono ?_); (first | exact m0 | exact m1 | exact m1' rfl | exact m2 (by assumption) | exact m3 (by assumption) | exact m4 (by assumption) rfl | exact m5 (by assumption)); (first | exact ht | exact ht.alloc ht.size _ | exact (ht.alloc ht.size _).alloc (by have := ht.size; simp; omega) _); rintro e w22 ⟨rfl, ht, hk⟩))
      refine hK.out _ _ (by (try dsimp only); (first | exact CV.out _ ht | exact CV.out _ (ht.alloc ht.size _) | exact CV.out _ ((ht.alloc ht.size _).alloc (by have := ht.size; simp; omega) _) | exact CV.out _ HBd.out)) (fun hHeld => ?_)
      clear hK K
      try simp only [Act.put, List.setIfInBounds_toArray, List.set_cons_zero, List.set_cons_succ, List.getElem_toArray, List.getElem_cons_zero, List.getElem_cons_succ]
      refine wpAnyH_take (i := 55) (v := ?_) rfl (by kernel_rfl) (by kernel_rfl) (by kernel_rfl) (fun _ _ _ h => h) (Or.inl ⟨by rfl, ?_⟩) (by assumption) ?_
      rotate_left 1
      · (intro w' hSw; (try dsimp only at hSw); go_simp; (first | done | with_reducible rfl))
      try simp only [Act.put, List.setIfInBounds_toArray, List.set_cons_zero, List.set_cons_succ, List.getElem_toArray, List.getElem_cons_zero, List.getElem_cons_succ]
      refine wpAnyH_take (i := 56) (v := ?_) rfl (by kernel_rfl) (by kernel_rfl) (by kernel_rfl) (fun _ _ _ h => h) (Or.inl ⟨by rfl, ?_⟩) (by assumption) ?_
      rotate_left 1
      · (intro w' hSw; (try dsimp only at hSw); go_simp; (first | done | with_reducible rfl))
      try simp only [Act.put, List.setIfInBounds_toArray, List.set_cons_zero, List.set_cons_succ, List.getElem_toArray, List.getElem_cons_zero, List.getElem_cons_succ]
      refine wpAnyH_take (i := 57) (v := ?_) rfl (by kernel_rfl) (by kernel_rfl) (by kernel_rfl) (fun _ _ _ h => h) (Or.inl ⟨by rfl, ?_⟩) (by assumption) ?_
      rotate_left 1
      · (intro w' hSw; (try dsimp only at hSw); go_simp; (first | done | with_reducible rfl))
      try simp only [Act.put, List.setIfInBounds_toArray, List.set_cons_zero, List.set_cons_succ, List.getElem_toArray, List.getElem_cons_zero, List.getElem_cons_succ]
      refine wpAnyH_done (by kernel_rfl) ?_ _
      refine NoPanic.normal ?_
      have HB9 : Hid (Below w.heap.size w _) := Lib.hid (UW.out _ ht)
      clear ht hk RT RA RB RR RN R1 R2 CV UW
      go_wp2_with fail
      go_ret
      exact ⟨rfl, HB9.out⟩
end Go.Proofs.YtnmpapmjkihfcaaDoor.flatRows
