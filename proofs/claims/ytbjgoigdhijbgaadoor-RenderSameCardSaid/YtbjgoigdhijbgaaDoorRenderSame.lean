/-
  Groups within a flat group are flat; rows and nests of nothing turn nothing (promises 17.1, 17.2): for every document and every integer the statement RenderSame returns true. The three tables are tied to the program's text by the given ties; no further condition.
-/
import Derived.Test.YtbjgoigdhijbgaaDoorUtfLaid
import Derived.Test.YtbjgoigdhijbgaaDoorCards
import Derived.Test.YtbjgoigdhijbgaaDoorTie
import Derived.Test.YtbjgoigdhijbgaaDoorBase
import Derived.Test.YtbjgoigdhijbgaaDoorDoc
import Derived.Test.YtbjgoigdhijbgaaDoorRendTold
set_option linter.all false
namespace Go.Proofs.YtbjgoigdhijbgaaDoor.renderSame
open Go.ChangeShapes Go.WideShapes Go.ChangeAt Go.RowKit Go.PlainAid Go.Proofs.YtbjgoigdhijbgaaDoor

theorem mod_lt (n : Nat) (hn : 0 < n) (x : Int) : ∃ r : Nat, r < n ∧ (IntKind.u64.wrap x).tmod n = (r : Int) := by
  have := IntKind.wrap_u64 x
  have h0 := Int.tmod_nonneg (a := IntKind.u64.wrap x) n (by omega)
  have h1 := Int.tmod_lt_of_pos (IntKind.u64.wrap x) (b := n) (by omega)
  have h2 := Int.toNat_of_nonneg h0
  exact ⟨((IntKind.u64.wrap x).tmod n).toNat, by omega, h2.symm⟩
theorem b0_nil : ((⟨#[]⟩ : ByteArray).toList == ([] : List UInt8)) = true := by decide +kernel
theorem c0_nil : (⟨#[]⟩ : ByteArray).data.toList.contains 10 = false := by decide +kernel
theorem drt_same {d : Dc} (h : drt d = true) : drt (same9 d) = true := by
  simp [same9, nul9, drt, drtL, dal, h, b0_nil, c0_nil]
theorem drt_grp {d : Dc} (h : drt d = true) : drt (grp d) = true := by
  simp [grp, drt, drtL, dal, h, b0_nil]
theorem dtz_grp {d : Dc} (h : dtz 1048576 d) : dtz 1048576 (grp d) := ⟨by show (0 : Nat) ≤ 1048576; omega, h, trivial⟩
theorem dtz_same {d : Dc} (h : dtz 1048576 d) : dtz 1048576 (same9 d) :=
  ⟨by show (0 : Nat) ≤ 1048576; omega, ⟨by show (0 : Nat) ≤ 1048576; omega, trivial⟩, ⟨by show (0 : Nat) ≤ 1048576; omega, h, trivial⟩, ⟨by show (0 : Nat) ≤ 1048576; omega, trivial⟩, trivial⟩
theorem render_is {d : Dc} {c : List Value} {W : Int} {w : World} (hd : dcnt d ≤ 90000) (hz : dtz 1048576 d) (hr : drt d = true) (h0 : 1 ≤ W) (h1 : W ≤ 10000) (h : DcAt w c d) (ht : Tabs w) (T : ByteArray) (hT : txtD W d = T) :
    Calls Tryd.prog 11 #[.agg c.toArray, .int .i64 W] w fun e w' => e = .returned (.tuple #[.string T, .int .i64 0]) ∧ Below w.heap.size w w' := by
  have := prender_any d hd hz c W w h ht
  have ho : okR W d = true := by simp [okR, hr, h0, h1]
  rw [ho, if_pos rfl, if_pos rfl, hT] at this
  exact this
theorem modes_is {d : Dc} {c : List Value} {W : Int} {w : World} (hd : dcnt d ≤ 90000) (hz : dtz 1048576 d) (hr : drt d = true) (h0 : 1 ≤ W) (h1 : W ≤ 10000) (h : DcAt w c d) (ht : Tabs w) (M : List Bool) (hM : mdsD W d = M) :
    Calls Tryd.prog 13 #[.agg c.toArray, .int .i64 W] w fun e w' => ∃ v, e = .returned v ∧ BlR w' w.heap.size v M ∧ Below w.heap.size w w' := by
  have := pmodes_any d hd hz c W w h ht
  have ho : okR W d = true := by simp [okR, hr, h0, h1]
  rw [ho, if_pos rfl, hM] at this
  exact this
theorem mds_len (W : Int) (d : Dc) : (mdsD W d).length ≤ dcnt d := by
  have h1 := mdsL_le (laidD W d)
  have h2 := congrArg List.length (laidD_all W d)
  rw [List.length_map, prO_len] at h2
  rw [h2] at h1
  exact h1
set_option maxRecDepth 100000 in
set_option maxHeartbeats 8000000 in
theorem walk (c : List Value) (d : Dc) (x : Int) (w : World) (g : DcAt w c d) (htb : Tabs w) :
    Calls Tryd.prog 7 #[.agg c.toArray, .int .i64 x] w fun e w' => e = .returned (.bool true) ∧ Below w.heap.size w w' := by
  obtain ⟨k, n, t, lv, rfl⟩ : ∃ k n t lv, c = [.int .i64 k, .int .i64 n, .string t, lv] := by
    cases d with
    | mk k n t l => obtain ⟨lv, cs, rfl, -⟩ := g.inv; exact ⟨_, _, _, _, rfl⟩
  obtain ⟨Z, hZ⟩ : ∃ Z, Z = w.alloc (.cells #[.int .i64 k, .int .i64 n, .string t, lv] 24) := ⟨_, rfl⟩
  have hbW : Below w.heap.size w Z := by rw [hZ]; exact below1 _ _
  have HB0 : Hid (Below Z.heap.size Z (w.alloc (.cells #[.int .i64 k, .int .i64 n, .string t, lv] 24))) := Lib.hid (by rw [← hZ]; exact Below.refl _ _)
  have HC := Lib.hid (fun W (hb : Below Z.heap.size Z W) => dc_cells (by rw [hZ] at hb; exact hb))
  have UP := Lib.hid (fun W (h : Below Z.heap.size Z W) => hbW.trans (h.mono hbW.size))
  have G := Lib.hid (fun W (h : Below Z.heap.size Z W) => g.bel (UP.out W h))
  have HTZ : Hid (∀ W, Below Z.heap.size Z W → Tabs W) := Lib.hid fun W h => htb.below (UP.out W h)
  have HT : Hid (∀ W, Below Z.heap.size Z W → Calls Tryd.prog 10 #[] W fun e w' => e = .returned (.bool true) ∧ Below Z.heap.size Z w') := Lib.hid fun W hb => (told17_any W (HTZ.out W hb)).mono fun e w' ⟨h1, h2⟩ => ⟨h1, hb.trans (h2.mono hb.size)⟩
  have HF0 : Hid (∀ W, Below Z.heap.size Z W → Calls Tryd.prog 9 #[.agg #[.int .i64 k, .int .i64 n, .string t, lv]] W fun e w' => e = .returned (.bool (fwD d)) ∧ Below Z.heap.size Z w') := Lib.hid fun W hb => (fwD_any d _ W (G.out W hb)).mono fun e w' ⟨h1, h2⟩ => ⟨h1, hb.trans (h2.mono hb.size)⟩
  obtain ⟨d0, d1, d2, d3⟩ := HC.out _ HB0.out
  clear g hZ hbW htb
  cases hf : fwD d
  · rw [hf] at HF0
    go_enter Tryd.func7, Tryd.ntmps7
    go_wp2_with fail
    refine (HF0.out _ HB0.out).mono ?_
    rintro e w1 ⟨rfl, ht⟩
    have HB1 := Lib.hid ht
    clear ht
    go_wp2_with fail
    refine (HT.out _ HB1.out).mono ?_
    rintro e w2 ⟨rfl, ht⟩
    have HB2 := Lib.hid ht
    clear ht
    go_wp2_with fail
    go_ret
    exact ⟨rfl, UP.out _ HB2.out⟩
  rw [hf] at HF0
  obtain ⟨o1, o2⟩ := fwD_ok hf
  have o3 := dtz_mono (show 100 ≤ 1048576 by omega) _ o2
  have HM0 : Hid (∀ W, Below Z.heap.size Z W → Calls Tryd.prog 15 #[.agg #[.int .i64 k, .int .i64 n, .string t, lv]] W fun e w' => e = .returned (.bool (drt d)) ∧ Below Z.heap.size Z w') := Lib.hid fun W hb => (rdmay_any d (by omega) o3 _ W (G.out W hb)).mono fun e w' ⟨h1, h2⟩ => ⟨h1, hb.trans (h2.mono hb.size)⟩
  cases hr : drt d
  · rw [hr] at HM0
    clear o1 o2 o3
    go_enter Tryd.func7, Tryd.ntmps7
    go_wp2_with fail
    refine (HF0.out _ HB0.out).mono ?_
    rintro e w1 ⟨rfl, ht⟩
    have HB1 := Lib.hid ht
    clear ht d0 d1 d2 d3
    obtain ⟨d0, d1, d2, d3⟩ := HC.out _ HB1.out
    go_wp2_with fail
    refine (HM0.out _ HB1.out).mono ?_
    rintro e w2 ⟨rfl, ht⟩
    have HB2 := Lib.hid ht
    clear ht
    go_wp2_with fail
    refine (HT.out _ HB2.out).mono ?_
    rintro e w3 ⟨rfl, ht⟩
    have HB3 := Lib.hid ht
    clear ht
    go_wp2_with fail
    go_ret
    exact ⟨rfl, UP.out _ HB3.out⟩
  rw [hr] at HM0
  obtain ⟨r, hrr, er⟩ := mod_lt 80 (by decide) x
  have er' : (IntKind.u64.wrap x).tmod 80 = (r : Int) := er
  have r0 : (0 : Int) ≤ (r : Int) := by omega
  have r1 : (r : Int) < 80 := by omega
  obtain ⟨Q, hQ⟩ : ∃ Q : Int, Q = 1 + (r : Int) := ⟨_, rfl⟩
  have hQ0 : 1 ≤ Q := by omega
  have hQ1 : Q ≤ 10000 := by omega
  have HQ := Lib.hid hQ
  obtain ⟨T, hT⟩ : ∃ T, T = txtD Q d := ⟨_, rfl⟩
  obtain ⟨U, hU⟩ : ∃ U, U = txtD Q (grp d) := ⟨_, rfl⟩
  obtain ⟨M, hM⟩ : ∃ M, M = mdsD Q (grp d) := ⟨_, rfl⟩
  have hn1 : dcnt (grp d) ≤ 90000 := by simp [grp, dcnt, dcntL]; omega
  have hn2 : dcnt (same9 d) ≤ 90000 := by simp [same9, nul9, dcnt, dcntL]; omega
  have RD : Hid (∀ W, Below Z.heap.size Z W → Calls Tryd.prog 11 #[.agg #[.int .i64 k, .int .i64 n, .string t, lv], .int .i64 Q] W fun e w' => e = .returned (.tuple #[.string T, .int .i64 0]) ∧ Below Z.heap.size Z w') := Lib.hid fun W hb => (render_is (by omega) o3 hr hQ0 hQ1 (G.out W hb) (HTZ.out W hb) T hT.symm).mono fun e w' ⟨h1, h2⟩ => ⟨h1, hb.trans (h2.mono hb.size)⟩
  have RX : Hid (∀ W c, Below Z.heap.size Z W → DcAt W c (same9 d) → Calls Tryd.prog 11 #[.agg c.toArray, .int .i64 Q] W fun e w' => e = .returned (.tuple #[.string T, .int .i64 0]) ∧ Below W.heap.size W w') := Lib.hid fun W c hb hc => render_is hn2 (dtz_same o3) (drt_same hr) hQ0 hQ1 hc (HTZ.out W hb) T (by rw [same_txt, hT])
  have RY : Hid (∀ W c, Below Z.heap.size Z W → DcAt W c (grp d) → Calls Tryd.prog 11 #[.agg c.toArray, .int .i64 Q] W fun e w' => e = .returned (.tuple #[.string U, .int .i64 0]) ∧ Below W.heap.size W w') := Lib.hid fun W c hb hc => render_is hn1 (dtz_grp o3) (drt_grp hr) hQ0 hQ1 hc (HTZ.out W hb) U hU.symm
  have RM : Hid (∀ W c, Below Z.heap.size Z W → DcAt W c (grp d) → Calls Tryd.prog 13 #[.agg c.toArray, .int .i64 Q] W fun e w' => ∃ v, e = .returned v ∧ BlR w' W.heap.size v M ∧ Below W.heap.size W w') := Lib.hid fun W c hb hc => modes_is hn1 (dtz_grp o3) (drt_grp hr) hQ0 hQ1 hc (HTZ.out W hb) M hM.symm
  have RF : Hid (∀ W, Below Z.heap.size Z W → Calls Tryd.prog 18 #[.agg #[.int .i64 k, .int .i64 n, .string t, lv]] W fun e w' => e = .returned (.tuple #[.string (if dfrc d = true then ⟨#[]⟩ else ctx (lvs d)), .bool (!dfrc d)]) ∧ Below Z.heap.size Z w' ∧ Below W.heap.size W w') := Lib.hid fun W hb => (rFlat_any d (by omega) hr o3 _ W (G.out W hb)).mono fun e w' ⟨h1, h2⟩ => ⟨h1, hb.trans (h2.mono hb.size), h2⟩
  obtain ⟨tl, htl⟩ := mds_grp Q d
  have hMl : M.length ≤ 502 := by
    have := mds_len Q (grp d)
    rw [hM]
    have h2 : dcnt (grp d) = dcnt d + 1 := by simp [grp, dcnt, dcntL]; omega
    omega
  obtain ⟨b0, hb0⟩ : ∃ b, b = (!dfrc d && decide ((wsum (lvs d) : Int) ≤ Q)) := ⟨_, rfl⟩
  rw [← hb0, ← hM] at htl
  have hall : b0 = true → dfrc d = false ∧ U = ctx (lvs d) ∧ ∀ b ∈ M, b = true := fun h => by
    rw [h] at hb0
    have h2 := hb0.symm
    simp only [Bool.and_eq_true, Bool.not_eq_true', decide_eq_true_eq] at h2
    obtain ⟨h3, h4⟩ := grp_flat (drt_grp hr) h2.1 h2.2
    exact ⟨h2.1, hU.trans h3, by rw [hM]; exact h4⟩
  have HALL := Lib.hid hall
  have HTL := Lib.hid htl
  have hM0 : M[0]? = some b0 := by rw [htl]; rfl
  have HM00 := Lib.hid hM0
  have hMp : 0 < M.length := by rw [htl]; simp
  have mm1 : ((M.length : Int) == 0) = false := beq_false_of_ne (by omega)
  have tt : (T.toList != T.toList) = false := bne_self_eq_false _
  clear hT hU hM hQ hb0 htl hall hM0 o1 o2 o3 hr hf hn1 hn2 hrr er
  go_enter Tryd.func7, Tryd.ntmps7
  go_wp2_with fail
  refine (HF0.out _ HB0.out).mono ?_
  rintro e w1 ⟨rfl, ht⟩
  have HB1 := Lib.hid ht
  clear ht d0 d1 d2 d3
  obtain ⟨d0, d1, d2, d3⟩ := HC.out _ HB1.out
  go_wp2_with fail
  refine (HM0.out _ HB1.out).mono ?_
  rintro e w2 ⟨rfl, ht⟩
  have HB2 := Lib.hid ht
  clear ht d0 d1 d2 d3
  obtain ⟨d0, d1, d2, d3⟩ := HC.out _ HB2.out
  go_upto_region 4 with fail
  rw [← HQ.out]
  clear er' r0 r1
  go_wp2_with fail
  refine (RD.out _ HB2.out).mono ?_
  rintro e w3 ⟨rfl, ht⟩
  have HB3 := Lib.hid ht
  clear ht d0 d1 d2 d3
  obtain ⟨d0, d1, d2, d3⟩ := HC.out _ HB3.out
  go_upto_region 6 with fail
  obtain ⟨X, hX⟩ : ∃ X, X = ((w3.alloc (.cells #[.int .i64 k, .int .i64 n, .string t, lv] 24)).alloc (.cells #[.int .i64 1, .int .i64 0, .string ⟨#[]⟩, .slice none 0 0, .int .i64 6, .int .i64 0, .string ⟨#[]⟩, .slice (some ⟨w3.heap.size, 0, none⟩) 1 1, .int .i64 5, .int .i64 0, .string ⟨#[]⟩, .slice none 0 0] 24)).alloc (.cells #[.int .i64 5, .int .i64 0, .string ⟨#[]⟩, .slice (some ⟨w3.heap.size + 1, 0, none⟩) 3 3] 24) := ⟨_, rfl⟩
  have bX : Below w3.heap.size w3 X := by rw [hX]; exact ((below1 _ _).alloc (by simp) _).alloc (by simp; omega) _
  have x0 : X.heap[w3.heap.size]? = some (.cells #[.int .i64 k, .int .i64 n, .string t, lv] 24) := by rw [hX, old_at9 (by simp; omega), old_at9 (by simp)]; exact new_at9
  have x1 : X.heap[w3.heap.size + 1]? = some (.cells #[.int .i64 1, .int .i64 0, .string ⟨#[]⟩, .slice none 0 0, .int .i64 6, .int .i64 0, .string ⟨#[]⟩, .slice (some ⟨w3.heap.size, 0, none⟩) 1 1, .int .i64 5, .int .i64 0, .string ⟨#[]⟩, .slice none 0 0] 24) := by rw [hX, old_at9 (by simp)]; exact new_at8 (by simp)
  have x2 : X.heap[w3.heap.size + 1 + 1]? = some (.cells #[.int .i64 5, .int .i64 0, .string ⟨#[]⟩, .slice (some ⟨w3.heap.size + 1, 0, none⟩) 3 3] 24) := by rw [hX]; exact new_at8 (by simp)
  have HBX := Lib.hid (HB3.out.trans (bX.mono HB3.out.size))
  have hdx : DcAt X [.int .i64 k, .int .i64 n, .string t, lv] d := G.out X HBX.out
  have hd6 : DcAt X [.int .i64 6, .int .i64 0, .string ⟨#[]⟩, .slice (some ⟨w3.heap.size, 0, none⟩) 1 1] (.mk 6 0 ⟨#[]⟩ [d]) := (rowOne (P := fun g => g < X.heap.size) (lt_of_block x0) x0 hdx).dc9 6 0 ⟨#[]⟩
  have hds : DcAt X [.int .i64 5, .int .i64 0, .string ⟨#[]⟩, .slice (some ⟨w3.heap.size + 1, 0, none⟩) 3 3] (same9 d) := (rowThree (P := fun g => g < X.heap.size) (lt_of_block x1) x1 (leaf9 _ _ _ _ _) hd6 (leaf9 _ _ _ _ _)).dc9 5 0 ⟨#[]⟩
  have HDS := Lib.hid hds
  obtain ⟨e0, e1, e2, e3⟩ := four_of0 x2
  rw [← hX]
  clear hX bX x0 x1 x2 hdx hd6 hds d0 d1 d2 d3
  go_wp2_with fail
  refine (RX.out _ _ HBX.out HDS.out).mono ?_
  rintro e w4 ⟨rfl, ht⟩
  have HB4 := Lib.hid (HBX.out.trans (ht.mono HBX.out.size))
  clear ht e0 e1 e2 e3 HDS HBX
  obtain ⟨d0, d1, d2, d3⟩ := HC.out _ HB4.out
  go_upto_region 8 with fail
  obtain ⟨Y, hY⟩ : ∃ Y, Y = (w4.alloc (.cells #[.int .i64 k, .int .i64 n, .string t, lv] 24)).alloc (.cells #[.int .i64 7, .int .i64 0, .string ⟨#[]⟩, .slice (some ⟨w4.heap.size, 0, none⟩) 1 1] 24) := ⟨_, rfl⟩
  have bY : Below w4.heap.size w4 Y := by rw [hY]; exact (below1 _ _).alloc (by simp) _
  have y0 : Y.heap[w4.heap.size]? = some (.cells #[.int .i64 k, .int .i64 n, .string t, lv] 24) := by rw [hY, old_at9 (by simp)]; exact new_at9
  have y1 : Y.heap[w4.heap.size + 1]? = some (.cells #[.int .i64 7, .int .i64 0, .string ⟨#[]⟩, .slice (some ⟨w4.heap.size, 0, none⟩) 1 1] 24) := by rw [hY]; exact new_at8 (by simp)
  have HBY := Lib.hid (HB4.out.trans (bY.mono HB4.out.size))
  have hdy : DcAt Y [.int .i64 k, .int .i64 n, .string t, lv] d := G.out Y HBY.out
  have hdg : DcAt Y [.int .i64 7, .int .i64 0, .string ⟨#[]⟩, .slice (some ⟨w4.heap.size, 0, none⟩) 1 1] (grp d) := (rowOne (P := fun g => g < Y.heap.size) (lt_of_block y0) y0 hdy).dc9 7 0 ⟨#[]⟩
  have HDG := Lib.hid hdg
  have HY1 := Lib.hid y1
  obtain ⟨e0, e1, e2, e3⟩ := four_of0 y1
  rw [← hY]
  clear hY bY y0 y1 hdy hdg d0 d1 d2 d3
  go_wp2_with fail
  refine (RY.out _ _ HBY.out HDG.out).mono ?_
  rintro e w5 ⟨rfl, ht⟩
  have HB5 := Lib.hid (HBY.out.trans (ht.mono HBY.out.size))
  have HDG5 := Lib.hid (HDG.out.bel ht)
  obtain ⟨f0, f1, f2, f3⟩ := four_of0 ((ht.block _ (lt_of_block HY1.out)).trans HY1.out)
  clear ht e0 e1 e2 e3 HDG HBY HY1
  go_wp2_with fail
  refine (RM.out _ _ HB5.out HDG5.out).mono ?_
  rintro e w6 ⟨v, rfl, hbl, ht⟩
  have HB6 := Lib.hid (HB5.out.trans (ht.mono HB5.out.size))
  obtain ⟨a, cp, rfl, hcp0, hcp1⟩ := hbl.slice
  obtain ⟨mg, rfl, -, hmg, c0⟩ := hbl.at HM00.out
  have HBL := Lib.hid hbl
  clear ht hbl f0 f1 f2 f3 HDG5
  have mp0 : (0 : Int) < (M.length : Int) := by omega
  obtain ⟨d0, d1, d2, d3⟩ := HC.out _ HB6.out
  cases b0
  · go_wp2_with fail
    refine (HT.out _ HB6.out).mono ?_
    rintro e w7 ⟨rfl, ht⟩
    have HB7 := Lib.hid ht
    clear ht
    go_wp2_with fail
    go_ret
    exact ⟨rfl, UP.out _ HB7.out⟩
  · obtain ⟨h1, h2, h3⟩ := HALL.out rfl
    rw [h1] at RF
    simp only [Bool.false_eq_true, if_false, Bool.not_false] at RF
    rw [← h2] at RF
    have HAL := Lib.hid h3
    clear h1 h2 h3 HALL
    go_wp2_with fail
    refine (RF.out _ HB6.out).mono ?_
    rintro e w7 ⟨rfl, ht, htb7⟩
    have HB7 : Hid (Below Z.heap.size Z w7) := Lib.hid ht
    have hbl7 : BlR w7 w5.heap.size (.slice (some ⟨mg, 0, none⟩) M.length cp) M := by
      obtain ⟨h0, h1 | ⟨g, cap, cur, e, hb, hg, h2⟩⟩ := HBL.out
      · exact ⟨h0, .inl h1⟩
      · exact ⟨h0, .inr ⟨g, cap, cur, e, hb, (htb7.block g (lt_of_block hg)).trans hg, h2⟩⟩
    clear ht htb7 c0 d0 d1 d2 d3
    have HBL7 := Lib.hid hbl7
    clear hbl7
    go_wp2_with fail
    go_loopg [17] M.length (fun gn c wi => ∃ (i : Nat), gn = M.length - i ∧ i ≤ M.length ∧ c = .int .i64 (i : Int) ∧ wi = w7)
    case atStart => exact ⟨0, rfl, Nat.zero_le _, rfl, rfl⟩
    case round =>
      obtain ⟨i, hgn, hi, rfl, rfl⟩ := hrel
      by_cases hlt : i < M.length
      · have jn : (i : Int) < (M.length : Int) := by omega
        have j0 : (0 : Int) ≤ (i : Int) := Int.natCast_nonneg _
        have hmi : M[i]? = some true := by rw [List.getElem?_eq_getElem hlt]; exact congrArg some (HAL.out _ (List.getElem_mem hlt))
        obtain ⟨mg', he, -, -, c0⟩ := HBL7.out.at hmi
        simp only [Option.some.injEq, Addr.mk.injEq, and_true] at he
        subst he
        clear hmi
        go_wp2_with fail
        go_roundg (M.length - (i + 1))
        case measure => omega
        case rel => exact ⟨i + 1, rfl, hlt, by go_num, rfl⟩
      · obtain rfl : i = M.length := by omega
        have jn : ¬ (M.length : Int) < (M.length : Int) := by omega
        have uu : (U.toList == U.toList) = true := beq_self_eq_true _
        go_wp2_with fail
        refine (HT.out _ HB7.out).mono ?_
        rintro e w8 ⟨rfl, ht⟩
        have HB8 := Lib.hid ht
        clear ht
        go_wp2_with fail
        go_ret
        exact ⟨rfl, UP.out _ HB8.out⟩
set_option maxRecDepth 100000 in
theorem lifted (os : Os) (started : os.Started) (H : Type) (enc : TypeId × Value → H) :
    ReturnsInHanded {} Tryd.checked os 7 .any (fun w args => (Rows.renderSameSpec.pre enc Tryd.prog Tryd.f7 [] false w args ∧ laidMetH Tryd.prog utfLaid w) ∧ sizedMet enc Tryd.prog Tryd.f7 (OpenSpec.ofChange Rows.renderSameSpec) false w args)
      (Rows.renderSameSpec.post enc Tryd.prog Tryd.f7 false true false false) := by
  refine returnsInHanded_of_change_and (C := Tryd.checked) (X := fun w _ => laidMetH Tryd.prog utfLaid w) (fun _ _ _ hh h => h.of_heap hh) own started (by kernel_rfl) Tryd.func7
    (ChangeSpec.witness_shaped (enc := enc) (C := Tryd.checked) (os := os) (X := fun w _ => laidMetH Tryd.prog utfLaid w) false (World.doorLaid Tryd.prog 400 os) #[.agg #[.int .i64 0, .int .i64 0, .string ByteArray.empty, .slice none 0 0], .int .i64 0] 8 rfl (World.shaped_of_RefB (by kernel_rfl) (by kernel_rfl)) (by kernel_rfl) (by kernel_rfl) (by kernel_rfl) (door_met os _)) ?_
  intro W base args ds gs before hval0 hW _ _ hL _
  have hval : ∀ (j : Nat) t v, Tryd.f7.params[j]? = some t → args[j]? = some v → Value.okWide Tryd.prog W .any base t v := hval0
  have hW' := hW
  obtain ⟨p, q, hA0, hV, rfl, hfz, hnd⟩ := hW
  have hA : DataW.TrodAll enc Tryd.prog W 0 (fun _ => true) true Tryd.f7.params.toList args.toList ds p := hA0
  rw [Tryd.params7] at hA hval
  obtain ⟨v0, vs0, d0, ds0, p0, q0, hargs, rfl, rfl, h0, r0⟩ := trodAll_cons hA
  obtain ⟨v1, vs1, d1, ds1, p1, q1, rfl, rfl, rfl, h1, r1⟩ := trodAll_cons r0
  obtain ⟨rfl, rfl, rfl⟩ := trodAll_nil r1
  obtain rfl : args = #[v0, v1] := by cases args; simp_all
  obtain ⟨rfl, rfl⟩ := trodVars_none hV
  have k0 := h0
  have lt0 : ∀ x ∈ p0, x.block < W.heap.size := by obtain ⟨m, hm⟩ := k0; exact DataW.trod_lt m _ _ _ hm
  obtain ⟨c0, n0, rfl, g0⟩ := open_doc (hval 0 24 v0 rfl rfl) h0
  obtain ⟨a1, rfl, rfl, rfl, w1⟩ := open_int Tryd.underlying3 (hval 1 3 v1 rfl rfl) h1
  clear hA0 hval0
  refine (walk c0 n0 a1 W g0 (tabs_of_laid hL)).mono fun e W' ⟨he, bel⟩ => ?_
  subst he
  exact ⟨_, rfl, _, _, _, [], _, [], hW', trodAll_mk1 (shut_bool Tryd.underlying4 _), (trodAll_cons_mk (Below.trod laidOut (by kernel_rfl) (of_decide_eq_true (by kernel_rfl)) k0 bel lt0) (trodAll_cons_mk (shut_int Tryd.underlying3 w1) trodAll_mk0)), rfl, bel.frame _, fun h => by cases h⟩
theorem over : Rows.RenderSameSaid :=
  OpenClaim.holds_of_wide 7 Tryd.f7 rfl rfl rfl rfl rfl rfl rfl ⟨rfl, rfl, rfl, rfl, rfl⟩ rfl rfl rfl rfl rfl (by kernel_rfl) Tryd.func7 (by kernel_rfl)
    (of_decide_eq_true (by kernel_rfl)) (by unfold Func.isWrapper; first | (rw [if_pos (by decide +kernel)]; kernel_rfl) | (rw [if_neg (by decide +kernel)]; exact ⟨rfl, rfl⟩))
    (fun os started H enc _ => lifted os started H enc)
/-- THE TIED CARD. -/
theorem proved : Rows.RenderSameCardSaid :=
  Claim7.holds_tied_plain_at .later [] [.data, .data, .data] true Rows.renderSameCard.stood.harness false
    over (fun _ h => by cases h) (by kernel_rfl) (fun _ h => by cases h) renderSame_row_tie rfl ⟨rfl, rfl⟩ (by kernel_rfl) rfl
    (fun f fn hf hfn => by
      obtain rfl : f = 7 := Option.some.inj ((show Tryd.prog.funcNamed "galley/galleylaw17.RenderSame" = some 7 by kernel_rfl).symm.trans hf) |>.symm
      obtain rfl : fn = Tryd.f7 := (Option.some.inj (Tryd.func7.symm.trans hfn)).symm
      exact ⟨by kernel_rfl, fun j t ht => by
        rw [Tryd.params7] at ht
        have hm : t ∈ [24, 3] := by
          have := Array.mem_of_getElem? ht
          simpa using this
        have hall : ([24, 3].all fun u => !Tryd.prog.wantsStandIn u) = true := by kernel_rfl
        exact (show Tryd.prog.wantsStandIn t = false by simpa using List.all_eq_true.1 hall t hm)⟩)
    (by kernel_rfl)
#print axioms proved
end Go.Proofs.YtbjgoigdhijbgaaDoor.renderSame
