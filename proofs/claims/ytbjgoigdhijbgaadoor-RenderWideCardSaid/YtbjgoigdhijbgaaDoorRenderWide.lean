/-
  What can stand on one line and fits does; what is wide enough is all on one line, if nothing is forced (promise 17.3): for every document the statement RenderWide returns true. The three tables are tied to the program's text by the given ties; no further condition.
-/
import Derived.Test.YtbjgoigdhijbgaaDoorUtfLaid
import Derived.Test.YtbjgoigdhijbgaaDoorCards
import Derived.Test.YtbjgoigdhijbgaaDoorTie
import Derived.Test.YtbjgoigdhijbgaaDoorBase
import Derived.Test.YtbjgoigdhijbgaaDoorDoc
import Derived.Test.YtbjgoigdhijbgaaDoorRendTold
set_option linter.all false
namespace Go.Proofs.YtbjgoigdhijbgaaDoor.renderWide
open Go.ChangeShapes Go.WideShapes Go.ChangeAt Go.RowKit Go.PlainAid Go.Proofs.YtbjgoigdhijbgaaDoor

theorem mod_lt (n : Nat) (hn : 0 < n) (x : Int) : ∃ r : Nat, r < n ∧ (IntKind.u64.wrap x).tmod n = (r : Int) := by
  have := IntKind.wrap_u64 x
  have h0 := Int.tmod_nonneg (a := IntKind.u64.wrap x) n (by omega)
  have h1 := Int.tmod_lt_of_pos (IntKind.u64.wrap x) (b := n) (by omega)
  have h2 := Int.toNat_of_nonneg h0
  exact ⟨((IntKind.u64.wrap x).tmod n).toNat, by omega, h2.symm⟩
theorem b0_nil : ((⟨#[]⟩ : ByteArray).toList == ([] : List UInt8)) = true := by decide +kernel
theorem c0_nil : (⟨#[]⟩ : ByteArray).data.toList.contains 10 = false := by decide +kernel
theorem drt_same {d : Dc} (h : drt d = true) : drt (same9 d) = true := by
  simp [same9, nul9, drt, drtL, dal, h, b0_nil, c0_nil]
theorem drt_grp {d : Dc} (h : drt d = true) : drt (grp d) = true := by
  simp [grp, drt, drtL, dal, h, b0_nil]
theorem dtz_grp {d : Dc} (h : dtz 1048576 d) : dtz 1048576 (grp d) := ⟨by show (0 : Nat) ≤ 1048576; omega, h, trivial⟩
theorem dtz_same {d : Dc} (h : dtz 1048576 d) : dtz 1048576 (same9 d) :=
  ⟨by show (0 : Nat) ≤ 1048576; omega, ⟨by show (0 : Nat) ≤ 1048576; omega, trivial⟩, ⟨by show (0 : Nat) ≤ 1048576; omega, h, trivial⟩, ⟨by show (0 : Nat) ≤ 1048576; omega, trivial⟩, trivial⟩
theorem render_is {d : Dc} {c : List Value} {W : Int} {w : World} (hd : dcnt d ≤ 90000) (hz : dtz 1048576 d) (hr : drt d = true) (h0 : 1 ≤ W) (h1 : W ≤ 10000) (h : DcAt w c d) (ht : Tabs w) (T : ByteArray) (hT : txtD W d = T) :
    Calls Tryd.prog 11 #[.agg c.toArray, .int .i64 W] w fun e w' => e = .returned (.tuple #[.string T, .int .i64 0]) ∧ Below w.heap.size w w' := by
  have := prender_any d hd hz c W w h ht
  have ho : okR W d = true := by simp [okR, hr, h0, h1]
  rw [ho, if_pos rfl, if_pos rfl, hT] at this
  exact this
theorem modes_is {d : Dc} {c : List Value} {W : Int} {w : World} (hd : dcnt d ≤ 90000) (hz : dtz 1048576 d) (hr : drt d = true) (h0 : 1 ≤ W) (h1 : W ≤ 10000) (h : DcAt w c d) (ht : Tabs w) (M : List Bool) (hM : mdsD W d = M) :
    Calls Tryd.prog 13 #[.agg c.toArray, .int .i64 W] w fun e w' => ∃ v, e = .returned v ∧ BlR w' w.heap.size v M ∧ Below w.heap.size w w' := by
  have := pmodes_any d hd hz c W w h ht
  have ho : okR W d = true := by simp [okR, hr, h0, h1]
  rw [ho, if_pos rfl, hM] at this
  exact this
theorem mds_len (W : Int) (d : Dc) : (mdsD W d).length ≤ dcnt d := by
  have h1 := mdsL_le (laidD W d)
  have h2 := congrArg List.length (laidD_all W d)
  rw [List.length_map, prO_len] at h2
  rw [h2] at h1
  exact h1
theorem drt_of_grp {d : Dc} (h : drt (grp d) = true) : drt d = true := drt_at (drt_kids h) (List.mem_cons_self ..)
set_option maxRecDepth 100000 in
set_option maxHeartbeats 8000000 in
theorem walk (c : List Value) (d : Dc) (w : World) (g : DcAt w c d) (htb : Tabs w) :
    Calls Tryd.prog 5 #[.agg c.toArray] w fun e w' => e = .returned (.bool true) ∧ Below w.heap.size w w' := by
  obtain ⟨k, n, t, lv, rfl⟩ : ∃ k n t lv, c = [.int .i64 k, .int .i64 n, .string t, lv] := by
    cases d with
    | mk k n t l => obtain ⟨lv, cs, rfl, -⟩ := g.inv; exact ⟨_, _, _, _, rfl⟩
  obtain ⟨Z, hZ⟩ : ∃ Z, Z = ((w.alloc (.cells #[.int .i64 k, .int .i64 n, .string t, lv] 24)).alloc (.cells #[.int .i64 k, .int .i64 n, .string t, lv] 24)).alloc (.cells #[.int .i64 7, .int .i64 0, .string ⟨#[]⟩, .slice (some ⟨w.heap.size + 1, 0, none⟩) 1 1] 24) := ⟨_, rfl⟩
  have hbW : Below w.heap.size w Z := by rw [hZ]; exact ((below1 _ _).alloc (by simp) _).alloc (by simp; omega) _
  have z1 : Z.heap[w.heap.size + 1]? = some (.cells #[.int .i64 k, .int .i64 n, .string t, lv] 24) := by rw [hZ, old_at9 (by simp)]; exact new_at8 (by simp)
  have z2 : Z.heap[w.heap.size + 1 + 1]? = some (.cells #[.int .i64 7, .int .i64 0, .string ⟨#[]⟩, .slice (some ⟨w.heap.size + 1, 0, none⟩) 1 1] 24) := by rw [hZ]; exact new_at8 (by simp)
  have hgd : DcAt Z #[.int .i64 7, .int .i64 0, .string ⟨#[]⟩, .slice (some ⟨w.heap.size + 1, 0, none⟩) 1 1].toList (grp d) := (rowOne (P := fun g => g < Z.heap.size) (lt_of_block z1) z1 (g.bel hbW)).dc9 7 0 ⟨#[]⟩
  have HC := Lib.hid (fun W (hb : Below Z.heap.size Z W) => four_of0 ((hb.block _ (lt_of_block z2)).trans z2))
  have UP := Lib.hid (fun W (h : Below Z.heap.size Z W) => hbW.trans (h.mono hbW.size))
  have G := Lib.hid (fun W (h : Below Z.heap.size Z W) => hgd.bel h)
  have HTZ : Hid (∀ W, Below Z.heap.size Z W → Tabs W) := Lib.hid fun W h => htb.below (UP.out W h)
  have HB0 : Hid (Below Z.heap.size Z Z) := Lib.hid (Below.refl _ _)
  have HZE := Lib.hid hZ
  have HT : Hid (∀ W, Below Z.heap.size Z W → Calls Tryd.prog 10 #[] W fun e w' => e = .returned (.bool true) ∧ Below Z.heap.size Z w') := Lib.hid fun W hb => (told17_any W (HTZ.out W hb)).mono fun e w' ⟨h1, h2⟩ => ⟨h1, hb.trans (h2.mono hb.size)⟩
  have HTT : Hid (∀ W, Below Z.heap.size Z W → Calls Tryd.prog 10 #[] W fun e w' => e = .returned (.bool true) ∧ Below W.heap.size W w') := Lib.hid fun W hb => told17_any W (HTZ.out W hb)
  have HF0 : Hid (∀ W, Below Z.heap.size Z W → Calls Tryd.prog 9 #[.agg #[.int .i64 7, .int .i64 0, .string ⟨#[]⟩, .slice (some ⟨w.heap.size + 1, 0, none⟩) 1 1]] W fun e w' => e = .returned (.bool (fwD (grp d))) ∧ Below Z.heap.size Z w') := Lib.hid fun W hb => (fwD_any (grp d) _ W (G.out W hb)).mono fun e w' ⟨h1, h2⟩ => ⟨h1, hb.trans (h2.mono hb.size)⟩
  obtain ⟨d0, d1, d2, d3⟩ := HC.out _ HB0.out
  clear g hZ hbW htb z1 z2 hgd
  cases hf : fwD (grp d)
  · rw [hf] at HF0
    go_enter Tryd.func5, Tryd.ntmps5
    go_upto_region 2 with fail
    rw [← HZE.out]
    go_wp2_with fail
    refine (HF0.out _ HB0.out).mono ?_
    rintro e w1 ⟨rfl, ht⟩
    have HB1 := Lib.hid ht
    clear ht d0 d1 d2 d3
    obtain ⟨d0, d1, d2, d3⟩ := HC.out _ HB1.out
    go_wp2_with fail
    refine (HT.out _ HB1.out).mono ?_
    rintro e w2 ⟨rfl, ht⟩
    have HB2 := Lib.hid ht
    clear ht
    go_wp2_with fail
    go_ret
    exact ⟨rfl, UP.out _ HB2.out⟩
  rw [hf] at HF0
  obtain ⟨o1, o2⟩ := fwD_ok hf
  have o3 := dtz_mono (show 100 ≤ 1048576 by omega) _ o2
  have HM0 : Hid (∀ W, Below Z.heap.size Z W → Calls Tryd.prog 15 #[.agg #[.int .i64 7, .int .i64 0, .string ⟨#[]⟩, .slice (some ⟨w.heap.size + 1, 0, none⟩) 1 1]] W fun e w' => e = .returned (.bool (drt (grp d))) ∧ Below Z.heap.size Z w') := Lib.hid fun W hb => (rdmay_any (grp d) (by omega) o3 _ W (G.out W hb)).mono fun e w' ⟨h1, h2⟩ => ⟨h1, hb.trans (h2.mono hb.size)⟩
  have HFO : Hid (∀ W, Below Z.heap.size Z W → Calls Tryd.prog 17 #[.agg #[.int .i64 7, .int .i64 0, .string ⟨#[]⟩, .slice (some ⟨w.heap.size + 1, 0, none⟩) 1 1]] W fun e w' => e = .returned (.bool (dfrc (grp d))) ∧ Below Z.heap.size Z w') := Lib.hid fun W hb => (rdforced_any 1048576 (Nat.le_refl _) (grp d) (by omega) _ W (G.out W hb)).mono fun e w' ⟨h1, h2⟩ => ⟨h1, hb.trans (h2.mono hb.size)⟩
  cases hr : drt (grp d)
  · rw [hr] at HM0
    clear o1 o2 o3
    go_enter Tryd.func5, Tryd.ntmps5
    go_upto_region 2 with fail
    rw [← HZE.out]
    go_wp2_with fail
    refine (HF0.out _ HB0.out).mono ?_
    rintro e w1 ⟨rfl, ht⟩
    have HB1 := Lib.hid ht
    clear ht d0 d1 d2 d3
    obtain ⟨d0, d1, d2, d3⟩ := HC.out _ HB1.out
    go_wp2_with fail
    refine (HM0.out _ HB1.out).mono ?_
    rintro e w2 ⟨rfl, ht⟩
    have HB2 := Lib.hid ht
    clear ht d0 d1 d2 d3
    obtain ⟨d0, d1, d2, d3⟩ := HC.out _ HB2.out
    go_wp2_with fail
    refine (HT.out _ HB2.out).mono ?_
    rintro e w3 ⟨rfl, ht⟩
    have HB3 := Lib.hid ht
    clear ht
    go_wp2_with fail
    go_ret
    exact ⟨rfl, UP.out _ HB3.out⟩
  rw [hr] at HM0
  cases hc : dfrc (grp d)
  rotate_left
  · rw [hc] at HFO
    clear o1 o2 o3
    go_enter Tryd.func5, Tryd.ntmps5
    go_upto_region 2 with fail
    rw [← HZE.out]
    go_wp2_with fail
    refine (HF0.out _ HB0.out).mono ?_
    rintro e w1 ⟨rfl, ht⟩
    have HB1 := Lib.hid ht
    clear ht d0 d1 d2 d3
    obtain ⟨d0, d1, d2, d3⟩ := HC.out _ HB1.out
    go_wp2_with fail
    refine (HM0.out _ HB1.out).mono ?_
    rintro e w2 ⟨rfl, ht⟩
    have HB2 := Lib.hid ht
    clear ht d0 d1 d2 d3
    obtain ⟨d0, d1, d2, d3⟩ := HC.out _ HB2.out
    go_wp2_with fail
    refine (HFO.out _ HB2.out).mono ?_
    rintro e w3 ⟨rfl, ht⟩
    have HB3 := Lib.hid ht
    clear ht d0 d1 d2 d3
    obtain ⟨d0, d1, d2, d3⟩ := HC.out _ HB3.out
    go_wp2_with fail
    refine (HT.out _ HB3.out).mono ?_
    rintro e w4 ⟨rfl, ht⟩
    have HB4 := Lib.hid ht
    clear ht
    go_wp2_with fail
    go_ret
    exact ⟨rfl, UP.out _ HB4.out⟩
  rw [hc] at HFO
  have hrd := drt_of_grp hr
  have hfd : dfrc d = false := by rw [← grp_frc]; exact hc
  have RF : Hid (∀ W, Below Z.heap.size Z W → Calls Tryd.prog 18 #[.agg #[.int .i64 7, .int .i64 0, .string ⟨#[]⟩, .slice (some ⟨w.heap.size + 1, 0, none⟩) 1 1]] W fun e w' => e = .returned (.tuple #[.string (if dfrc (grp d) = true then ⟨#[]⟩ else ctx (lvs (grp d))), .bool (!dfrc (grp d))]) ∧ Below Z.heap.size Z w') := Lib.hid fun W hb => (rFlat_any (grp d) (by omega) hr o3 _ W (G.out W hb)).mono fun e w' ⟨h1, h2⟩ => ⟨h1, hb.trans (h2.mono hb.size)⟩
  have RW : Hid (∀ W, Below Z.heap.size Z W → Calls Tryd.prog 19 #[.agg #[.int .i64 7, .int .i64 0, .string ⟨#[]⟩, .slice (some ⟨w.heap.size + 1, 0, none⟩) 1 1]] W fun e w' => e = .returned (.int .i64 (wsum (lvs (grp d)) : Int)) ∧ Below Z.heap.size Z w') := Lib.hid fun W hb => (rwidth_any 90000 (Nat.le_refl _) (grp d) (by omega) hr o3 _ W (G.out W hb)).mono fun e w' ⟨h1, h2⟩ => ⟨h1, hb.trans (h2.mono hb.size)⟩
  rw [hc, if_neg (by simp), grp_lvs] at RF
  rw [grp_lvs] at RW
  obtain ⟨M, hM⟩ : ∃ M, M = wsum (lvs d) := ⟨_, rfl⟩
  obtain ⟨S, hS⟩ : ∃ S, S = ctx (lvs d) := ⟨_, rfl⟩
  rw [← hS] at RF
  rw [← hM] at RW
  by_cases hw : 10000 < M
  · have hw' : (10000 : Int) < (M : Int) := by omega
    clear o1 o2 o3 hM hS hr hf hc hw
    go_enter Tryd.func5, Tryd.ntmps5
    go_upto_region 2 with fail
    rw [← HZE.out]
    go_wp2_with fail
    refine (HF0.out _ HB0.out).mono ?_
    rintro e w1 ⟨rfl, ht⟩
    have HB1 := Lib.hid ht
    clear ht d0 d1 d2 d3
    obtain ⟨d0, d1, d2, d3⟩ := HC.out _ HB1.out
    go_wp2_with fail
    refine (HM0.out _ HB1.out).mono ?_
    rintro e w2 ⟨rfl, ht⟩
    have HB2 := Lib.hid ht
    clear ht d0 d1 d2 d3
    obtain ⟨d0, d1, d2, d3⟩ := HC.out _ HB2.out
    go_wp2_with fail
    refine (HFO.out _ HB2.out).mono ?_
    rintro e w3 ⟨rfl, ht⟩
    have HB3 := Lib.hid ht
    clear ht d0 d1 d2 d3
    obtain ⟨d0, d1, d2, d3⟩ := HC.out _ HB3.out
    go_wp2_with fail
    refine (RF.out _ HB3.out).mono ?_
    rintro e w4 ⟨rfl, ht⟩
    have HB4 := Lib.hid ht
    clear ht d0 d1 d2 d3
    obtain ⟨d0, d1, d2, d3⟩ := HC.out _ HB4.out
    go_wp2_with fail
    refine (RW.out _ HB4.out).mono ?_
    rintro e w5 ⟨rfl, ht⟩
    have HB5 := Lib.hid ht
    clear ht d0 d1 d2 d3
    obtain ⟨d0, d1, d2, d3⟩ := HC.out _ HB5.out
    go_wp2_with fail
    refine (HT.out _ HB5.out).mono ?_
    rintro e w6 ⟨rfl, ht⟩
    have HB6 := Lib.hid ht
    clear ht
    go_wp2_with fail
    go_ret
    exact ⟨rfl, UP.out _ HB6.out⟩
  have hw' : (M : Int) ≤ 10000 := by omega
  obtain ⟨Q, hQ⟩ : ∃ Q : Int, Q = max (M : Int) 1 := ⟨_, rfl⟩
  obtain ⟨P, hP⟩ : ∃ P : Int, P = max ((M : Int) - 1) 1 := ⟨_, rfl⟩
  have q0 : 1 ≤ Q ∧ Q ≤ 10000 ∧ (M : Int) ≤ Q := by omega
  have p0 : 1 ≤ P ∧ P ≤ 10000 := by omega
  have hdl : dcnt (grp d) ≤ 90000 := by omega
  have hg1 := grp_flat (W := Q) hr hfd (by rw [← hM]; exact q0.2.2)
  have hg2 := grp_flat (W := 10000) hr hfd (by rw [← hM]; omega)
  obtain ⟨t1, ht1⟩ := mds_grp Q d
  obtain ⟨t2, ht2⟩ := mds_grp P d
  rw [hfd, ← hM] at ht1 ht2
  rw [decide_eq_true q0.2.2] at ht1
  obtain ⟨bp, hbp⟩ : ∃ b, b = decide ((M : Int) ≤ P) := ⟨_, rfl⟩
  rw [← hbp] at ht2
  obtain ⟨M1, hM1⟩ : ∃ m, m = mdsD Q (grp d) := ⟨_, rfl⟩
  obtain ⟨M2, hM2⟩ : ∃ m, m = mdsD P (grp d) := ⟨_, rfl⟩
  have l1 : M1.length ≤ 600 := by have := mds_len Q (grp d); rw [hM1]; omega
  have l2 : M2.length ≤ 600 := by have := mds_len P (grp d); rw [hM2]; omega
  rw [← hM1] at ht1
  rw [← hM2] at ht2
  have R1 : Hid (∀ W, Below Z.heap.size Z W → Calls Tryd.prog 11 #[.agg #[.int .i64 7, .int .i64 0, .string ⟨#[]⟩, .slice (some ⟨w.heap.size + 1, 0, none⟩) 1 1], .int .i64 Q] W fun e w' => e = .returned (.tuple #[.string S, .int .i64 0]) ∧ Below Z.heap.size Z w') := Lib.hid fun W hb => (render_is hdl o3 hr q0.1 q0.2.1 (G.out W hb) (HTZ.out W hb) S (hg1.1.trans hS.symm)).mono fun e w' ⟨h1, h2⟩ => ⟨h1, hb.trans (h2.mono hb.size)⟩
  have R2 : Hid (∀ W, Below Z.heap.size Z W → Calls Tryd.prog 11 #[.agg #[.int .i64 7, .int .i64 0, .string ⟨#[]⟩, .slice (some ⟨w.heap.size + 1, 0, none⟩) 1 1], .int .i64 10000] W fun e w' => e = .returned (.tuple #[.string S, .int .i64 0]) ∧ Below Z.heap.size Z w') := Lib.hid fun W hb => (render_is hdl o3 hr (by decide) (by decide) (G.out W hb) (HTZ.out W hb) S (hg2.1.trans hS.symm)).mono fun e w' ⟨h1, h2⟩ => ⟨h1, hb.trans (h2.mono hb.size)⟩
  have N1 : Hid (∀ W, Below Z.heap.size Z W → Calls Tryd.prog 13 #[.agg #[.int .i64 7, .int .i64 0, .string ⟨#[]⟩, .slice (some ⟨w.heap.size + 1, 0, none⟩) 1 1], .int .i64 Q] W fun e w' => ∃ v, e = .returned v ∧ BlR w' W.heap.size v M1 ∧ Below W.heap.size W w') := Lib.hid fun W hb => modes_is hdl o3 hr q0.1 q0.2.1 (G.out W hb) (HTZ.out W hb) M1 hM1.symm
  have N2 : Hid (∀ W, Below Z.heap.size Z W → Calls Tryd.prog 13 #[.agg #[.int .i64 7, .int .i64 0, .string ⟨#[]⟩, .slice (some ⟨w.heap.size + 1, 0, none⟩) 1 1], .int .i64 P] W fun e w' => ∃ v, e = .returned v ∧ BlR w' W.heap.size v M2 ∧ Below W.heap.size W w') := Lib.hid fun W hb => modes_is hdl o3 hr p0.1 p0.2 (G.out W hb) (HTZ.out W hb) M2 hM2.symm
  have m1 : M1[0]? = some true := by rw [ht1]; rfl
  have m2 : M2[0]? = some bp := by rw [ht2]; rfl
  have n1 : 0 < M1.length := by rw [ht1]; simp
  have n2 : 0 < M2.length := by rw [ht2]; simp
  have HM1 := Lib.hid m1
  have HM2 := Lib.hid m2
  have e1 : ((M1.length : Int) == 0) = false := beq_false_of_ne (by omega)
  have i1 : (0 : Int) < (M1.length : Int) := by omega
  have i2 : (0 : Int) < (M2.length : Int) := by omega
  have ss : (S.toList != S.toList) = false := bne_self_eq_false _
  have hw1 : IntKind.i64.wrap ((M : Int) - 1) = (M : Int) - 1 := by rw [IntKind.wrap_i64]; omega
  have HQE := Lib.hid hQ
  have HPE := Lib.hid hP
  have HBP := Lib.hid hbp
  clear o1 o2 o3 hM hS hr hf hc hw hrd hfd hg1 hg2 ht1 ht2 hM1 hM2 m1 m2 q0 p0 hdl hQ hP hbp l1 l2 n1 n2
  go_enter Tryd.func5, Tryd.ntmps5
  go_upto_region 2 with fail
  rw [← HZE.out]
  go_wp2_with fail
  refine (HF0.out _ HB0.out).mono ?_
  rintro e w1 ⟨rfl, ht⟩
  have HB1 := Lib.hid ht
  clear ht d0 d1 d2 d3
  obtain ⟨d0, d1, d2, d3⟩ := HC.out _ HB1.out
  go_wp2_with fail
  refine (HM0.out _ HB1.out).mono ?_
  rintro e w2 ⟨rfl, ht⟩
  have HB2 := Lib.hid ht
  clear ht d0 d1 d2 d3
  obtain ⟨d0, d1, d2, d3⟩ := HC.out _ HB2.out
  go_wp2_with fail
  refine (HFO.out _ HB2.out).mono ?_
  rintro e w3 ⟨rfl, ht⟩
  have HB3 := Lib.hid ht
  clear ht d0 d1 d2 d3
  obtain ⟨d0, d1, d2, d3⟩ := HC.out _ HB3.out
  go_wp2_with fail
  refine (RF.out _ HB3.out).mono ?_
  rintro e w4 ⟨rfl, ht⟩
  have HB4 := Lib.hid ht
  clear ht d0 d1 d2 d3
  obtain ⟨d0, d1, d2, d3⟩ := HC.out _ HB4.out
  go_wp2_with fail
  refine (RW.out _ HB4.out).mono ?_
  rintro e w5 ⟨rfl, ht⟩
  have HB5 := Lib.hid ht
  clear ht d0 d1 d2 d3
  obtain ⟨d0, d1, d2, d3⟩ := HC.out _ HB5.out
  have mx1 : max (M : Int) 1 = Q := HQE.out.symm
  have mx2 : max ((M : Int) - 1) 1 = P := HPE.out.symm
  go_wp2_with fail
  refine (R1.out _ HB5.out).mono ?_
  rintro e w6 ⟨rfl, ht⟩
  have HB6 := Lib.hid ht
  clear ht d0 d1 d2 d3
  obtain ⟨d0, d1, d2, d3⟩ := HC.out _ HB6.out
  go_wp2_with fail
  refine (R2.out _ HB6.out).mono ?_
  rintro e w7 ⟨rfl, ht⟩
  have HB7 := Lib.hid ht
  clear ht d0 d1 d2 d3
  obtain ⟨d0, d1, d2, d3⟩ := HC.out _ HB7.out
  go_wp2_with fail
  refine (N1.out _ HB7.out).mono ?_
  rintro e w8 ⟨v, rfl, hbl, hb⟩
  have HB8 := Lib.hid (HB7.out.trans (hb.mono HB7.out.size))
  obtain ⟨a1, cp1, rfl, hcp1, hcq1⟩ := hbl.slice
  obtain ⟨mg1, rfl, -, hmg1, c1⟩ := hbl.at HM1.out
  clear hb hbl d0 d1 d2 d3
  obtain ⟨d0, d1, d2, d3⟩ := HC.out _ HB8.out
  go_wp2_with fail
  refine (N2.out _ HB8.out).mono ?_
  rintro e w9 ⟨v, rfl, hbl, hb⟩
  have HB9 := Lib.hid (HB8.out.trans (hb.mono HB8.out.size))
  obtain ⟨a2, cp2, rfl, hcp2, hcq2⟩ := hbl.slice
  obtain ⟨mg2, rfl, -, hmg2, c2⟩ := hbl.at HM2.out
  clear hb hbl d0 d1 d2 d3
  obtain ⟨d0, d1, d2, d3⟩ := HC.out _ HB9.out
  go_wp2_with fail
  refine (HTT.out _ HB9.out).mono ?_
  rintro e w10 ⟨rfl, hb⟩
  have HB10 := Lib.hid (HB9.out.trans (hb.mono HB9.out.size))
  have c3 := (hb.cell (p := ⟨mg2, 0, none⟩) hmg2).trans c2
  clear hb c1 c2 d0 d1 d2 d3
  cases bp
  · have hle : ¬ (M : Int) ≤ P := by have := HBP.out; simp at this; omega
    have hlt : P < (M : Int) := by omega
    go_wp2_with fail
    go_ret
    exact ⟨by first | rfl | (simp; done) | (simp; omega), UP.out _ HB10.out⟩
  · have hle : (M : Int) ≤ P := by have := HBP.out; simp at this; omega
    go_wp2_with fail
    go_ret
    exact ⟨by first | rfl | (simp; done) | (simp; omega), UP.out _ HB10.out⟩
set_option maxRecDepth 100000 in
theorem lifted (os : Os) (started : os.Started) (H : Type) (enc : TypeId × Value → H) :
    ReturnsInHanded {} Tryd.checked os 5 .any (fun w args => (Rows.renderWideSpec.pre enc Tryd.prog Tryd.f5 [] false w args ∧ laidMetH Tryd.prog utfLaid w) ∧ sizedMet enc Tryd.prog Tryd.f5 (OpenSpec.ofChange Rows.renderWideSpec) false w args)
      (Rows.renderWideSpec.post enc Tryd.prog Tryd.f5 false true false false) := by
  refine returnsInHanded_of_change_and (C := Tryd.checked) (X := fun w _ => laidMetH Tryd.prog utfLaid w) (fun _ _ _ hh h => h.of_heap hh) own started (by kernel_rfl) Tryd.func5
    (ChangeSpec.witness_shaped (enc := enc) (C := Tryd.checked) (os := os) (X := fun w _ => laidMetH Tryd.prog utfLaid w) false (World.doorLaid Tryd.prog 400 os) #[.agg #[.int .i64 0, .int .i64 0, .string ByteArray.empty, .slice none 0 0]] 8 rfl (World.shaped_of_RefB (by kernel_rfl) (by kernel_rfl)) (by kernel_rfl) (by kernel_rfl) (by kernel_rfl) (door_met os _)) ?_
  intro W base args ds gs before hval0 hW _ _ hL _
  have hval : ∀ (j : Nat) t v, Tryd.f5.params[j]? = some t → args[j]? = some v → Value.okWide Tryd.prog W .any base t v := hval0
  have hW' := hW
  obtain ⟨p, q, hA0, hV, rfl, hfz, hnd⟩ := hW
  have hA : DataW.TrodAll enc Tryd.prog W 0 (fun _ => true) true Tryd.f5.params.toList args.toList ds p := hA0
  rw [Tryd.params5] at hA hval
  obtain ⟨v0, vs0, d0, ds0, p0, q0, hargs, rfl, rfl, h0, r0⟩ := trodAll_cons hA
  obtain ⟨rfl, rfl, rfl⟩ := trodAll_nil r0
  obtain rfl : args = #[v0] := by cases args; simp_all
  obtain ⟨rfl, rfl⟩ := trodVars_none hV
  have k0 := h0
  have lt0 : ∀ x ∈ p0, x.block < W.heap.size := by obtain ⟨m, hm⟩ := k0; exact DataW.trod_lt m _ _ _ hm
  obtain ⟨c0, n0, rfl, g0⟩ := open_doc (hval 0 24 v0 rfl rfl) h0
  clear hA0 hval0
  refine (walk c0 n0 W g0 (tabs_of_laid hL)).mono fun e W' ⟨he, bel⟩ => ?_
  subst he
  exact ⟨_, rfl, _, _, _, [], _, [], hW', trodAll_mk1 (shut_bool Tryd.underlying4 _), (trodAll_cons_mk (Below.trod laidOut (by kernel_rfl) (of_decide_eq_true (by kernel_rfl)) k0 bel lt0) trodAll_mk0), rfl, bel.frame _, fun h => by cases h⟩
theorem over : Rows.RenderWideSaid :=
  OpenClaim.holds_of_wide 5 Tryd.f5 rfl rfl rfl rfl rfl rfl rfl ⟨rfl, rfl, rfl, rfl, rfl⟩ rfl rfl rfl rfl rfl (by kernel_rfl) Tryd.func5 (by kernel_rfl)
    (of_decide_eq_true (by kernel_rfl)) (by unfold Func.isWrapper; first | (rw [if_pos (by decide +kernel)]; kernel_rfl) | (rw [if_neg (by decide +kernel)]; exact ⟨rfl, rfl⟩))
    (fun os started H enc _ => lifted os started H enc)
/-- THE TIED CARD. -/
theorem proved : Rows.RenderWideCardSaid :=
  Claim7.holds_tied_plain_at .later [] [.data, .data, .data] true Rows.renderWideCard.stood.harness false
    over (fun _ h => by cases h) (by kernel_rfl) (fun _ h => by cases h) renderWide_row_tie rfl ⟨rfl, rfl⟩ (by kernel_rfl) rfl
    (fun f fn hf hfn => by
      obtain rfl : f = 5 := Option.some.inj ((show Tryd.prog.funcNamed "galley/galleylaw17.RenderWide" = some 5 by kernel_rfl).symm.trans hf) |>.symm
      obtain rfl : fn = Tryd.f5 := (Option.some.inj (Tryd.func5.symm.trans hfn)).symm
      exact ⟨by kernel_rfl, fun j t ht => by
        rw [Tryd.params5] at ht
        have hm : t ∈ [24] := by
          have := Array.mem_of_getElem? ht
          simpa using this
        have hall : ([24].all fun u => !Tryd.prog.wantsStandIn u) = true := by kernel_rfl
        exact (show Tryd.prog.wantsStandIn t = false by simpa using List.all_eq_true.1 hall t hm)⟩)
    (by kernel_rfl)
#print axioms proved
end Go.Proofs.YtbjgoigdhijbgaaDoor.renderWide
