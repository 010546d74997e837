/-
  A group that is flat ends within the width, and what follows up to the next line; one that is not flat and not forced would not (promise 17.3): for every two documents and every two integers the statement RenderFits returns true. The three tables are tied to the program's text by the given ties; no further condition.
-/
import Derived.Test.YtbjgoigdhijbgaaDoorUtfLaid
import Derived.Test.YtbjgoigdhijbgaaDoorCards
import Derived.Test.YtbjgoigdhijbgaaDoorTie
import Derived.Test.YtbjgoigdhijbgaaDoorBase
import Derived.Test.YtbjgoigdhijbgaaDoorDoc
import Derived.Test.YtbjgoigdhijbgaaDoorRendTold
set_option linter.all false
namespace Go.Proofs.YtbjgoigdhijbgaaDoor.renderFits
open Go.ChangeShapes Go.WideShapes Go.ChangeAt Go.RowKit Go.PlainAid Go.Proofs.YtbjgoigdhijbgaaDoor

theorem mod_lt (n : Nat) (hn : 0 < n) (x : Int) : ∃ r : Nat, r < n ∧ (IntKind.u64.wrap x).tmod n = (r : Int) := by
  have := IntKind.wrap_u64 x
  have h0 := Int.tmod_nonneg (a := IntKind.u64.wrap x) n (by omega)
  have h1 := Int.tmod_lt_of_pos (IntKind.u64.wrap x) (b := n) (by omega)
  have h2 := Int.toNat_of_nonneg h0
  exact ⟨((IntKind.u64.wrap x).tmod n).toNat, by omega, h2.symm⟩
theorem b0_nil : ((⟨#[]⟩ : ByteArray).toList == ([] : List UInt8)) = true := by decide +kernel
theorem c0_nil : (⟨#[]⟩ : ByteArray).data.toList.contains 10 = false := by decide +kernel
theorem drt_same {d : Dc} (h : drt d = true) : drt (same9 d) = true := by
  simp [same9, nul9, drt, drtL, dal, h, b0_nil, c0_nil]
theorem drt_grp {d : Dc} (h : drt d = true) : drt (grp d) = true := by
  simp [grp, drt, drtL, dal, h, b0_nil]
theorem dtz_grp {d : Dc} (h : dtz 1048576 d) : dtz 1048576 (grp d) := ⟨by show (0 : Nat) ≤ 1048576; omega, h, trivial⟩
theorem dtz_same {d : Dc} (h : dtz 1048576 d) : dtz 1048576 (same9 d) :=
  ⟨by show (0 : Nat) ≤ 1048576; omega, ⟨by show (0 : Nat) ≤ 1048576; omega, trivial⟩, ⟨by show (0 : Nat) ≤ 1048576; omega, h, trivial⟩, ⟨by show (0 : Nat) ≤ 1048576; omega, trivial⟩, trivial⟩
theorem render_is {d : Dc} {c : List Value} {W : Int} {w : World} (hd : dcnt d ≤ 90000) (hz : dtz 1048576 d) (hr : drt d = true) (h0 : 1 ≤ W) (h1 : W ≤ 10000) (h : DcAt w c d) (ht : Tabs w) (T : ByteArray) (hT : txtD W d = T) :
    Calls Tryd.prog 11 #[.agg c.toArray, .int .i64 W] w fun e w' => e = .returned (.tuple #[.string T, .int .i64 0]) ∧ Below w.heap.size w w' := by
  have := prender_any d hd hz c W w h ht
  have ho : okR W d = true := by simp [okR, hr, h0, h1]
  rw [ho, if_pos rfl, if_pos rfl, hT] at this
  exact this
theorem modes_is {d : Dc} {c : List Value} {W : Int} {w : World} (hd : dcnt d ≤ 90000) (hz : dtz 1048576 d) (hr : drt d = true) (h0 : 1 ≤ W) (h1 : W ≤ 10000) (h : DcAt w c d) (ht : Tabs w) (M : List Bool) (hM : mdsD W d = M) :
    Calls Tryd.prog 13 #[.agg c.toArray, .int .i64 W] w fun e w' => ∃ v, e = .returned v ∧ BlR w' w.heap.size v M ∧ Below w.heap.size w w' := by
  have := pmodes_any d hd hz c W w h ht
  have ho : okR W d = true := by simp [okR, hr, h0, h1]
  rw [ho, if_pos rfl, hM] at this
  exact this
theorem mds_len (W : Int) (d : Dc) : (mdsD W d).length ≤ dcnt d := by
  have h1 := mdsL_le (laidD W d)
  have h2 := congrArg List.length (laidD_all W d)
  rw [List.length_map, prO_len] at h2
  rw [h2] at h1
  exact h1
def xs9 (j : Nat) : ByteArray := ⟨Array.replicate j 120⟩
theorem xs9_snoc (j : Nat) : xs9 j ++ ⟨#[120]⟩ = xs9 (j + 1) := by
  apply ByteArray.ext
  simp [xs9, Array.replicate_succ]
theorem xs9_ct (j : Nat) : ct (xs9 j) 0 = j := by
  have h1 : (xs9 j).size = j := by show (Array.replicate j (120 : UInt8)).size = j; simp
  have h2 := ct_low (s := xs9 j) (xs9 j).size 0 (by omega) (Nat.zero_le _) (fun i _ hi => by
    have hi2 := hi
    rw [h1] at hi
    have e : (xs9 j)[i]'hi2 = 120 := by show (Array.replicate j (120 : UInt8))[i]'(by simpa using hi) = 120; simp
    rw [bt, dif_pos hi2, e]
    decide)
  rw [h2, h1]; rfl
theorem xs9_ok (j : Nat) : dal 1 0 (xs9 j) true = true := by
  simp [dal, xs9]
set_option maxRecDepth 100000 in
set_option maxHeartbeats 8000000 in
theorem walk (c : List Value) (d : Dc) (c' : List Value) (d' : Dc) (x y : Int) (w : World) (g : DcAt w c d) (g' : DcAt w c' d') (htb : Tabs w) :
    Calls Tryd.prog 8 #[.agg c.toArray, .agg c'.toArray, .int .i64 x, .int .i64 y] w fun e w' => e = .returned (.bool true) ∧ Below w.heap.size w w' := by
  obtain ⟨k, n, t, lv, rfl⟩ : ∃ k n t lv, c = [.int .i64 k, .int .i64 n, .string t, lv] := by
    cases d with
    | mk k n t l => obtain ⟨lv, cs, rfl, -⟩ := g.inv; exact ⟨_, _, _, _, rfl⟩
  obtain ⟨k', n', t', lv', rfl⟩ : ∃ k n t lv, c' = [.int .i64 k, .int .i64 n, .string t, lv] := by
    cases d' with
    | mk k n t l => obtain ⟨lv, cs, rfl, -⟩ := g'.inv; exact ⟨_, _, _, _, rfl⟩
  obtain ⟨Z, hZ⟩ : ∃ Z, Z = (w.alloc (.cells #[.int .i64 k, .int .i64 n, .string t, lv] 24)).alloc (.cells #[.int .i64 k', .int .i64 n', .string t', lv'] 24) := ⟨_, rfl⟩
  have hbW : Below w.heap.size w Z := by rw [hZ]; exact (below1 _ _).alloc (by simp) _
  obtain ⟨xa, hxa⟩ : ∃ q, q = w.heap.size := ⟨_, rfl⟩
  obtain ⟨xb, hxb⟩ : ∃ q, q = w.heap.size + 1 := ⟨_, rfl⟩
  have z1 : Z.heap[xa]? = some (.cells #[.int .i64 k, .int .i64 n, .string t, lv] 24) := by rw [hxa, hZ, old_at9 (by simp)]; exact new_at9
  have z2 : Z.heap[xb]? = some (.cells #[.int .i64 k', .int .i64 n', .string t', lv'] 24) := by rw [hxb, hZ]; exact new_at8 (by simp)
  have HC : Hid (∀ W, Below Z.heap.size Z W → (W.cell? ⟨xa, 0, none⟩ = some (.int .i64 k) ∧ W.cell? ⟨xa, 1, none⟩ = some (.int .i64 n) ∧ W.cell? ⟨xa, 2, none⟩ = some (.string t) ∧ W.cell? ⟨xa, 3, none⟩ = some lv) ∧ (W.cell? ⟨xb, 0, none⟩ = some (.int .i64 k') ∧ W.cell? ⟨xb, 1, none⟩ = some (.int .i64 n') ∧ W.cell? ⟨xb, 2, none⟩ = some (.string t') ∧ W.cell? ⟨xb, 3, none⟩ = some lv')) := Lib.hid (fun W (hb : Below Z.heap.size Z W) => ⟨four_of0 ((hb.block _ (lt_of_block z1)).trans z1), four_of0 ((hb.block _ (lt_of_block z2)).trans z2)⟩)
  have UP := Lib.hid (fun W (h : Below Z.heap.size Z W) => hbW.trans (h.mono hbW.size))
  have G := Lib.hid (fun W (h : Below Z.heap.size Z W) => g.bel (UP.out W h))
  have G' := Lib.hid (fun W (h : Below Z.heap.size Z W) => g'.bel (UP.out W h))
  have HTZ : Hid (∀ W, Below Z.heap.size Z W → Tabs W) := Lib.hid fun W h => htb.below (UP.out W h)
  have HB0 : Hid (Below Z.heap.size Z Z) := Lib.hid (Below.refl _ _)
  have HZE := Lib.hid (⟨hZ, hxa, hxb⟩ : _ ∧ _ ∧ _)
  have HT : Hid (∀ W, Below Z.heap.size Z W → Calls Tryd.prog 10 #[] W fun e w' => e = .returned (.bool true) ∧ Below Z.heap.size Z w') := Lib.hid fun W hb => (told17_any W (HTZ.out W hb)).mono fun e w' ⟨h1, h2⟩ => ⟨h1, hb.trans (h2.mono hb.size)⟩
  have HTT : Hid (∀ W, Below Z.heap.size Z W → Calls Tryd.prog 10 #[] W fun e w' => e = .returned (.bool true) ∧ Below W.heap.size W w') := Lib.hid fun W hb => told17_any W (HTZ.out W hb)
  have HFA : Hid (∀ W, Below Z.heap.size Z W → Calls Tryd.prog 9 #[.agg #[.int .i64 k, .int .i64 n, .string t, lv]] W fun e w' => e = .returned (.bool (fwD d)) ∧ Below Z.heap.size Z w') := Lib.hid fun W hb => (fwD_any d _ W (G.out W hb)).mono fun e w' ⟨h1, h2⟩ => ⟨h1, hb.trans (h2.mono hb.size)⟩
  have HFB : Hid (∀ W, Below Z.heap.size Z W → Calls Tryd.prog 9 #[.agg #[.int .i64 k', .int .i64 n', .string t', lv']] W fun e w' => e = .returned (.bool (fwD d')) ∧ Below Z.heap.size Z w') := Lib.hid fun W hb => (fwD_any d' _ W (G'.out W hb)).mono fun e w' ⟨h1, h2⟩ => ⟨h1, hb.trans (h2.mono hb.size)⟩
  obtain ⟨⟨a0, a1, a2, a3⟩, ⟨b0, b1, b2, b3⟩⟩ := HC.out _ HB0.out
  clear g g' hZ hbW htb z1 z2 hxa hxb
  cases hf : fwD d
  · rw [hf] at HFA
    go_enter Tryd.func8, Tryd.ntmps8
    go_upto_region 1 with fail
    rw [← HZE.out.1, ← HZE.out.2.2, ← HZE.out.2.1]
    go_wp2_with fail
    refine (HFA.out _ HB0.out).mono ?_
    rintro e w1 ⟨rfl, ht⟩
    have HB1 := Lib.hid ht
    clear ht a0 a1 a2 a3 b0 b1 b2 b3
    obtain ⟨⟨a0, a1, a2, a3⟩, ⟨b0, b1, b2, b3⟩⟩ := HC.out _ HB1.out
    go_wp2_with fail
    refine (HT.out _ HB1.out).mono ?_
    rintro e w2 ⟨rfl, ht⟩
    have HB2 := Lib.hid ht
    clear ht
    go_wp2_with fail
    go_ret
    exact ⟨rfl, UP.out _ HB2.out⟩
  rw [hf] at HFA
  cases hf' : fwD d'
  · rw [hf'] at HFB
    go_enter Tryd.func8, Tryd.ntmps8
    go_upto_region 1 with fail
    rw [← HZE.out.1, ← HZE.out.2.2, ← HZE.out.2.1]
    go_wp2_with fail
    refine (HFA.out _ HB0.out).mono ?_
    rintro e w1 ⟨rfl, ht⟩
    have HB1 := Lib.hid ht
    clear ht a0 a1 a2 a3 b0 b1 b2 b3
    obtain ⟨⟨a0, a1, a2, a3⟩, ⟨b0, b1, b2, b3⟩⟩ := HC.out _ HB1.out
    go_wp2_with fail
    refine (HFB.out _ HB1.out).mono ?_
    rintro e w2 ⟨rfl, ht⟩
    have HB2 := Lib.hid ht
    clear ht a0 a1 a2 a3 b0 b1 b2 b3
    obtain ⟨⟨a0, a1, a2, a3⟩, ⟨b0, b1, b2, b3⟩⟩ := HC.out _ HB2.out
    go_wp2_with fail
    refine (HT.out _ HB2.out).mono ?_
    rintro e w3 ⟨rfl, ht⟩
    have HB3 := Lib.hid ht
    clear ht
    go_wp2_with fail
    go_ret
    exact ⟨rfl, UP.out _ HB3.out⟩
  rw [hf'] at HFB
  obtain ⟨o1, o2⟩ := fwD_ok hf
  have o3 := dtz_mono (show 100 ≤ 1048576 by omega) _ o2
  obtain ⟨p1, p2⟩ := fwD_ok hf'
  have p3 := dtz_mono (show 100 ≤ 1048576 by omega) _ p2
  have HMA : Hid (∀ W, Below Z.heap.size Z W → Calls Tryd.prog 15 #[.agg #[.int .i64 k, .int .i64 n, .string t, lv]] W fun e w' => e = .returned (.bool (drt d)) ∧ Below Z.heap.size Z w') := Lib.hid fun W hb => (rdmay_any d (by omega) o3 _ W (G.out W hb)).mono fun e w' ⟨h1, h2⟩ => ⟨h1, hb.trans (h2.mono hb.size)⟩
  have HMB : Hid (∀ W, Below Z.heap.size Z W → Calls Tryd.prog 15 #[.agg #[.int .i64 k', .int .i64 n', .string t', lv']] W fun e w' => e = .returned (.bool (drt d')) ∧ Below Z.heap.size Z w') := Lib.hid fun W hb => (rdmay_any d' (by omega) p3 _ W (G'.out W hb)).mono fun e w' ⟨h1, h2⟩ => ⟨h1, hb.trans (h2.mono hb.size)⟩
  cases hr : drt d
  · rw [hr] at HMA
    clear o1 o2 o3 p1 p2 p3
    go_enter Tryd.func8, Tryd.ntmps8
    go_upto_region 1 with fail
    rw [← HZE.out.1, ← HZE.out.2.2, ← HZE.out.2.1]
    go_wp2_with fail
    refine (HFA.out _ HB0.out).mono ?_
    rintro e w1 ⟨rfl, ht⟩
    have HB1 := Lib.hid ht
    clear ht a0 a1 a2 a3 b0 b1 b2 b3
    obtain ⟨⟨a0, a1, a2, a3⟩, ⟨b0, b1, b2, b3⟩⟩ := HC.out _ HB1.out
    go_wp2_with fail
    refine (HFB.out _ HB1.out).mono ?_
    rintro e w2 ⟨rfl, ht⟩
    have HB2 := Lib.hid ht
    clear ht a0 a1 a2 a3 b0 b1 b2 b3
    obtain ⟨⟨a0, a1, a2, a3⟩, ⟨b0, b1, b2, b3⟩⟩ := HC.out _ HB2.out
    go_wp2_with fail
    refine (HMA.out _ HB2.out).mono ?_
    rintro e w3 ⟨rfl, ht⟩
    have HB3 := Lib.hid ht
    clear ht a0 a1 a2 a3 b0 b1 b2 b3
    obtain ⟨⟨a0, a1, a2, a3⟩, ⟨b0, b1, b2, b3⟩⟩ := HC.out _ HB3.out
    go_wp2_with fail
    refine (HT.out _ HB3.out).mono ?_
    rintro e w4 ⟨rfl, ht⟩
    have HB4 := Lib.hid ht
    clear ht
    go_wp2_with fail
    go_ret
    exact ⟨rfl, UP.out _ HB4.out⟩
  rw [hr] at HMA
  cases hr' : drt d'
  · rw [hr'] at HMB
    clear o1 o2 o3 p1 p2 p3
    go_enter Tryd.func8, Tryd.ntmps8
    go_upto_region 1 with fail
    rw [← HZE.out.1, ← HZE.out.2.2, ← HZE.out.2.1]
    go_wp2_with fail
    refine (HFA.out _ HB0.out).mono ?_
    rintro e w1 ⟨rfl, ht⟩
    have HB1 := Lib.hid ht
    clear ht a0 a1 a2 a3 b0 b1 b2 b3
    obtain ⟨⟨a0, a1, a2, a3⟩, ⟨b0, b1, b2, b3⟩⟩ := HC.out _ HB1.out
    go_wp2_with fail
    refine (HFB.out _ HB1.out).mono ?_
    rintro e w2 ⟨rfl, ht⟩
    have HB2 := Lib.hid ht
    clear ht a0 a1 a2 a3 b0 b1 b2 b3
    obtain ⟨⟨a0, a1, a2, a3⟩, ⟨b0, b1, b2, b3⟩⟩ := HC.out _ HB2.out
    go_wp2_with fail
    refine (HMA.out _ HB2.out).mono ?_
    rintro e w3 ⟨rfl, ht⟩
    have HB3 := Lib.hid ht
    clear ht a0 a1 a2 a3 b0 b1 b2 b3
    obtain ⟨⟨a0, a1, a2, a3⟩, ⟨b0, b1, b2, b3⟩⟩ := HC.out _ HB3.out
    go_wp2_with fail
    refine (HMB.out _ HB3.out).mono ?_
    rintro e w4 ⟨rfl, ht⟩
    have HB4 := Lib.hid ht
    clear ht a0 a1 a2 a3 b0 b1 b2 b3
    obtain ⟨⟨a0, a1, a2, a3⟩, ⟨b0, b1, b2, b3⟩⟩ := HC.out _ HB4.out
    go_wp2_with fail
    refine (HT.out _ HB4.out).mono ?_
    rintro e w5 ⟨rfl, ht⟩
    have HB5 := Lib.hid ht
    clear ht
    go_wp2_with fail
    go_ret
    exact ⟨rfl, UP.out _ HB5.out⟩
  rw [hr'] at HMB
  obtain ⟨r, hrr, er⟩ := mod_lt 60 (by decide) x
  obtain ⟨q, hqq, eq⟩ := mod_lt 30 (by decide) y
  have er' : (IntKind.u64.wrap x).tmod 60 = (r : Int) := er
  have eq' : (IntKind.u64.wrap y).tmod 30 = (q : Int) := eq
  have r0 : (0 : Int) ≤ (r : Int) := by omega
  have r1 : (r : Int) < 60 := by omega
  have q0 : (0 : Int) ≤ (q : Int) := by omega
  have q1 : (q : Int) < 30 := by omega
  obtain ⟨Q, hQ⟩ : ∃ Q : Int, Q = 1 + (r : Int) := ⟨_, rfl⟩
  have hQ0 : 1 ≤ Q := by omega
  have hQ1 : Q ≤ 10000 := by omega
  have HQ := Lib.hid hQ
  have hn3 : dcnt (.mk 5 0 ⟨#[]⟩ [.mk 1 0 (xs9 q) [], grp d, d']) ≤ 90000 := by simp [grp, dcnt, dcntL]; omega
  have hz3 : dtz 1048576 (.mk 5 0 ⟨#[]⟩ [.mk 1 0 (xs9 q) [], grp d, d']) := ⟨by show (0 : Nat) ≤ 1048576; omega, ⟨by show (Array.replicate q (120 : UInt8)).size ≤ 1048576; simp; omega, trivial⟩, dtz_grp o3, p3, trivial⟩
  have hr3 : drt (.mk 5 0 ⟨#[]⟩ [.mk 1 0 (xs9 q) [], grp d, d']) = true := by
    have h1 := drt_grp hr
    have h2 := xs9_ok q
    simp [drt, drtL, h1, h2, hr', dal, b0_nil]
    simpa [dal] using h2
  obtain ⟨tl, htl⟩ := mds_fits Q (xs9 q) d d'
  rw [xs9_ct] at htl
  obtain ⟨M, hM⟩ : ∃ m, m = mdsD Q (.mk 5 0 ⟨#[]⟩ [.mk 1 0 (xs9 q) [], grp d, d']) := ⟨_, rfl⟩
  rw [← hM] at htl
  have hMl : M.length ≤ 2000 := by
    have := mds_len Q (.mk 5 0 ⟨#[]⟩ [.mk 1 0 (xs9 q) [], grp d, d'])
    rw [hM]
    have h2 : dcnt (.mk 5 0 ⟨#[]⟩ [.mk 1 0 (xs9 q) [], grp d, d']) = dcnt d + dcnt d' + 3 := by simp [grp, dcnt, dcntL]; omega
    omega
  have RM : Hid (∀ W c, Below Z.heap.size Z W → DcAt W c (.mk 5 0 ⟨#[]⟩ [.mk 1 0 (xs9 q) [], grp d, d']) → Calls Tryd.prog 13 #[.agg c.toArray, .int .i64 Q] W fun e w' => ∃ v, e = .returned v ∧ BlR w' W.heap.size v M ∧ Below W.heap.size W w') := Lib.hid fun W c hb hc => modes_is hn3 hz3 hr3 hQ0 hQ1 hc (HTZ.out W hb) M hM.symm
  have RF : Hid (∀ W, Below Z.heap.size Z W → Calls Tryd.prog 17 #[.agg #[.int .i64 k, .int .i64 n, .string t, lv]] W fun e w' => e = .returned (.bool (dfrc d)) ∧ Below Z.heap.size Z w' ∧ Below W.heap.size W w') := Lib.hid fun W hb => (rdforced_any 1048576 (Nat.le_refl _) d (by omega) _ W (G.out W hb)).mono fun e w' ⟨h1, h2⟩ => ⟨h1, hb.trans (h2.mono hb.size), h2⟩
  have RW : Hid (∀ W, Below Z.heap.size Z W → Calls Tryd.prog 19 #[.agg #[.int .i64 k, .int .i64 n, .string t, lv]] W fun e w' => e = .returned (.int .i64 (wsum (lvs d) : Int)) ∧ Below Z.heap.size Z w' ∧ Below W.heap.size W w') := Lib.hid fun W hb => (rwidth_any 90000 (Nat.le_refl _) d (by omega) hr o3 _ W (G.out W hb)).mono fun e w' ⟨h1, h2⟩ => ⟨h1, hb.trans (h2.mono hb.size), h2⟩
  have R1 : Hid (∀ W g, W.heap[g]? = some (.cells #[.int .i64 k', .int .i64 n', .string t', lv'] 24) → Below Z.heap.size Z W → Calls Tryd.prog 21 #[.slice (some ⟨g, 0, none⟩) 1 1] W fun e w' => e = .returned (.int .i64 (fsum (lvsL [d']) : Int)) ∧ Below Z.heap.size Z w' ∧ Below W.heap.size W w') := Lib.hid fun W g hg hb => (rfirst_any [d'] (by simp only [dcntL]; omega) (by simp [drtL, hr']) ⟨p3, trivial⟩ _ W (rowOne (P := fun g => g < W.heap.size) (lt_of_block hg) hg (G'.out W hb))).mono fun e w' ⟨h1, h2⟩ => ⟨h1, hb.trans (h2.mono hb.size), h2⟩
  have hwb := wsum_le (lvs d) (fun x hx => wrt_sz (lvs_sz d o3 x hx))
  have hfb := fsum_le (lvsL [d']) (fun x hx => lvsL_sz [d'] ⟨p3, trivial⟩ x hx)
  have hl1 := lvs_len d
  have hl2 := lvsL_len [d']
  have hl3 : dcntL [d'] = dcnt d' := by simp [dcntL]
  obtain ⟨A, hA⟩ : ∃ A, A = wsum (lvs d) := ⟨_, rfl⟩
  obtain ⟨F, hF⟩ : ∃ F, F = fsum (lvsL [d']) := ⟨_, rfl⟩
  rw [← hA, ← hF] at htl
  rw [← hA] at RW hwb
  rw [← hF] at R1 hfb
  have hA2 : A ≤ 600000000 := by
    have h3 : (lvs d).length * 1048576 ≤ 500 * 1048576 := Nat.mul_le_mul_right _ (by omega)
    omega
  have hF2 : F ≤ 600000000 := by
    have h3 : (lvsL [d']).length * 1048576 ≤ 500 * 1048576 := Nat.mul_le_mul_right _ (by omega)
    omega
  obtain ⟨fb, hfb2⟩ : ∃ b, b = dfrc d := ⟨_, rfl⟩
  rw [← hfb2] at RF htl
  have hM0 : M[0]? = some (!fb && decide ((q : Int) + (A : Int) + (F : Int) ≤ Q)) := by rw [htl]; rfl
  have hMp : 0 < M.length := by rw [htl]; simp
  have HM00 := Lib.hid hM0
  have mm1 : ((M.length : Int) == 0) = false := beq_false_of_ne (by omega)
  have mp0 : (0 : Int) < (M.length : Int) := by omega
  have hs1 : IntKind.i64.wrap ((q : Int) + (A : Int)) = (q : Int) + (A : Int) := by rw [IntKind.wrap_i64]; omega
  have hs2 : IntKind.i64.wrap ((q : Int) + (A : Int) + (F : Int)) = (q : Int) + (A : Int) + (F : Int) := by rw [IntKind.wrap_i64]; omega
  clear hQ hM htl hM0 hA hF hfb2 o1 o2 o3 p1 p2 p3 hr hr' hf hf' hn3 hz3 hr3 hrr hqq er eq hwb hfb hl1 hl2 hl3 hA2 hF2
  go_enter Tryd.func8, Tryd.ntmps8
  go_upto_region 1 with fail
  rw [← HZE.out.1, ← HZE.out.2.2, ← HZE.out.2.1]
  go_wp2_with fail
  refine (HFA.out _ HB0.out).mono ?_
  rintro e w1 ⟨rfl, ht⟩
  have HB1 := Lib.hid ht
  clear ht a0 a1 a2 a3 b0 b1 b2 b3
  obtain ⟨⟨a0, a1, a2, a3⟩, ⟨b0, b1, b2, b3⟩⟩ := HC.out _ HB1.out
  go_wp2_with fail
  refine (HFB.out _ HB1.out).mono ?_
  rintro e w2 ⟨rfl, ht⟩
  have HB2 := Lib.hid ht
  clear ht a0 a1 a2 a3 b0 b1 b2 b3
  obtain ⟨⟨a0, a1, a2, a3⟩, ⟨b0, b1, b2, b3⟩⟩ := HC.out _ HB2.out
  go_wp2_with fail
  refine (HMA.out _ HB2.out).mono ?_
  rintro e w3 ⟨rfl, ht⟩
  have HB3 := Lib.hid ht
  clear ht a0 a1 a2 a3 b0 b1 b2 b3
  obtain ⟨⟨a0, a1, a2, a3⟩, ⟨b0, b1, b2, b3⟩⟩ := HC.out _ HB3.out
  go_wp2_with fail
  refine (HMB.out _ HB3.out).mono ?_
  rintro e w4 ⟨rfl, ht⟩
  have HB4 := Lib.hid ht
  clear ht a0 a1 a2 a3 b0 b1 b2 b3
  obtain ⟨⟨a0, a1, a2, a3⟩, ⟨b0, b1, b2, b3⟩⟩ := HC.out _ HB4.out
  go_upto_region 4 with fail
  rw [← HQ.out]
  clear er' eq' r0 r1
  go_wp2_with fail
  go_loopg [11, 12] q (fun gn s c wi => ∃ (j : Nat), gn = q - j ∧ j ≤ q ∧ c = .int .i64 (j : Int) ∧ s = .string (xs9 j) ∧ wi = w4)
  case atStart => exact ⟨0, rfl, Nat.zero_le _, rfl, rfl, rfl⟩
  case round =>
    obtain ⟨j, hgn, hj, rfl, rfl, rfl⟩ := hrel
    by_cases hlt : j < q
    · have jn : (j : Int) < (q : Int) := by omega
      have hcat : ∀ W : World, (Op.stringOp .add (xs9 j) ⟨#[120]⟩).run Tryd.prog W = .ok (.string (xs9 (j + 1))) W := fun W => by
        rw [← xs9_snoc]
        apply run_string_add_sum
        show (Array.replicate j (120 : UInt8)).size + 1 ≤ _
        simp
        omega
      go_wp2_with fail
      go_roundg (q - (j + 1))
      case measure => omega
      case rel => exact ⟨j + 1, rfl, hlt, by go_num, rfl, rfl⟩
    · obtain rfl : q = j := by omega
      have jn : ¬ (q : Int) < (q : Int) := by omega
      go_upto_region 10 with fail
      obtain ⟨V, hV⟩ : ∃ V, V = (wr.alloc (.cells #[.int .i64 k, .int .i64 n, .string t, lv] 24)).alloc (.cells #[.int .i64 7, .int .i64 0, .string ⟨#[]⟩, .slice (some ⟨wr.heap.size, 0, none⟩) 1 1] 24) := ⟨_, rfl⟩
      have bV : Below wr.heap.size wr V := by rw [hV]; exact (below1 _ _).alloc (by simp) _
      have y0 : V.heap[wr.heap.size]? = some (.cells #[.int .i64 k, .int .i64 n, .string t, lv] 24) := by rw [hV, old_at9 (by simp)]; exact new_at9
      obtain ⟨gb, hgb⟩ : ∃ z, z = wr.heap.size + 1 := ⟨_, rfl⟩
      have y1 : V.heap[gb]? = some (.cells #[.int .i64 7, .int .i64 0, .string ⟨#[]⟩, .slice (some ⟨wr.heap.size, 0, none⟩) 1 1] 24) := by rw [hgb, hV]; exact new_at8 (by simp)
      have HB5 := Lib.hid (HB4.out.trans (bV.mono HB4.out.size))
      have hdg : DcAt V [.int .i64 7, .int .i64 0, .string ⟨#[]⟩, .slice (some ⟨wr.heap.size, 0, none⟩) 1 1] (grp d) := (rowOne (P := fun g => g < V.heap.size) (lt_of_block y0) y0 (G.out V HB5.out)).dc9 7 0 ⟨#[]⟩
      have HDG := Lib.hid hdg
      rw [← hV, ← hgb]
      clear hV bV y0 hdg a0 a1 a2 a3 b0 b1 b2 b3
      obtain ⟨⟨a0, a1, a2, a3⟩, ⟨b0, b1, b2, b3⟩⟩ := HC.out _ HB5.out
      obtain ⟨e0, e1, e2, e3⟩ := four_of0 y1
      obtain ⟨gs, hgs⟩ : ∃ v, v = Value.slice (some ⟨wr.heap.size, 0, none⟩) 1 1 := ⟨_, rfl⟩
      rw [← hgs] at e3 HDG
      try rw [← hgs]
      clear y1 hgb hgs
      go_upto_region 11 with fail
      obtain ⟨X, hX⟩ : ∃ X, X = (V.alloc (.cells #[.int .i64 1, .int .i64 0, .string (xs9 q), .slice none 0 0, .int .i64 7, .int .i64 0, .string ⟨#[]⟩, gs, .int .i64 k', .int .i64 n', .string t', lv'] 24)).alloc (.cells #[.int .i64 5, .int .i64 0, .string ⟨#[]⟩, .slice (some ⟨V.heap.size, 0, none⟩) 3 3] 24) := ⟨_, rfl⟩
      have bX : Below V.heap.size V X := by rw [hX]; exact (below1 _ _).alloc (by simp) _
      have x0 : X.heap[V.heap.size]? = some (.cells #[.int .i64 1, .int .i64 0, .string (xs9 q), .slice none 0 0, .int .i64 7, .int .i64 0, .string ⟨#[]⟩, gs, .int .i64 k', .int .i64 n', .string t', lv'] 24) := by rw [hX, old_at9 (by simp)]; exact new_at9
      have x1 : X.heap[V.heap.size + 1]? = some (.cells #[.int .i64 5, .int .i64 0, .string ⟨#[]⟩, .slice (some ⟨V.heap.size, 0, none⟩) 3 3] 24) := by rw [hX]; exact new_at8 (by simp)
      have HB6 := Lib.hid (HB5.out.trans (bX.mono HB5.out.size))
      have hds : DcAt X [.int .i64 5, .int .i64 0, .string ⟨#[]⟩, .slice (some ⟨V.heap.size, 0, none⟩) 3 3] (.mk 5 0 ⟨#[]⟩ [.mk 1 0 (xs9 q) [], grp d, d']) := (rowThree (P := fun g => g < X.heap.size) (lt_of_block x0) x0 (leaf9 _ _ _ _ _) (HDG.out.bel bX) (G'.out X HB6.out)).dc9 5 0 ⟨#[]⟩
      have HDS := Lib.hid hds
      rw [← hX]
      obtain ⟨f0, f1, f2, f3⟩ := four_of0 x1
      clear hX bX x0 x1 hds HDG e0 e1 e2 e3 a0 a1 a2 a3 b0 b1 b2 b3
      go_wp2_with fail
      refine (RM.out _ _ HB6.out HDS.out).mono ?_
      rintro e w7 ⟨v, rfl, hbl, hb⟩
      have HB7 := Lib.hid (HB6.out.trans (hb.mono HB6.out.size))
      obtain ⟨av, cv, rfl, hcv0, hcv1⟩ := hbl.slice
      obtain ⟨mg, rfl, -, hmg, c0⟩ := hbl.at HM00.out
      clear hb hbl f0 f1 f2 f3 HDS
      obtain ⟨⟨a0, a1, a2, a3⟩, ⟨b0, b1, b2, b3⟩⟩ := HC.out _ HB7.out
      obtain ⟨bm, hbm⟩ : ∃ b, b = (!fb && decide ((q : Int) + (A : Int) + (F : Int) ≤ Q)) := ⟨_, rfl⟩
      rw [← hbm] at c0
      have HBM := Lib.hid hbm
      have CM : Hid (∀ W, Below w7.heap.size w7 W → W.cell? ⟨mg, 0, none⟩ = some (.bool bm)) := Lib.hid fun W hb => (hb.cell (p := ⟨mg, 0, none⟩) hmg).trans c0
      have ALL : Hid (∀ W, Below Z.heap.size Z W → Below w7.heap.size w7 W → ((W.cell? ⟨xa, 0, none⟩ = some (.int .i64 k) ∧ W.cell? ⟨xa, 1, none⟩ = some (.int .i64 n) ∧ W.cell? ⟨xa, 2, none⟩ = some (.string t) ∧ W.cell? ⟨xa, 3, none⟩ = some lv) ∧ (W.cell? ⟨xb, 0, none⟩ = some (.int .i64 k') ∧ W.cell? ⟨xb, 1, none⟩ = some (.int .i64 n') ∧ W.cell? ⟨xb, 2, none⟩ = some (.string t') ∧ W.cell? ⟨xb, 3, none⟩ = some lv')) ∧ W.cell? ⟨mg, 0, none⟩ = some (.bool bm)) := Lib.hid fun W h1 h2 => ⟨HC.out W h1, CM.out W h2⟩
      have K7 := Lib.hid (fun (W W' : World) (h : Below W.heap.size W W') (h2 : Below w7.heap.size w7 W) => h2.trans (h.mono h2.size))
      have KZ := Lib.hid (fun (W W' : World) (h : Below W.heap.size W W') (h2 : Below Z.heap.size Z W) => h2.trans (h.mono h2.size))
      have hz7 := Below.drew (Below.refl w7.heap.size w7)
      have hzZ := Below.drew HB7.out
      have hd := ALL.out _ hzZ hz7
      clear hbm c0 a0 a1 a2 a3 b0 b1 b2 b3
      go_upto_region 14 with fail
      cases fb
      · go_region_held3 (fun W => ((W.cell? ⟨xa, 0, none⟩ = some (.int .i64 k) ∧ W.cell? ⟨xa, 1, none⟩ = some (.int .i64 n) ∧ W.cell? ⟨xa, 2, none⟩ = some (.string t) ∧ W.cell? ⟨xa, 3, none⟩ = some lv) ∧ (W.cell? ⟨xb, 0, none⟩ = some (.int .i64 k') ∧ W.cell? ⟨xb, 1, none⟩ = some (.int .i64 n') ∧ W.cell? ⟨xb, 2, none⟩ = some (.string t') ∧ W.cell? ⟨xb, 3, none⟩ = some lv')) ∧ W.cell? ⟨mg, 0, none⟩ = some (.bool bm)) (first | exact hd | exact ALL.out _ ht9 h79 | exact ALL.out _ htb h7b | exact ALL.out _ ht h7 | exact ALL.out _ (ht.alloc ht.size _) (h7.alloc h7.size _)) (first
          | (go_at_call 10; refine (HTT.out _ hzZ).mono ?_; rintro e w8 ⟨rfl, hb⟩; have ht := KZ.out _ _ hb hzZ; have h7 := K7.out _ _ hb hz7; clear hb)
          | (go_at_call 17; refine (RF.out _ ht).mono ?_; rintro e w8 ⟨rfl, ht, hb⟩; have h7 := K7.out _ _ hb h7; clear hb)
          | (go_at_call 19; refine (RW.out _ ht).mono ?_; rintro e w8 ⟨rfl, ht, hb⟩; have h7 := K7.out _ _ hb h7; clear hb)
          | (go_at_call 19; refine (RW.out _ (ht.alloc ht.size _)).mono ?_; rintro e w8b ⟨rfl, htb, hb⟩; have hrow := (hb.block _ (by simp)).trans (new_at9 (W := w8)); have h7b := K7.out _ _ hb (h7.alloc h7.size _); clear hb)
          | (go_at_call 21; refine (R1.out _ _ hrow htb).mono ?_; rintro e w9 ⟨rfl, ht9, hb⟩; have h79 := K7.out _ _ hb h7b; clear hb)
          | (go_at_call 21; refine (R1.out _ _ (new_at9 (W := w8)) (ht.alloc ht.size _)).mono ?_; rintro e w9 ⟨rfl, ht9, hb⟩; have h79 := K7.out _ _ hb (h7.alloc h7.size _); clear hb))
        all_goals
          have HFI := Lib.hid (UP.out _ ht9)
          clear ht9 h79
          go_wp2_with fail
          go_ret
          refine ⟨?_, HFI.out⟩
          first
          | (rw [HBM.out]; simp; done)
          | (simp [HBM.out]; done)
      · refine wp_region_noPanic ?_
        refine wp_region_held_drew (S := (fun W => ((W.cell? ⟨xa, 0, none⟩ = some (.int .i64 k) ∧ W.cell? ⟨xa, 1, none⟩ = some (.int .i64 n) ∧ W.cell? ⟨xa, 2, none⟩ = some (.string t) ∧ W.cell? ⟨xa, 3, none⟩ = some lv) ∧ (W.cell? ⟨xb, 0, none⟩ = some (.int .i64 k') ∧ W.cell? ⟨xb, 1, none⟩ = some (.int .i64 n') ∧ W.cell? ⟨xb, 2, none⟩ = some (.string t') ∧ W.cell? ⟨xb, 3, none⟩ = some lv')) ∧ W.cell? ⟨mg, 0, none⟩ = some (.bool bm))) (by kernel_rfl) (by (try dsimp only); (first | exact hd | exact ALL.out _ ht9 h79 | exact ALL.out _ ht h7)) (fun hHeld => ?_)
        refine wpAnyH_ready (rs := [0]) (by kernel_rfl) (by simp) ?_
        refine (AllReadyH.cons rfl (fun K hK => ?_) AllReadyH.nil)
        go_simp
        try (first | (go_at_call 10; refine (HTT.out _ hzZ).mono ?_; rintro e w8 ⟨rfl, hb⟩; have ht := KZ.out _ _ hb hzZ; have h7 := K7.out _ _ hb hz7; clear hb) | (go_at_call 17; refine (RF.out _ ht).mono ?_; rintro e w9 ⟨rfl, ht9, hb⟩; have h79 := K7.out _ _ hb h7; clear hb))
        refine hK.out _ _ (by (try dsimp only); (first | exact hd | exact ALL.out _ ht9 h79 | exact ALL.out _ ht h7)) (fun hHeld => ?_)
        clear hK K
        try simp only [Act.put, List.setIfInBounds_toArray, List.set_cons_zero, List.set_cons_succ, List.getElem_toArray, List.getElem_cons_zero, List.getElem_cons_succ]
        refine wpAnyH_take (i := 1) (v := ?_) rfl (by kernel_rfl) (by kernel_rfl) (by kernel_rfl) (fun _ _ _ h => h) (Or.inl ⟨by rfl, ?_⟩) (by assumption) ?_
        rotate_left 1
        · (intro w' hSw; (try dsimp only at hSw); go_simp; (first | done | with_reducible rfl))
        try simp only [Act.put, List.setIfInBounds_toArray, List.set_cons_zero, List.set_cons_succ, List.getElem_toArray, List.getElem_cons_zero, List.getElem_cons_succ]
        refine wpAnyH_take (i := 2) (v := ?_) rfl (by kernel_rfl) (by kernel_rfl) (by kernel_rfl) (fun _ _ _ h => h) (Or.inl ⟨by rfl, ?_⟩) (by assumption) ?_
        rotate_left 1
        · (intro w' hSw; (try dsimp only at hSw); go_simp; (first | done | with_reducible rfl))
        try simp only [Act.put, List.setIfInBounds_toArray, List.set_cons_zero, List.set_cons_succ, List.getElem_toArray, List.getElem_cons_zero, List.getElem_cons_succ]
        refine wpAnyH_take (i := 3) (v := ?_) rfl (by kernel_rfl) (by kernel_rfl) (by kernel_rfl) (fun _ _ _ h => h) (Or.inl ⟨by rfl, ?_⟩) (by assumption) ?_
        rotate_left 1
        · (intro w' hSw; (try dsimp only at hSw); go_simp; (first | done | with_reducible rfl))
        try simp only [Act.put, List.setIfInBounds_toArray, List.set_cons_zero, List.set_cons_succ, List.getElem_toArray, List.getElem_cons_zero, List.getElem_cons_succ]
        refine wpAnyH_take (i := 4) (v := ?_) rfl (by kernel_rfl) (by kernel_rfl) (by kernel_rfl) (fun _ _ _ h => h) (Or.inl ⟨by rfl, ?_⟩) (by assumption) ?_
        rotate_left 1
        · (intro w' hSw; (try dsimp only at hSw); go_simp; (first | done | with_reducible rfl))
        try simp only [Act.put, List.setIfInBounds_toArray, List.set_cons_zero, List.set_cons_succ, List.getElem_toArray, List.getElem_cons_zero, List.getElem_cons_succ]
        refine wpAnyH_take (i := 5) (v := ?_) rfl (by kernel_rfl) (by kernel_rfl) (by kernel_rfl) (fun _ _ _ h => h) (Or.inl ⟨by rfl, ?_⟩) (by assumption) ?_
        rotate_left 1
        · (intro w' hSw; (try dsimp only at hSw); go_simp; (first | done | with_reducible rfl))
        try simp only [Act.put, List.setIfInBounds_toArray, List.set_cons_zero, List.set_cons_succ, List.getElem_toArray, List.getElem_cons_zero, List.getElem_cons_succ]
        refine wpAnyH_ready (rs := [6]) (by kernel_rfl) (by simp) ?_
        refine (AllReadyH.cons rfl (fun K hK => ?_) AllReadyH.nil)
        go_simp
        try (first | (go_at_call 10; refine (HTT.out _ hzZ).mono ?_; rintro e w8 ⟨rfl, hb⟩; have ht := KZ.out _ _ hb hzZ; have h7 := K7.out _ _ hb hz7; clear hb) | (go_at_call 17; refine (RF.out _ ht).mono ?_; rintro e w9 ⟨rfl, ht9, hb⟩; have h79 := K7.out _ _ hb h7; clear hb))
        refine hK.out _ _ (by (try dsimp only); (first | exact hd | exact ALL.out _ ht9 h79 | exact ALL.out _ ht h7)) (fun hHeld => ?_)
        clear hK K
        try simp only [Act.put, List.setIfInBounds_toArray, List.set_cons_zero, List.set_cons_succ, List.getElem_toArray, List.getElem_cons_zero, List.getElem_cons_succ]
        refine wpAnyH_take (i := 7) (v := ?_) rfl (by kernel_rfl) (by kernel_rfl) (by kernel_rfl) (fun _ _ _ h => h) (Or.inl ⟨by rfl, ?_⟩) (by assumption) ?_
        rotate_left 1
        · (intro w' hSw; (try dsimp only at hSw); go_simp; (first | done | with_reducible rfl))
        try simp only [Act.put, List.setIfInBounds_toArray, List.set_cons_zero, List.set_cons_succ, List.getElem_toArray, List.getElem_cons_zero, List.getElem_cons_succ]
        refine wpAnyH_take (i := 8) (v := ?_) rfl (by kernel_rfl) (by kernel_rfl) (by kernel_rfl) (fun _ _ _ h => h) (Or.inl ⟨by rfl, ?_⟩) (by assumption) ?_
        rotate_left 1
        · (intro w' hSw; (try dsimp only at hSw); go_simp; (first | done | with_reducible rfl))
        try simp only [Act.put, List.setIfInBounds_toArray, List.set_cons_zero, List.set_cons_succ, List.getElem_toArray, List.getElem_cons_zero, List.getElem_cons_succ]
        refine wpAnyH_take (i := 9) (v := undef) rfl (by kernel_rfl) (by kernel_rfl) (by kernel_rfl) (fun _ _ _ h => h) (Or.inr ⟨by rfl, rfl⟩) (by assumption) ?_
        try simp only [Act.put, List.setIfInBounds_toArray, List.set_cons_zero, List.set_cons_succ, List.getElem_toArray, List.getElem_cons_zero, List.getElem_cons_succ]
        refine wpAnyH_take (i := 10) (v := undef) rfl (by kernel_rfl) (by kernel_rfl) (by kernel_rfl) (fun _ _ _ h => h) (Or.inr ⟨by rfl, rfl⟩) (by assumption) ?_
        try simp only [Act.put, List.setIfInBounds_toArray, List.set_cons_zero, List.set_cons_succ, List.getElem_toArray, List.getElem_cons_zero, List.getElem_cons_succ]
        refine wpAnyH_take (i := 11) (v := undef) rfl (by kernel_rfl) (by kernel_rfl) (by kernel_rfl) (fun _ _ _ h => h) (Or.inr ⟨by rfl, rfl⟩) (by assumption) ?_
        try simp only [Act.put, List.setIfInBounds_toArray, List.set_cons_zero, List.set_cons_succ, List.getElem_toArray, List.getElem_cons_zero, List.getElem_cons_succ]
        refine wpAnyH_take (i := 12) (v := undef) rfl (by kernel_rfl) (by kernel_rfl) (by kernel_rfl) (fun _ _ _ h => h) (Or.inr ⟨by rfl, rfl⟩) (by assumption) ?_
        try simp only [Act.put, List.setIfInBounds_toArray, List.set_cons_zero, List.set_cons_succ, List.getElem_toArray, List.getElem_cons_zero, List.getElem_cons_succ]
        refine wpAnyH_take (i := 13) (v := undef) rfl (by kernel_rfl) (by kernel_rfl) (by kernel_rfl) (fun _ _ _ h => h) (Or.inr ⟨by rfl, rfl⟩) (by assumption) ?_
        try simp only [Act.put, List.setIfInBounds_toArray, List.set_cons_zero, List.set_cons_succ, List.getElem_toArray, List.getElem_cons_zero, List.getElem_cons_succ]
        refine wpAnyH_take (i := 14) (v := undef) rfl (by kernel_rfl) (by kernel_rfl) (by kernel_rfl) (fun _ _ _ h => h) (Or.inr ⟨by rfl, rfl⟩) (by assumption) ?_
        try simp only [Act.put, List.setIfInBounds_toArray, List.set_cons_zero, List.set_cons_succ, List.getElem_toArray, List.getElem_cons_zero, List.getElem_cons_succ]
        refine wpAnyH_take (i := 15) (v := undef) rfl (by kernel_rfl) (by kernel_rfl) (by kernel_rfl) (fun _ _ _ h => h) (Or.inr ⟨by rfl, rfl⟩) (by assumption) ?_
        try simp only [Act.put, List.setIfInBounds_toArray, List.set_cons_zero, List.set_cons_succ, List.getElem_toArray, List.getElem_cons_zero, List.getElem_cons_succ]
        refine wpAnyH_take (i := 16) (v := undef) rfl (by kernel_rfl) (by kernel_rfl) (by kernel_rfl) (fun _ _ _ h => h) (Or.inr ⟨by rfl, rfl⟩) (by assumption) ?_
        try simp only [Act.put, List.setIfInBounds_toArray, List.set_cons_zero, List.set_cons_succ, List.getElem_toArray, List.getElem_cons_zero, List.getElem_cons_succ]
        refine wpAnyH_take (i := 17) (v := undef) rfl (by kernel_rfl) (by kernel_rfl) (by kernel_rfl) (fun _ _ _ h => h) (Or.inr ⟨by rfl, rfl⟩) (by assumption) ?_
        try simp only [Act.put, List.setIfInBounds_toArray, List.set_cons_zero, List.set_cons_succ, List.getElem_toArray, List.getElem_cons_zero, List.getElem_cons_succ]
        refine wpAnyH_take (i := 18) (v := undef) rfl (by kernel_rfl) (by kernel_rfl) (by kernel_rfl) (fun _ _ _ h => h) (Or.inr ⟨by rfl, rfl⟩) (by assumption) ?_
        try simp only [Act.put, List.setIfInBounds_toArray, List.set_cons_zero, List.set_cons_succ, List.getElem_toArray, List.getElem_cons_zero, List.getElem_cons_succ]
        refine wpAnyH_take (i := 19) (v := ?_) rfl (by kernel_rfl) (by kernel_rfl) (by kernel_rfl) (fun _ _ _ h => h) (Or.inl ⟨by rfl, ?_⟩) (by assumption) ?_
        rotate_left 1
        · (intro w' hSw; (try dsimp only at hSw); go_simp; (first | done | with_reducible rfl))
        try simp only [Act.put, List.setIfInBounds_toArray, List.set_cons_zero, List.set_cons_succ, List.getElem_toArray, List.getElem_cons_zero, List.getElem_cons_succ]
        refine wpAnyH_take (i := 20) (v := ?_) rfl (by kernel_rfl) (by kernel_rfl) (by kernel_rfl) (fun _ _ _ h => h) (Or.inl ⟨by rfl, ?_⟩) (by assumption) ?_
        rotate_left 1
        · (intro w' hSw; (try dsimp only at hSw); go_simp; (first | done | with_reducible rfl))
        try simp only [Act.put, List.setIfInBounds_toArray, List.set_cons_zero, List.set_cons_succ, List.getElem_toArray, List.getElem_cons_zero, List.getElem_cons_succ]
        refine wpAnyH_take (i := 21) (v := ?_) rfl (by kernel_rfl) (by kernel_rfl) (by kernel_rfl) (fun _ _ _ h => h) (Or.inl ⟨by rfl, ?_⟩) (by assumption) ?_
        rotate_left 1
        · (intro w' hSw; (try dsimp only at hSw); go_simp; (first | done | with_reducible rfl))
        try simp only [Act.put, List.setIfInBounds_toArray, List.set_cons_zero, List.set_cons_succ, List.getElem_toArray, List.getElem_cons_zero, List.getElem_cons_succ]
        refine wpAnyH_take (i := 22) (v := ?_) rfl (by kernel_rfl) (by kernel_rfl) (by kernel_rfl) (fun _ _ _ h => h) (Or.inl ⟨by rfl, ?_⟩) (by assumption) ?_
        rotate_left 1
        · (intro w' hSw; (try dsimp only at hSw); go_simp; (first | done | with_reducible rfl))
        try simp only [Act.put, List.setIfInBounds_toArray, List.set_cons_zero, List.set_cons_succ, List.getElem_toArray, List.getElem_cons_zero, List.getElem_cons_succ]
        refine wpAnyH_done (by kernel_rfl) ?_ _
        refine NoPanic.normal ?_
        have HFI := Lib.hid (UP.out _ ht9)
        clear ht9 h79 hz7 hzZ
        go_wp2_with fail
        go_ret
        refine ⟨?_, HFI.out⟩
        first
        | (rw [HBM.out]; simp; done)
        | (simp [HBM.out]; done)
set_option maxRecDepth 100000 in
theorem lifted (os : Os) (started : os.Started) (H : Type) (enc : TypeId × Value → H) :
    ReturnsInHanded {} Tryd.checked os 8 .any (fun w args => (Rows.renderFitsSpec.pre enc Tryd.prog Tryd.f8 [] false w args ∧ laidMetH Tryd.prog utfLaid w) ∧ sizedMet enc Tryd.prog Tryd.f8 (OpenSpec.ofChange Rows.renderFitsSpec) false w args)
      (Rows.renderFitsSpec.post enc Tryd.prog Tryd.f8 false true false false) := by
  refine returnsInHanded_of_change_and (C := Tryd.checked) (X := fun w _ => laidMetH Tryd.prog utfLaid w) (fun _ _ _ hh h => h.of_heap hh) own started (by kernel_rfl) Tryd.func8
    (ChangeSpec.witness_shaped (enc := enc) (C := Tryd.checked) (os := os) (X := fun w _ => laidMetH Tryd.prog utfLaid w) false (World.doorLaid Tryd.prog 400 os) #[.agg #[.int .i64 0, .int .i64 0, .string ByteArray.empty, .slice none 0 0], .agg #[.int .i64 0, .int .i64 0, .string ByteArray.empty, .slice none 0 0], .int .i64 0, .int .i64 0] 8 rfl (World.shaped_of_RefB (by kernel_rfl) (by kernel_rfl)) (by kernel_rfl) (by kernel_rfl) (by kernel_rfl) (door_met os _)) ?_
  intro W base args ds gs before hval0 hW _ _ hL _
  have hval : ∀ (j : Nat) t v, Tryd.f8.params[j]? = some t → args[j]? = some v → Value.okWide Tryd.prog W .any base t v := hval0
  have hW' := hW
  obtain ⟨p, q, hA0, hV, rfl, hfz, hnd⟩ := hW
  have hA : DataW.TrodAll enc Tryd.prog W 0 (fun _ => true) true Tryd.f8.params.toList args.toList ds p := hA0
  rw [Tryd.params8] at hA hval
  obtain ⟨v0, vs0, d0, ds0, p0, q0, hargs, rfl, rfl, h0, r0⟩ := trodAll_cons hA
  obtain ⟨v1, vs1, d1, ds1, p1, q1, rfl, rfl, rfl, h1, r1⟩ := trodAll_cons r0
  obtain ⟨v2, vs2, d2, ds2, p2, q2, rfl, rfl, rfl, h2, r2⟩ := trodAll_cons r1
  obtain ⟨v3, vs3, d3, ds3, p3, q3, rfl, rfl, rfl, h3, r3⟩ := trodAll_cons r2
  obtain ⟨rfl, rfl, rfl⟩ := trodAll_nil r3
  obtain rfl : args = #[v0, v1, v2, v3] := by cases args; simp_all
  obtain ⟨rfl, rfl⟩ := trodVars_none hV
  have k0 := h0
  have lt0 : ∀ x ∈ p0, x.block < W.heap.size := by obtain ⟨m, hm⟩ := k0; exact DataW.trod_lt m _ _ _ hm
  obtain ⟨c0, n0, rfl, g0⟩ := open_doc (hval 0 24 v0 rfl rfl) h0
  have k1 := h1
  have lt1 : ∀ x ∈ p1, x.block < W.heap.size := by obtain ⟨m, hm⟩ := k1; exact DataW.trod_lt m _ _ _ hm
  obtain ⟨c1, n1, rfl, g1⟩ := open_doc (hval 1 24 v1 rfl rfl) h1
  obtain ⟨a2, rfl, rfl, rfl, w2⟩ := open_int Tryd.underlying3 (hval 2 3 v2 rfl rfl) h2
  obtain ⟨a3, rfl, rfl, rfl, w3⟩ := open_int Tryd.underlying3 (hval 3 3 v3 rfl rfl) h3
  clear hA0 hval0
  refine (walk c0 n0 c1 n1 a2 a3 W g0 g1 (tabs_of_laid hL)).mono fun e W' ⟨he, bel⟩ => ?_
  subst he
  exact ⟨_, rfl, _, _, _, [], _, [], hW', trodAll_mk1 (shut_bool Tryd.underlying4 _), (trodAll_cons_mk (Below.trod laidOut (by kernel_rfl) (of_decide_eq_true (by kernel_rfl)) k0 bel lt0) (trodAll_cons_mk (Below.trod laidOut (by kernel_rfl) (of_decide_eq_true (by kernel_rfl)) k1 bel lt1) (trodAll_cons_mk (shut_int Tryd.underlying3 w2) (trodAll_cons_mk (shut_int Tryd.underlying3 w3) trodAll_mk0)))), rfl, bel.frame _, fun h => by cases h⟩
theorem over : Rows.RenderFitsSaid :=
  OpenClaim.holds_of_wide 8 Tryd.f8 rfl rfl rfl rfl rfl rfl rfl ⟨rfl, rfl, rfl, rfl, rfl⟩ rfl rfl rfl rfl rfl (by kernel_rfl) Tryd.func8 (by kernel_rfl)
    (of_decide_eq_true (by kernel_rfl)) (by unfold Func.isWrapper; first | (rw [if_pos (by decide +kernel)]; kernel_rfl) | (rw [if_neg (by decide +kernel)]; exact ⟨rfl, rfl⟩))
    (fun os started H enc _ => lifted os started H enc)
/-- THE TIED CARD. -/
theorem proved : Rows.RenderFitsCardSaid :=
  Claim7.holds_tied_plain_at .later [] [.data, .data, .data] true Rows.renderFitsCard.stood.harness false
    over (fun _ h => by cases h) (by kernel_rfl) (fun _ h => by cases h) renderFits_row_tie rfl ⟨rfl, rfl⟩ (by kernel_rfl) rfl
    (fun f fn hf hfn => by
      obtain rfl : f = 8 := Option.some.inj ((show Tryd.prog.funcNamed "galley/galleylaw17.RenderFits" = some 8 by kernel_rfl).symm.trans hf) |>.symm
      obtain rfl : fn = Tryd.f8 := (Option.some.inj (Tryd.func8.symm.trans hfn)).symm
      exact ⟨by kernel_rfl, fun j t ht => by
        rw [Tryd.params8] at ht
        have hm : t ∈ [24, 3] := by
          have := Array.mem_of_getElem? ht
          simpa using this
        have hall : ([24, 3].all fun u => !Tryd.prog.wantsStandIn u) = true := by kernel_rfl
        exact (show Tryd.prog.wantsStandIn t = false by simpa using List.all_eq_true.1 hall t hm)⟩)
    (by kernel_rfl)
#print axioms proved
end Go.Proofs.YtbjgoigdhijbgaaDoor.renderFits
