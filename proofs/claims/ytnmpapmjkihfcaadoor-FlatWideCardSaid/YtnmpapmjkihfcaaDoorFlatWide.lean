/-
  A width is that of the text, where there is one; what stands first is never wider than all (promises 16.1, 16.2): for every document the statement FlatWide returns true. The three tables are tied to the program's text by the given ties; no further condition.
-/
import Derived.Test.YtnmpapmjkihfcaaDoorUtfLaid
import Derived.Test.YtnmpapmjkihfcaaDoorCards
import Derived.Test.YtnmpapmjkihfcaaDoorTie
import Derived.Test.YtnmpapmjkihfcaaDoorBase
import Derived.Test.YtnmpapmjkihfcaaDoorDoc
import Derived.Test.YtnmpapmjkihfcaaDoorFlatTold
set_option linter.all false
namespace Go.Proofs.YtnmpapmjkihfcaaDoor.flatWide
open Go.ChangeShapes Go.WideShapes Go.ChangeAt Go.RowKit Go.PlainAid Go.Proofs.YtnmpapmjkihfcaaDoor

mutual
/-- All texts are valid. -/
def vdD : Dc → Bool
  | .mk _ _ t l => vd t 0 && vdL l
def vdL : List Dc → Bool
  | [] => true
  | x :: t => vdD x && vdL t
end
theorem vdL_drop : ∀ {l : List Dc} {i : Nat} {x : Dc}, l[i]? = some x → vdL (l.drop i) = (vdD x && vdL (l.drop (i + 1)))
  | [], _, _, h => by simp at h
  | y :: t, 0, x, h => by
    simp only [List.getElem?_cons_zero, Option.some.injEq] at h
    subst h
    simp only [List.drop_zero, vdL, List.drop_succ_cons]
  | y :: t, i + 1, x, h => by
    simp only [List.getElem?_cons_succ] at h
    simp only [List.drop_succ_cons]
    exact vdL_drop h
mutual
theorem lvs_vd : ∀ d : Dc, vdD d = true → ∀ x ∈ lvs d, vd (dtx x) 0 = true
  | .mk k n t l, h => by
    simp only [vdD, Bool.and_eq_true] at h
    have := lvsL_vd l h.2
    intro x hx
    simp only [lvs] at hx
    split at hx
    · simp only [List.mem_cons, List.not_mem_nil, or_false] at hx
      subst hx
      exact h.1
    · exact this x hx
theorem lvsL_vd : ∀ l : List Dc, vdL l = true → ∀ x ∈ lvsL l, vd (dtx x) 0 = true
  | [], _ => by intro x hx; simp [lvsL] at hx
  | y :: t, h => by
    simp only [vdL, Bool.and_eq_true] at h
    intro x hx
    simp only [lvsL, List.mem_append] at hx
    rcases hx with hx | hx
    · exact lvs_vd y h.1 x hx
    · exact lvsL_vd t h.2 x hx
end
theorem wrt_vd {x : Dc} (h : vd (dtx x) 0 = true) : vd (wrt x) 0 = true := by
  unfold wrt
  split
  · exact h
  split
  · decide +kernel
  · decide +kernel
theorem ctx_vd : ∀ L : List Dc, (∀ x ∈ L, vd (dtx x) 0 = true) → vd (ctx L) 0 = true ∧ ct (ctx L) 0 = wsum L
  | [], _ => ⟨by show vd ⟨#[]⟩ 0 = true; decide +kernel, by show ct ⟨#[]⟩ 0 = 0; exact ct_0⟩
  | x :: t, h => by
    obtain ⟨h1, h2⟩ := ctx_vd t (fun y hy => h y (List.mem_cons_of_mem _ hy))
    have h3 := wrt_vd (h x (List.mem_cons_self ..))
    have h4 := vd_app (a := wrt x) (ctx t) (wrt x).size 0 (by omega) (Nat.zero_le _) h3
    have h5 := ct_app (a := wrt x) (ctx t) (wrt x).size 0 (by omega) (Nat.zero_le _) h3
    exact ⟨by show vd (wrt x ++ ctx t) 0 = true; rw [h4]; exact h1, by show ct (wrt x ++ ctx t) 0 = ct (wrt x) 0 + wsum t; rw [h5, h2]⟩
theorem fsum_wsum : ∀ L : List Dc, fsum L ≤ wsum L
  | [] => Nat.le_refl _
  | x :: t => by
    have := fsum_wsum t
    simp only [fsum, wsum]
    split
    · rename_i h
      rw [show wrt x = dtx x from if_pos h]; omega
    · omega
set_option maxRecDepth 100000 in
set_option maxHeartbeats 4000000 in
theorem lawvalid_any : ∀ (m : Nat), m ≤ 1048576 → ∀ (x : Dc), dcnt x ≤ m → dtz 1048576 x → ∀ (c : List Value) (w : World), DcAt w c x →
    Calls Tryd.prog 21 #[.agg c.toArray] w fun e w' => e = .returned (.bool (vdD x)) ∧ Below w.heap.size w w'
  | 0, _, n, hn, _, _, _, _ => by have := dcnt_pos n; omega
  | m + 1, hm, .mk k n t l, hn, hz, c, w, h => by
    obtain ⟨lv, cs, rfl, hl, hc⟩ := h.inv
    clear h
    simp only [dcnt] at hn
    have hz : t.size ≤ 1048576 ∧ dtzL 1048576 l := by simpa only [dtz] using hz
    simp only [vdD]
    have hl0 := hl
    obtain ⟨a, cap, rfl, -⟩ := hl0
    have HK := Lib.hid (kidsD hl hc)
    have HI : Hid (∀ x ∈ l, ∀ c, DcAt w c x → ∀ W, Below w.heap.size w W → Calls Tryd.prog 21 #[.agg c.toArray] W fun e w' => e = .returned (.bool (vdD x)) ∧ Below W.heap.size W w') :=
      Lib.hid (fun x hx c hxc W hb => lawvalid_any m (by omega) x (by obtain ⟨i, hi⟩ := List.getElem?_of_mem hx; have := dcnt_at hi; omega) (dtz_at hz.2 hx) c W (hxc.bel hb))
    have hlen := len_dcntL l
    obtain ⟨N, hN⟩ : ∃ N, N = l.length := ⟨_, rfl⟩
    rw [← hN] at hlen ⊢
    have HN := Lib.hid hN
    obtain ⟨Z, hZ⟩ : ∃ Z, Z = w.alloc (.cells #[.int .i64 k, .int .i64 n, .string t, .slice a N cap] 26) := ⟨_, rfl⟩
    have hbW : Below w.heap.size w Z := by rw [hZ]; exact below1 _ _
    have HB0 : Hid (Below Z.heap.size Z (w.alloc (.cells #[.int .i64 k, .int .i64 n, .string t, .slice a N cap] 26))) := Lib.hid (by rw [← hZ]; exact Below.refl _ _)
    have HC := Lib.hid (fun W (hb : Below Z.heap.size Z W) => dc_cells (by rw [hZ] at hb; exact hb))
    have UP := Lib.hid (fun W (h : Below Z.heap.size Z W) => hbW.trans (h.mono hbW.size))
    obtain ⟨d0, d1, d2, d3⟩ := HC.out _ HB0.out
    have hln : N ≤ 1048576 := by omega
    have HV : Hid (∀ W, Below Z.heap.size Z W → Calls Tryd.prog 46 #[.string t] W fun e w' => e = .returned (.bool (vd t 0)) ∧ Below Z.heap.size Z w') := Lib.hid (fun W hb => (rvalid_any t W (by unfold maxLen; omega)).mono fun e w' ⟨h1, n, h2⟩ => ⟨h1, h2 ▸ hb.trans ((Below.ofDrewN W n).mono hb.size)⟩)
    clear hN hl hc hZ hbW hlen hn hm hz
    cases hv : vd t 0
    case false =>
      rw [hv] at HV
      clear HK HI
      go_enter Tryd.func21, Tryd.ntmps21
      go_wp2_with fail
      refine (HV.out _ HB0.out).mono ?_
      rintro e w1 ⟨rfl, hb1⟩
      have HB1 := Lib.hid hb1
      clear hb1
      go_wp2_with fail
      go_ret
      exact ⟨rfl, UP.out _ HB1.out⟩
    case true =>
      rw [hv] at HV
      obtain ⟨B, hB⟩ : ∃ B, B = vdL l := ⟨_, rfl⟩
      simp only [Bool.true_and]
      rw [← hB]
      have HBB := Lib.hid hB
      clear hB hv
      go_enter Tryd.func21, Tryd.ntmps21
      go_wp2_with fail
      refine (HV.out _ HB0.out).mono ?_
      rintro e w1 ⟨rfl, hb1⟩
      have HB1 := Lib.hid hb1
      clear hb1 d0 d1 d2 d3
      obtain ⟨d0, d1, d2, d3⟩ := HC.out _ HB1.out
      go_wp2_with fail
      go_loopg [3] N (fun gn i wr => ∃ (q : Nat), gn = N - q ∧ q ≤ N ∧ i = .int .i64 (q : Int) ∧ Hid (B = vdL (l.drop q)) ∧ Hid (Below Z.heap.size Z wr))
      case atStart => exact ⟨0, rfl, Nat.zero_le _, rfl, Lib.hid HBB.out, HB1⟩
      case round =>
        obtain ⟨q, hgn, hq, rfl, HS, HB⟩ := hrel
        clear d0 d1 d2 d3
        obtain ⟨d0, d1, d2, d3⟩ := HC.out _ HB.out
        have HBw : Hid (Below w.heap.size w wr) := Lib.hid (UP.out _ HB.out)
        by_cases hlt : q < N
        · obtain ⟨x, hx⟩ : ∃ x, l[q]? = some x := ⟨_, List.getElem?_eq_getElem (by rw [← HN.out]; exact hlt)⟩
          obtain ⟨g, o, k', n', t', lv', rfl, hxc, hce⟩ := HK.out q x hx
          obtain ⟨e0, e1, e2, e3⟩ := hce wr HBw.out
          have HI1 := Lib.hid (HI.out x (List.mem_of_getElem? hx) _ hxc wr HBw.out)
          have HK2 : Hid (B = (vdD x && vdL (l.drop (q + 1)))) := Lib.hid (by rw [HS.out, vdL_drop hx])
          have qn : (q : Int) < (N : Int) := by omega
          obtain ⟨y, hy⟩ : ∃ y, y = vdD x := ⟨_, rfl⟩
          rw [← hy] at HI1 HK2
          clear hce hx hy hxc HS
          go_wp2_with fail
          refine HI1.out.mono ?_
          rintro e w2 ⟨rfl, hb2⟩
          have HB2 := Lib.hid (HB.out.trans (hb2.mono HB.out.size))
          clear hb2 HI1
          cases y
          · have HK3 : Hid (false = B) := Lib.hid (by rw [HK2.out, Bool.false_and])
            go_wp2_with fail
            go_ret
            exact ⟨retB HK3.out, UP.out _ HB2.out⟩
          · have HK3 : Hid (B = vdL (l.drop (q + 1))) := Lib.hid (by rw [HK2.out, Bool.true_and])
            go_wp2_with fail
            go_roundg (N - (q + 1))
            case measure => omega
            case rel => exact ⟨q + 1, rfl, hlt, by go_num, HK3, HB2⟩
        · obtain rfl : q = N := by omega
          have HF : Hid (true = B) := Lib.hid (by have := HS.out; rw [List.drop_eq_nil_of_le (by rw [HN.out]; exact Nat.le_refl _)] at this; rw [this]; rfl)
          go_wp2_with fail
          go_ret
          exact ⟨retB HF.out, HBw.out⟩
set_option maxRecDepth 100000 in
set_option maxHeartbeats 4000000 in
theorem walk (c : List Value) (d : Dc) (w : World) (g : DcAt w c d) (htb : Tabs w) :
    Calls Tryd.prog 4 #[.agg c.toArray] w fun e w' => e = .returned (.bool true) ∧ Below w.heap.size w w' := by
  obtain ⟨k, n, t, lv, rfl⟩ : ∃ k n t lv, c = [.int .i64 k, .int .i64 n, .string t, lv] := by
    cases d with
    | mk k n t l => obtain ⟨lv, cs, rfl, -⟩ := g.inv; exact ⟨_, _, _, _, rfl⟩
  obtain ⟨Z, hZ⟩ : ∃ Z, Z = w.alloc (.cells #[.int .i64 k, .int .i64 n, .string t, lv] 26) := ⟨_, rfl⟩
  have hbW : Below w.heap.size w Z := by rw [hZ]; exact below1 _ _
  have HB0 : Hid (Below Z.heap.size Z (w.alloc (.cells #[.int .i64 k, .int .i64 n, .string t, lv] 26))) := Lib.hid (by rw [← hZ]; exact Below.refl _ _)
  have HC := Lib.hid (fun W (hb : Below Z.heap.size Z W) => dc_cells (by rw [hZ] at hb; exact hb))
  have UP := Lib.hid (fun W (h : Below Z.heap.size Z W) => hbW.trans (h.mono hbW.size))
  have G := Lib.hid (fun W (h : Below Z.heap.size Z W) => g.bel (UP.out W h))
  have HTZ : Hid (∀ W, Below Z.heap.size Z W → Tabs W) := Lib.hid fun W h => htb.below (UP.out W h)
  have HT : Hid (∀ W, Below Z.heap.size Z W → Calls Tryd.prog 12 #[] W fun e w' => e = .returned (.bool true) ∧ Below Z.heap.size Z w') := Lib.hid fun W hb => (told16_any W (HTZ.out W hb)).mono fun e w' ⟨h1, h2⟩ => ⟨h1, hb.trans (h2.mono hb.size)⟩
  have HF0 : Hid (∀ W, Below Z.heap.size Z W → Calls Tryd.prog 13 #[.agg #[.int .i64 k, .int .i64 n, .string t, lv]] W fun e w' => e = .returned (.bool (fwD d)) ∧ Below Z.heap.size Z w') := Lib.hid fun W hb => (fwD_any d _ W (G.out W hb)).mono fun e w' ⟨h1, h2⟩ => ⟨h1, hb.trans (h2.mono hb.size)⟩
  obtain ⟨d0, d1, d2, d3⟩ := HC.out _ HB0.out
  clear g hZ hbW htb
  cases hf : fwD d
  · rw [hf] at HF0
    go_enter Tryd.func4, Tryd.ntmps4
    go_wp2_with fail
    refine (HF0.out _ HB0.out).mono ?_
    rintro e w1 ⟨rfl, ht⟩
    have HB1 := Lib.hid ht
    clear ht
    go_wp2_with fail
    refine (HT.out _ HB1.out).mono ?_
    rintro e w2 ⟨rfl, ht⟩
    have HB2 := Lib.hid ht
    clear ht
    go_wp2_with fail
    go_ret
    exact ⟨rfl, UP.out _ HB2.out⟩
  rw [hf] at HF0
  obtain ⟨o1, o2⟩ := fwD_ok hf
  have o3 := dtz_mono (show 100 ≤ 1048576 by omega) _ o2
  have HM0 : Hid (∀ W, Below Z.heap.size Z W → Calls Tryd.prog 14 #[.agg #[.int .i64 k, .int .i64 n, .string t, lv]] W fun e w' => e = .returned (.bool (drt d)) ∧ Below Z.heap.size Z w') := Lib.hid fun W hb => (rdmay_any d (by omega) o3 _ W (G.out W hb)).mono fun e w' ⟨h1, h2⟩ => ⟨h1, hb.trans (h2.mono hb.size)⟩
  cases hr : drt d
  · rw [hr] at HM0
    clear o1 o2 o3
    go_enter Tryd.func4, Tryd.ntmps4
    go_wp2_with fail
    refine (HF0.out _ HB0.out).mono ?_
    rintro e w1 ⟨rfl, ht⟩
    have HB1 := Lib.hid ht
    clear ht d0 d1 d2 d3
    obtain ⟨d0, d1, d2, d3⟩ := HC.out _ HB1.out
    go_wp2_with fail
    refine (HM0.out _ HB1.out).mono ?_
    rintro e w2 ⟨rfl, ht⟩
    have HB2 := Lib.hid ht
    clear ht
    go_wp2_with fail
    refine (HT.out _ HB2.out).mono ?_
    rintro e w3 ⟨rfl, ht⟩
    have HB3 := Lib.hid ht
    clear ht
    go_wp2_with fail
    go_ret
    exact ⟨rfl, UP.out _ HB3.out⟩
  rw [hr] at HM0
  have HV0 : Hid (∀ W, Below Z.heap.size Z W → Calls Tryd.prog 21 #[.agg #[.int .i64 k, .int .i64 n, .string t, lv]] W fun e w' => e = .returned (.bool (vdD d)) ∧ Below Z.heap.size Z w') := Lib.hid fun W hb => (lawvalid_any 1048576 (Nat.le_refl _) d (by omega) o3 _ W (G.out W hb)).mono fun e w' ⟨h1, h2⟩ => ⟨h1, hb.trans (h2.mono hb.size)⟩
  cases hv : vdD d
  · rw [hv] at HV0
    clear o1 o2 o3
    go_enter Tryd.func4, Tryd.ntmps4
    go_wp2_with fail
    refine (HF0.out _ HB0.out).mono ?_
    rintro e w1 ⟨rfl, ht⟩
    have HB1 := Lib.hid ht
    clear ht d0 d1 d2 d3
    obtain ⟨d0, d1, d2, d3⟩ := HC.out _ HB1.out
    go_wp2_with fail
    refine (HM0.out _ HB1.out).mono ?_
    rintro e w2 ⟨rfl, ht⟩
    have HB2 := Lib.hid ht
    clear ht d0 d1 d2 d3
    obtain ⟨d0, d1, d2, d3⟩ := HC.out _ HB2.out
    go_wp2_with fail
    refine (HV0.out _ HB2.out).mono ?_
    rintro e w4 ⟨rfl, ht⟩
    have HB4 := Lib.hid ht
    clear ht
    go_wp2_with fail
    refine (HT.out _ HB4.out).mono ?_
    rintro e w3 ⟨rfl, ht⟩
    have HB3 := Lib.hid ht
    clear ht
    go_wp2_with fail
    go_ret
    exact ⟨rfl, UP.out _ HB3.out⟩
  rw [hv] at HV0
  have HPF : Hid (∀ W, Below Z.heap.size Z W → Calls Tryd.prog 15 #[.agg #[.int .i64 k, .int .i64 n, .string t, lv]] W fun e w' => e = .returned (.tuple #[.string (if dfrc d = true then ⟨#[]⟩ else ctx (lvs d)), .bool (!dfrc d)]) ∧ Below Z.heap.size Z w') := Lib.hid fun W hb => (pfflat_any d (by omega) o3 _ W (G.out W hb)).mono fun e w' ⟨h1, h2⟩ => ⟨h1, hb.trans (h2.mono hb.size)⟩
  have HPW : Hid (∀ W, Below Z.heap.size Z W → Calls Tryd.prog 17 #[.agg #[.int .i64 k, .int .i64 n, .string t, lv]] W fun e w' => e = .returned (.int .i64 (wsum (lvs d) : Int)) ∧ Below Z.heap.size Z w') := Lib.hid fun W hb => (pfwidth_any d (by omega) o3 _ W (G.out W hb) (HTZ.out W hb)).mono fun e w' ⟨h1, h2⟩ => ⟨h1, hb.trans (h2.mono hb.size)⟩
  have HFO : Hid (∀ W, Below Z.heap.size Z W → Calls Tryd.prog 22 #[.agg #[.int .i64 k, .int .i64 n, .string t, lv]] W fun e w' => e = .returned (.bool (dfrc d)) ∧ Below Z.heap.size Z w') := Lib.hid fun W hb => (rdforced_any 1048576 (Nat.le_refl _) d (by omega) _ W (G.out W hb)).mono fun e w' ⟨h1, h2⟩ => ⟨h1, hb.trans (h2.mono hb.size)⟩
  have hsz : (ctx (lvs d)).size ≤ maxLen := by
    have h1 := ctx_le (lvs d) (fun x hx => wrt_sz (lvs_sz d o3 x hx))
    have h2 := lvs_len d
    have h3 : (lvs d).length * 1048576 ≤ 500 * 1048576 := Nat.mul_le_mul_right _ (by omega)
    unfold maxLen; omega
  have HCT : Hid (∀ W, Below Z.heap.size Z W → Calls Tryd.prog 23 #[.string (ctx (lvs d))] W fun e w' => e = .returned (.int .i64 (wsum (lvs d) : Int)) ∧ Below Z.heap.size Z w') := Lib.hid fun W hb => (rcount_any (ctx (lvs d)) W hsz).mono fun e w' ⟨h1, n, h2⟩ => ⟨by rw [h1, (ctx_vd _ (lvs_vd d hv)).2], h2 ▸ hb.trans ((Below.ofDrewN W n).mono hb.size)⟩
  have HF1 : Hid (∀ W g, W.heap[g]? = some (.cells #[.int .i64 k, .int .i64 n, .string t, lv] 26) → Below Z.heap.size Z W → Calls Tryd.prog 19 #[.slice (some ⟨g, 0, none⟩) 1 1] W fun e w' => e = .returned (.int .i64 (fsum (lvs d) : Int)) ∧ Below Z.heap.size Z w') := Lib.hid fun W g hg hb => (pffirst_any [d] (by simp only [dcntL]; omega) ⟨o3, trivial⟩ _ W (rowOne (lt_of_block hg) hg (G.out W hb)) (HTZ.out W hb)).mono fun e w' ⟨h1, h2⟩ => ⟨by rw [h1, lvsL_one], hb.trans (h2.mono hb.size)⟩
  have HF2 : Hid (∀ W g, W.heap[g]? = some (.cells #[.int .i64 3, .int .i64 0, .string ⟨#[]⟩, .slice none 0 0, .int .i64 k, .int .i64 n, .string t, lv] 26) → Below Z.heap.size Z W → Calls Tryd.prog 19 #[.slice (some ⟨g, 0, none⟩) 2 2] W fun e w' => e = .returned (.int .i64 0) ∧ Below Z.heap.size Z w') := Lib.hid fun W g hg hb => (pffirst_any [.mk 3 0 ⟨#[]⟩ [], d] (by simp only [dcntL, dcnt]; omega) ⟨⟨by show (0 : Nat) ≤ 1048576; omega, trivial⟩, o3, trivial⟩ _ W (rowTwo (lt_of_block hg) hg (leaf9 _ _ _ _ _) (G.out W hb)) (HTZ.out W hb)).mono fun e w' ⟨h1, h2⟩ => ⟨by rw [h1]; rfl, hb.trans (h2.mono hb.size)⟩
  have hfw := fsum_wsum (lvs d)
  obtain ⟨S, hS⟩ : ∃ S, S = ctx (lvs d) := ⟨_, rfl⟩
  obtain ⟨M, hM⟩ : ∃ M, M = wsum (lvs d) := ⟨_, rfl⟩
  obtain ⟨F, hF⟩ : ∃ F, F = fsum (lvs d) := ⟨_, rfl⟩
  obtain ⟨b, hb⟩ : ∃ b, b = dfrc d := ⟨_, rfl⟩
  rw [← hS, ← hb] at HPF
  rw [← hS, ← hM] at HCT
  rw [← hM] at HPW
  rw [← hF] at HF1
  rw [← hb] at HFO
  rw [← hM, ← hF] at hfw
  have hfw' : (F : Int) ≤ (M : Int) := by omega
  have q0 : ((M : Int) != (M : Int)) = false := bne_self_eq_false _
  clear o1 o2 o3 hsz hS hM hF hb hfw hf hr hv
  cases b
  all_goals
    simp only [Bool.not_true, Bool.not_false, if_true, Bool.false_eq_true, if_false] at HPF
    go_enter Tryd.func4, Tryd.ntmps4
    go_wp2_with fail
    refine (HF0.out _ HB0.out).mono ?_
    rintro e w1 ⟨rfl, ht⟩
    have HB1 := Lib.hid ht
    clear ht d0 d1 d2 d3
    obtain ⟨d0, d1, d2, d3⟩ := HC.out _ HB1.out
    go_wp2_with fail
    refine (HM0.out _ HB1.out).mono ?_
    rintro e w2 ⟨rfl, ht⟩
    have HB2 := Lib.hid ht
    clear ht d0 d1 d2 d3
    obtain ⟨d0, d1, d2, d3⟩ := HC.out _ HB2.out
    go_wp2_with fail
    refine (HV0.out _ HB2.out).mono ?_
    rintro e w4 ⟨rfl, ht⟩
    have HB4 := Lib.hid ht
    clear ht d0 d1 d2 d3
    obtain ⟨d0, d1, d2, d3⟩ := HC.out _ HB4.out
    go_wp2_with fail
    refine (HPF.out _ HB4.out).mono ?_
    rintro e w5 ⟨rfl, ht⟩
    have HB5 := Lib.hid ht
    clear ht d0 d1 d2 d3
    obtain ⟨d0, d1, d2, d3⟩ := HC.out _ HB5.out
    go_wp2_with fail
    refine (HPW.out _ HB5.out).mono ?_
    rintro e w6 ⟨rfl, ht⟩
    have HB6 := Lib.hid ht
    clear ht d0 d1 d2 d3
    obtain ⟨d0, d1, d2, d3⟩ := HC.out _ HB6.out
    go_wp2_with fail
    refine (HFO.out _ HB6.out).mono ?_
    rintro e w7 ⟨rfl, ht⟩
    have HB7 := Lib.hid ht
    clear ht d0 d1 d2 d3
    obtain ⟨d0, d1, d2, d3⟩ := HC.out _ HB7.out
    go_wp2_with fail
  all_goals
    try
      with_reducible refine (HCT.out _ HB7.out).mono ?_
      rintro e w8 ⟨rfl, ht⟩
      have HB7 := Lib.hid ht
      clear ht d0 d1 d2 d3
      obtain ⟨d0, d1, d2, d3⟩ := HC.out _ HB7.out
      go_wp2_with fail
  all_goals
    refine (HT.out _ HB7.out).mono ?_
    rintro e w9 ⟨rfl, ht⟩
    have HB9 := Lib.hid ht
    clear ht d0 d1 d2 d3
    obtain ⟨d0, d1, d2, d3⟩ := HC.out _ HB9.out
    go_wp2_with fail
    refine (HF1.out _ _ (new_at8 rfl) (HB9.out.alloc HB9.out.size _)).mono ?_
    rintro e w10 ⟨rfl, ht⟩
    have HB10 := Lib.hid ht
    clear ht d0 d1 d2 d3
    obtain ⟨d0, d1, d2, d3⟩ := HC.out _ HB10.out
    go_wp2_with fail
    refine (HF2.out _ _ (new_at8 rfl) (HB10.out.alloc HB10.out.size _)).mono ?_
    rintro e w11 ⟨rfl, ht⟩
    have HB11 := Lib.hid ht
    clear ht
    go_wp2_with fail
    go_ret
    exact ⟨rfl, UP.out _ HB11.out⟩
set_option maxRecDepth 100000 in
theorem lifted (os : Os) (started : os.Started) (H : Type) (enc : TypeId × Value → H) :
    ReturnsInHanded {} Tryd.checked os 4 .any (fun w args => (Rows.flatWideSpec.pre enc Tryd.prog Tryd.f4 [] false w args ∧ laidMetH Tryd.prog utfLaid w) ∧ sizedMet enc Tryd.prog Tryd.f4 (OpenSpec.ofChange Rows.flatWideSpec) false w args)
      (Rows.flatWideSpec.post enc Tryd.prog Tryd.f4 false true false false) := by
  refine returnsInHanded_of_change_and (C := Tryd.checked) (X := fun w _ => laidMetH Tryd.prog utfLaid w) (fun _ _ _ hh h => h.of_heap hh) own started (by kernel_rfl) Tryd.func4
    (ChangeSpec.witness_shaped (enc := enc) (C := Tryd.checked) (os := os) (X := fun w _ => laidMetH Tryd.prog utfLaid w) false (World.doorLaid Tryd.prog 400 os) #[.agg #[.int .i64 0, .int .i64 0, .string ByteArray.empty, .slice none 0 0]] 8 rfl (World.shaped_of_RefB (by kernel_rfl) (by kernel_rfl)) (by kernel_rfl) (by kernel_rfl) (by kernel_rfl) (door_met os _)) ?_
  intro W base args ds gs before hval0 hW _ _ hL _
  have hval : ∀ (j : Nat) t v, Tryd.f4.params[j]? = some t → args[j]? = some v → Value.okWide Tryd.prog W .any base t v := hval0
  have hW' := hW
  obtain ⟨p, q, hA0, hV, rfl, hfz, hnd⟩ := hW
  have hA : DataW.TrodAll enc Tryd.prog W 0 (fun _ => true) true Tryd.f4.params.toList args.toList ds p := hA0
  rw [Tryd.params4] at hA hval
  obtain ⟨v0, vs0, d0, ds0, p0, q0, hargs, rfl, rfl, h0, r0⟩ := trodAll_cons hA
  obtain ⟨rfl, rfl, rfl⟩ := trodAll_nil r0
  obtain rfl : args = #[v0] := by cases args; simp_all
  obtain ⟨rfl, rfl⟩ := trodVars_none hV
  have k0 := h0
  have lt0 : ∀ x ∈ p0, x.block < W.heap.size := by obtain ⟨m, hm⟩ := k0; exact DataW.trod_lt m _ _ _ hm
  obtain ⟨c0, n0, rfl, g0⟩ := open_doc (hval 0 26 v0 rfl rfl) h0
  clear hA0 hval0
  refine (walk c0 n0 W g0 (tabs_of_laid hL)).mono fun e W' ⟨he, bel⟩ => ?_
  subst he
  exact ⟨_, rfl, _, _, _, [], _, [], hW', trodAll_mk1 (shut_bool Tryd.underlying4 _), (trodAll_cons_mk (Below.trod laidOut (by kernel_rfl) (of_decide_eq_true (by kernel_rfl)) k0 bel lt0) trodAll_mk0), rfl, bel.frame _, fun h => by cases h⟩
theorem over : Rows.FlatWideSaid :=
  OpenClaim.holds_of_wide 4 Tryd.f4 rfl rfl rfl rfl rfl rfl rfl ⟨rfl, rfl, rfl, rfl, rfl⟩ rfl rfl rfl rfl rfl (by kernel_rfl) Tryd.func4 (by kernel_rfl)
    (of_decide_eq_true (by kernel_rfl)) (by unfold Func.isWrapper; first | (rw [if_pos (by decide +kernel)]; kernel_rfl) | (rw [if_neg (by decide +kernel)]; exact ⟨rfl, rfl⟩))
    (fun os started H enc _ => lifted os started H enc)
/-- THE TIED CARD. -/
theorem proved : Rows.FlatWideCardSaid :=
  Claim7.holds_tied_plain_at .later [] [.data, .data, .data] true Rows.flatWideCard.stood.harness false
    over (fun _ h => by cases h) (by kernel_rfl) (fun _ h => by cases h) flatWide_row_tie rfl ⟨rfl, rfl⟩ (by kernel_rfl) rfl
    (fun f fn hf hfn => by
      obtain rfl : f = 4 := Option.some.inj ((show Tryd.prog.funcNamed "galley/galleylaw16.FlatWide" = some 4 by kernel_rfl).symm.trans hf) |>.symm
      obtain rfl : fn = Tryd.f4 := (Option.some.inj (Tryd.func4.symm.trans hfn)).symm
      exact ⟨by kernel_rfl, fun j t ht => by
        rw [Tryd.params4] at ht
        have hm : t ∈ [26] := by
          have := Array.mem_of_getElem? ht
          simpa using this
        have hall : ([26].all fun u => !Tryd.prog.wantsStandIn u) = true := by kernel_rfl
        exact (show Tryd.prog.wantsStandIn t = false by simpa using List.all_eq_true.1 hall t hm)⟩)
    (by kernel_rfl)
#print axioms proved
end Go.Proofs.YtnmpapmjkihfcaaDoor.flatWide
