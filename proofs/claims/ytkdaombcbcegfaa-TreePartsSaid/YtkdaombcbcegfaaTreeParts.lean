/-
  A tree's nodes, literals, comments are its own and those of its parts (promise 10.1): for every row of trees and every text the statement TreeParts returns true. No condition.
-/
import Derived.Test.YtkdaombcbcegfaaBase
import Derived.Test.YtkdaombcbcegfaaNode
import Derived.Test.YtkdaombcbcegfaaTreeTold
import Derived.Test.YtkdaombcbcegfaaTreeFewW
import Derived.Deep.RegionHeld3
namespace Go.Proofs.Ytkdaombcbcegfaa.treeParts
open Go.ChangeShapes Go.WideShapes Go.ChangeAt Go.RowKit Go.PlainAid

theorem smkL_of {b : Nat} : ∀ (l : List Nd), (∀ (i : Nat) (x : Nd), l[i]? = some x → smk b x) → smkL b l
  | [], _ => by simp only [smkL]
  | x :: t, h => by
    simp only [smkL]
    exact ⟨h 0 x rfl, smkL_of t (fun i y hy => h (i + 1) y (by simpa using hy))⟩
set_option maxRecDepth 100000 in
set_option maxHeartbeats 16000000 in
theorem walk (v : Value) (l : List Nd) (own : ByteArray) (_hm : own.size ≤ maxLen) (w : World) (h : RowN w v l) (hs : ∀ x ∈ l, Szd x) (ho : Sr own) :
    Calls Try.prog 6 #[v, .string own] w fun e w' => e = .returned (.bool true) ∧ Below w.heap.size w w' := by
  have HSD : Hid (∀ (i : Nat) (x : Nd), l[i]? = some x → Szd x) := Lib.hid (fun i x hx => hs x (List.mem_of_getElem? hx))
  have HSX : Hid (Szd (.mk 4 ⟨#[]⟩ l false false [] []) ∧ Szd (.mk 4 ⟨#[]⟩ l false false [] [own])) := Lib.hid ⟨szd_mk (Nat.zero_le _) (fun x hx => by simp at hx) (fun x hx => by simp at hx) hs, szd_mk (Nat.zero_le _) (fun x hx => by simp at hx) (fun x hx => by simp only [List.mem_cons, List.not_mem_nil, or_false] at hx; rw [hx]; exact ho.sz) hs⟩
  clear _hm hs ho
  obtain ⟨cs, hl, hc⟩ := h
  have hl' := hl
  obtain ⟨a, cap, rfl, -⟩ := hl
  have HB0 : Hid (Below w.heap.size w w) := Lib.hid (Below.refl _ _)
  by_cases g5 : 5 < l.length
  · have d1 : decide ((5 : Int) < (l.length : Int)) = true := decide_eq_true (by omega)
    clear hl' hc
    go_enter Try.func6, Try.ntmps6
    go_wp2_with fail
    refine (told10_any _).mono ?_
    rintro e w9 ⟨rfl, hb9⟩
    have HB9 : Hid (Below w.heap.size w w9) := Lib.hid (HB0.out.trans (hb9.mono HB0.out.size))
    clear hb9
    go_wp2_with fail
    go_ret
    exact ⟨rfl, HB9.out⟩
  have d1 : decide ((5 : Int) < (l.length : Int)) = false := decide_eq_false (by omega)
  by_cases g50 : 50 < own.size
  · have d2 : decide ((50 : Int) < (own.size : Int)) = true := decide_eq_true (by omega)
    clear hl' hc
    go_enter Try.func6, Try.ntmps6
    go_wp2_with fail
    refine (told10_any _).mono ?_
    rintro e w9 ⟨rfl, hb9⟩
    have HB9 : Hid (Below w.heap.size w w9) := Lib.hid (HB0.out.trans (hb9.mono HB0.out.size))
    clear hb9
    go_wp2_with fail
    go_ret
    exact ⟨rfl, HB9.out⟩
  have d2 : decide ((50 : Int) < (own.size : Int)) = false := decide_eq_false (by omega)
  have HKID := Lib.hid (kids hl' hc)
  have HNDX : Hid (∀ W, Below w.heap.size w W → SlAt W (.slice a l.length cap) l.length cs ∧ ∀ i x, l[i]? = some x → NdAt W (cs i) x) := Lib.hid fun W hb => ⟨hl'.below hb, fun i x hx => (hc i x hx).bel hb⟩
  obtain ⟨N, hN⟩ : ∃ N, N = l.length := ⟨_, rfl⟩
  rw [← hN] at d1 g5 ⊢
  have HN := Lib.hid hN
  clear hl' hc hN
  go_enter Try.func6, Try.ntmps6
  go_wp2_with fail
  go_loopg [5, 6, 7, 8, 9] N (fun gn zn zl zm zf zi wr => ∃ (q n lt nt : Nat) (f : Bool), gn = N - q ∧ q ≤ N ∧ zi = .int .i64 (q : Int) ∧ zn = .int .i64 (n : Int) ∧ zl = .int .i64 (lt : Int) ∧ zm = .int .i64 (nt : Int) ∧ zf = .bool f ∧
    n ≤ 1 + 400 * q ∧ lt ≤ 400 * q ∧ nt ≤ 1 + 32000 * q ∧ Hid (n + cntL (l.drop q) = 1 + cntL l) ∧ Hid (lt + (ltsL (l.drop q)).length = (ltsL l).length) ∧ Hid (nt + (ntsL (l.drop q)).length = 1 + (ntsL l).length) ∧ Hid ((f || frcL (l.drop q)) = frcL l) ∧
    Hid (∀ i x, i < q → l[i]? = some x → fewB x = true) ∧ Hid (Below w.heap.size w wr))
  case atStart => exact ⟨0, 1, 0, 1, false, rfl, Nat.zero_le _, rfl, rfl, rfl, rfl, rfl, by omega, by omega, by omega, Lib.hid rfl, Lib.hid (by simp), Lib.hid rfl, Lib.hid (by simp), Lib.hid (fun i x hi _ => by omega), HB0⟩
  case round =>
    obtain ⟨q, n, lt, nt, f, hgn, hq, rfl, rfl, rfl, rfl, rfl, bn1, bl1, bm1, HCN, HLT, HNT, HFR, HFW, HB⟩ := hrel
    by_cases hlt : q < N
    · obtain ⟨x, hx⟩ : ∃ x, l[q]? = some x := ⟨_, List.getElem?_eq_getElem (by rw [← HN.out]; exact hlt)⟩
      obtain ⟨g, o, k', t', lv', br', bl', nv', tv', rfl, hnd, hcell⟩ := HKID.out q x hx
      obtain ⟨e0, e1, e2, e3, e4, e5, e6⟩ := hcell wr HB.out
      have qn : (q : Int) < (N : Int) := by omega
      have HFE := Lib.hid (fun W (hb : Below w.heap.size w W) => fewB_any x _ W (hnd.bel hb))
      have HCELL := Lib.hid hcell
      have HND := Lib.hid hnd
      have HX := Lib.hid hx
      clear hcell hnd hx
      cases hfew : fewB x
      · rw [hfew] at HFE
        go_wp2_with fail
        refine (HFE.out _ HB.out).mono ?_
        rintro e w1 ⟨rfl, hb1⟩
        have HB1 := Lib.hid (HB.out.trans (hb1.mono HB.out.size))
        clear hb1
        go_wp2_with fail
        refine (told10_any _).mono ?_
        rintro e w9 ⟨rfl, hb9⟩
        have HB9 : Hid (Below w.heap.size w w9) := Lib.hid (HB1.out.trans (hb9.mono HB1.out.size))
        clear hb9
        go_wp2_with fail
        go_ret
        exact ⟨rfl, HB9.out⟩
      · rw [hfew] at HFE
        have hok := fewB_okT hfew
        obtain ⟨hk4, hs4⟩ := fewB_ok hfew
        have hb1 := nts_bound x hs4
        have hb2 := lts_bound x
        have hzn : (nts x).length ≤ 32000 := by omega
        have hzl : (lts x).length ≤ 400 := by omega
        have PC : Hid (∀ W, Below w.heap.size w W → Calls Try.prog 15 #[.agg #[.int .i64 k', .string t', lv', .bool br', .bool bl', nv', tv']] W fun e w' => e = .returned (.int .i64 (cnt x : Int)) ∧ Below w.heap.size w w') := Lib.hid fun W hb => (ptcount_any x _ W (HND.out.bel hb) hok).mono fun e w' ⟨h1, h2⟩ => ⟨h1, hb.trans (h2.mono hb.size)⟩
        have PL : Hid (∀ W, Below w.heap.size w W → Calls Try.prog 8 #[.agg #[.int .i64 k', .string t', lv', .bool br', .bool bl', nv', tv']] W fun e w' => ∃ a c, e = .returned (.slice a (lts x).length c) ∧ Below w.heap.size w w') := Lib.hid fun W hb => (plits_any x _ W (HND.out.bel hb) hok (HSD.out q x HX.out)).mono fun e w' ⟨v, h1, h2, h3⟩ => by
          obtain ⟨a, c, rfl, -⟩ := txs_st h2
          exact ⟨a, c, h1, hb.trans (h3.mono hb.size)⟩
        have PN : Hid (∀ W, Below w.heap.size w W → Calls Try.prog 9 #[.agg #[.int .i64 k', .string t', lv', .bool br', .bool bl', nv', tv']] W fun e w' => ∃ a c, e = .returned (.slice a (nts x).length c) ∧ Below w.heap.size w w') := Lib.hid fun W hb => (pnotes_any x _ W (HND.out.bel hb) hok (HSD.out q x HX.out)).mono fun e w' ⟨v, h1, h2, h3⟩ => by
          obtain ⟨a, c, rfl, -⟩ := txs_st h2
          exact ⟨a, c, h1, hb.trans (h3.mono hb.size)⟩
        have PF : Hid (∀ W, Below w.heap.size w W → Calls Try.prog 20 #[.agg #[.int .i64 k', .string t', lv', .bool br', .bool bl', nv', tv']] W fun e w' => e = .returned (.bool (frc x)) ∧ Below w.heap.size w w') := Lib.hid fun W hb => (pforced_any x _ W (HND.out.bel hb) hok).mono fun e w' ⟨h1, h2⟩ => ⟨h1, hb.trans (h2.mono hb.size)⟩
        have HCN2 : Hid (n + cnt x + cntL (l.drop (q + 1)) = 1 + cntL l) := Lib.hid (by have := HCN.out; rw [cntL_drop HX.out] at this; omega)
        have HLT2 : Hid (lt + (lts x).length + (ltsL (l.drop (q + 1))).length = (ltsL l).length) := Lib.hid (by have := HLT.out; rw [ltsL_drop HX.out, List.length_append] at this; omega)
        have HNT2 : Hid (nt + (nts x).length + (ntsL (l.drop (q + 1))).length = 1 + (ntsL l).length) := Lib.hid (by have := HNT.out; rw [ntsL_drop HX.out, List.length_append] at this; omega)
        have HFR2 : Hid (((f || frc x) || frcL (l.drop (q + 1))) = frcL l) := Lib.hid (by have := HFR.out; rw [frcL_drop HX.out] at this; rw [Bool.or_assoc]; exact this)
        have HFW2 : Hid (∀ i y, i < q + 1 → l[i]? = some y → fewB y = true) := Lib.hid (fun i y hi hy => by
          by_cases e : i = q
          · subst e
            rw [HX.out] at hy
            obtain rfl : x = y := by simpa using hy
            exact hfew
          · exact HFW.out i y (by omega) hy)
        obtain ⟨cx, hcx⟩ : ∃ z, z = cnt x := ⟨_, rfl⟩
        obtain ⟨lx, hlx⟩ : ∃ z, z = (lts x).length := ⟨_, rfl⟩
        obtain ⟨nx, hnx⟩ : ∃ z, z = (nts x).length := ⟨_, rfl⟩
        obtain ⟨fx, hfx⟩ : ∃ z, z = frc x := ⟨_, rfl⟩
        rw [← hcx] at PC HCN2 hk4
        rw [← hlx] at PL HLT2 hzl
        rw [← hnx] at PN HNT2 hzn
        rw [← hfx] at PF HFR2
        clear hcx hlx hnx hfx hb1 hb2 hs4 hok hfew
        go_wp2_with fail
        refine (HFE.out _ HB.out).mono ?_
        rintro e w1 ⟨rfl, hb1⟩
        have HB1 := Lib.hid (HB.out.trans (hb1.mono HB.out.size))
        have HBd : Hid (Below w.heap.size w w1.drew) := Lib.hid (Below.drew HB1.out)
        have CC := Lib.hid (fun W (hb : Below w.heap.size w W) => (⟨HCELL.out W hb, Lib.hid hb⟩ : (W.cell? ⟨g, o + q * 7, none⟩ = some (.int .i64 k') ∧ W.cell? ⟨g, o + q * 7 + 1, none⟩ = some (.string t') ∧ W.cell? ⟨g, o + q * 7 + 2, none⟩ = some lv' ∧ W.cell? ⟨g, o + q * 7 + 3, none⟩ = some (.bool br') ∧ W.cell? ⟨g, o + q * 7 + 4, none⟩ = some (.bool bl') ∧ W.cell? ⟨g, o + q * 7 + 5, none⟩ = some nv' ∧ W.cell? ⟨g, o + q * 7 + 6, none⟩ = some tv') ∧ Hid (Below w.heap.size w W)))
        have G1 : IntKind.i64.wrap ((n : Int) + (cx : Int)) = (n : Int) + (cx : Int) := by rw [IntKind.wrap_i64]; omega
        have G2 : IntKind.i64.wrap ((lt : Int) + (lx : Int)) = (lt : Int) + (lx : Int) := by rw [IntKind.wrap_i64]; omega
        have G3 : IntKind.i64.wrap ((nt : Int) + (nx : Int)) = (nt : Int) + (nx : Int) := by rw [IntKind.wrap_i64]; omega
        have q0 : (0 : Int) ≤ (q : Int) := by omega
        clear hb1 e0 e1 e2 e3 e4 e5 e6
        go_wp2_with fail
        go_region_held3 (fun w' => (w'.cell? ⟨g, o + q * 7, none⟩ = some (.int .i64 k') ∧ w'.cell? ⟨g, o + q * 7 + 1, none⟩ = some (.string t') ∧ w'.cell? ⟨g, o + q * 7 + 2, none⟩ = some lv' ∧ w'.cell? ⟨g, o + q * 7 + 3, none⟩ = some (.bool br') ∧ w'.cell? ⟨g, o + q * 7 + 4, none⟩ = some (.bool bl') ∧ w'.cell? ⟨g, o + q * 7 + 5, none⟩ = some nv' ∧ w'.cell? ⟨g, o + q * 7 + 6, none⟩ = some tv') ∧ Hid (Below w.heap.size w w')) (first | exact CC.out _ ht | exact CC.out _ HBd.out) (first
          | (go_at_call 15; refine (PC.out _ (by first | exact HBd.out | exact ht)).mono ?_; rintro e w3 ⟨rfl, ht⟩)
          | (go_at_call 8; refine (PL.out _ (by first | exact ht | exact HBd.out)).mono ?_; rintro e w4 ⟨aL, cL, rfl, ht⟩)
          | (go_at_call 9; refine (PN.out _ (by first | exact ht | exact HBd.out)).mono ?_; rintro e w5 ⟨aN, cN, rfl, ht⟩))
        have HB5 := Lib.hid ht
        obtain ⟨e0, e1, e2, e3, e4, e5, e6⟩ := HCELL.out _ ht
        clear ht G1 G2 G3
        cases f
        · have HFR3 : Hid ((fx || frcL (l.drop (q + 1))) = frcL l) := Lib.hid (by have := HFR2.out; rw [Bool.false_or] at this; exact this)
          go_wp2_with fail
          refine (PF.out _ HB5.out).mono ?_
          rintro e w6 ⟨rfl, hb6⟩
          have HB6 := Lib.hid hb6
          clear hb6
          go_wp2_with fail
          go_roundg (N - (q + 1))
          case measure => omega
          case rel => exact ⟨q + 1, n + cx, lt + lx, nt + nx, fx, rfl, hlt, by go_num, by go_num, by go_num, by go_num, rfl, by omega, by omega, by omega, HCN2, HLT2, HNT2, HFR3, HFW2, HB6⟩
        · have HFR3 : Hid ((true || frcL (l.drop (q + 1))) = frcL l) := Lib.hid (by have := HFR2.out; rw [Bool.true_or] at this; exact this)
          go_wp2_with fail
          go_roundg (N - (q + 1))
          case measure => omega
          case rel => exact ⟨q + 1, n + cx, lt + lx, nt + nx, true, rfl, hlt, by go_num, by go_num, by go_num, by go_num, rfl, by omega, by omega, by omega, HCN2, HLT2, HNT2, HFR3, HFW2, HB5⟩
    · obtain rfl : q = N := by omega
      have hn1 : n = cnt (.mk 4 ⟨#[]⟩ l false false [] []) := by
        have := HCN.out
        rw [List.drop_eq_nil_of_le (by rw [HN.out]; exact Nat.le_refl _)] at this
        simp only [cntL] at this
        simp only [cnt]; omega
      have hl1 : lt = (lts (.mk 4 ⟨#[]⟩ l false false [] [])).length := by
        have := HLT.out
        rw [List.drop_eq_nil_of_le (by rw [HN.out]; exact Nat.le_refl _)] at this
        simp only [ltsL, List.length_nil, Nat.add_zero] at this
        simp [lts, this]
      have hm1 : nt = (nts (.mk 4 ⟨#[]⟩ l false false [] [own])).length := by
        have := HNT.out
        rw [List.drop_eq_nil_of_le (by rw [HN.out]; exact Nat.le_refl _)] at this
        simp only [ntsL, List.length_nil, Nat.add_zero] at this
        simp [nts]; omega
      have hf1 : f = frc (.mk 4 ⟨#[]⟩ l false false [] []) := by
        have := HFR.out
        rw [List.drop_eq_nil_of_le (by rw [HN.out]; exact Nat.le_refl _)] at this
        simp only [frcL, Bool.or_false] at this
        simp [frc, this]
      have hsm : smkL 100 l := smkL_of l (fun i x hx => (fewB_okT (HFW.out i x (by have := (List.getElem?_eq_some_iff.1 hx).1; rw [HN.out]; exact this) hx)).2)
      have okX : OkT (.mk 4 ⟨#[]⟩ l false false [] []) := ⟨by omega, by simp only [smk]; exact ⟨by simp, by simp, hsm⟩⟩
      have okY : OkT (.mk 4 ⟨#[]⟩ l false false [] [own]) := ⟨by have h : cnt (.mk 4 ⟨#[]⟩ l false false [] [own]) = cnt (.mk 4 ⟨#[]⟩ l false false [] []) := by simp only [cnt]
                                                                 omega, by simp only [smk]; exact ⟨by simp, by simp, hsm⟩⟩
      obtain ⟨V, hV⟩ : ∃ V, V = (((wr.alloc (.cells #[.int .i64 4, .string { data := #[] }, .slice a q cap, .bool false, .bool false, .slice none 0 0, .slice none 0 0] 26)).alloc (.cells #[.int .i64 4, .string { data := #[] }, .slice a q cap, .bool false, .bool false, .slice none 0 0, .slice (some ⟨wr.heap.size + 1 + 1, 0, none⟩) 1 1] 26)).alloc (.cells #[.string own] 9)) := ⟨_, rfl⟩
      have b2V : Below ((wr.alloc (.cells #[.int .i64 4, .string { data := #[] }, .slice a q cap, .bool false, .bool false, .slice none 0 0, .slice none 0 0] 26)).alloc (.cells #[.int .i64 4, .string { data := #[] }, .slice a q cap, .bool false, .bool false, .slice none 0 0, .slice (some ⟨wr.heap.size + 1 + 1, 0, none⟩) 1 1] 26)).heap.size ((wr.alloc (.cells #[.int .i64 4, .string { data := #[] }, .slice a q cap, .bool false, .bool false, .slice none 0 0, .slice none 0 0] 26)).alloc (.cells #[.int .i64 4, .string { data := #[] }, .slice a q cap, .bool false, .bool false, .slice none 0 0, .slice (some ⟨wr.heap.size + 1 + 1, 0, none⟩) 1 1] 26)) V := by rw [hV]; exact below1 _ _
      have bwr : Below wr.heap.size wr V := by rw [hV]; exact (below2 _ _ _).trans ((below1 ((wr.alloc (.cells #[.int .i64 4, .string { data := #[] }, .slice a q cap, .bool false, .bool false, .slice none 0 0, .slice none 0 0] 26)).alloc (.cells #[.int .i64 4, .string { data := #[] }, .slice a q cap, .bool false, .bool false, .slice none 0 0, .slice (some ⟨wr.heap.size + 1 + 1, 0, none⟩) 1 1] 26)) _).mono (by simp; omega))
      have bw : Below w.heap.size w V := HB.out.trans (bwr.mono HB.out.size)
      have HBV : Hid (Below V.heap.size V (((wr.alloc (.cells #[.int .i64 4, .string { data := #[] }, .slice a q cap, .bool false, .bool false, .slice none 0 0, .slice none 0 0] 26)).alloc (.cells #[.int .i64 4, .string { data := #[] }, .slice a q cap, .bool false, .bool false, .slice none 0 0, .slice (some ⟨wr.heap.size + 1 + 1, 0, none⟩) 1 1] 26)).alloc (.cells #[.string own] 9))) := Lib.hid (by rw [← hV]; exact Below.refl _ _)
      have UP := Lib.hid (fun W (h : Below V.heap.size V W) => bw.trans (h.mono bw.size))
      have HC := Lib.hid (fun W (h : Below V.heap.size V W) => nd2_cells (b2V.trans (h.mono b2V.size)))
      have hst : ∀ W, Below V.heap.size V W → StAt W (.slice (some ⟨wr.heap.size + 1 + 1, 0, none⟩) 1 1) [own] := fun W h => by
        have h1 := st_one ((wr.alloc (.cells #[.int .i64 4, .string { data := #[] }, .slice a q cap, .bool false, .bool false, .slice none 0 0, .slice none 0 0] 26)).alloc (.cells #[.int .i64 4, .string { data := #[] }, .slice a q cap, .bool false, .bool false, .slice none 0 0, .slice (some ⟨wr.heap.size + 1 + 1, 0, none⟩) 1 1] 26)) own
        rw [← hV, show ((wr.alloc (.cells #[.int .i64 4, .string { data := #[] }, .slice a q cap, .bool false, .bool false, .slice none 0 0, .slice none 0 0] 26)).alloc (.cells #[.int .i64 4, .string { data := #[] }, .slice a q cap, .bool false, .bool false, .slice none 0 0, .slice (some ⟨wr.heap.size + 1 + 1, 0, none⟩) 1 1] 26)).heap.size = wr.heap.size + 1 + 1 by simp] at h1
        exact h1.below h
      have ndX : ∀ W, Below V.heap.size V W → NdAt W [.int .i64 4, .string { data := #[] }, .slice a q cap, .bool false, .bool false, .slice none 0 0, .slice none 0 0] (.mk 4 ⟨#[]⟩ l false false [] []) := fun W h => by
        obtain ⟨h1, h2⟩ := HNDX.out W (UP.out W h)
        rw [← HN.out] at h1
        exact .mk 4 _ l false false [] [] _ _ _ cs (st_nil W) (st_nil W) (by rw [← HN.out]; exact h1) h2
      have ndY : ∀ W, Below V.heap.size V W → NdAt W [.int .i64 4, .string { data := #[] }, .slice a q cap, .bool false, .bool false, .slice none 0 0, .slice (some ⟨wr.heap.size + 1 + 1, 0, none⟩) 1 1] (.mk 4 ⟨#[]⟩ l false false [] [own]) := fun W h => by
        obtain ⟨h1, h2⟩ := HNDX.out W (UP.out W h)
        rw [← HN.out] at h1
        exact .mk 4 _ l false false [] [own] _ _ _ cs (st_nil W) (hst W h) (by rw [← HN.out]; exact h1) h2
      have QC : Hid (∀ W, Below V.heap.size V W → Calls Try.prog 15 #[.agg #[.int .i64 4, .string { data := #[] }, .slice a q cap, .bool false, .bool false, .slice none 0 0, .slice none 0 0]] W fun e w' => e = .returned (.int .i64 (n : Int)) ∧ Below V.heap.size V w' ∧ Below W.heap.size W w') := Lib.hid fun W hb => by
        have this := ptcount_any _ _ W (ndX W hb) okX
        rw [← hn1] at this
        exact this.mono fun e w' ⟨h1, h2⟩ => ⟨h1, hb.trans (h2.mono hb.size), h2⟩
      have QF : Hid (∀ W, Below V.heap.size V W → Calls Try.prog 20 #[.agg #[.int .i64 4, .string { data := #[] }, .slice a q cap, .bool false, .bool false, .slice none 0 0, .slice none 0 0]] W fun e w' => e = .returned (.bool f) ∧ Below V.heap.size V w') := Lib.hid fun W hb => by
        have this := pforced_any _ _ W (ndX W hb) okX
        rw [← hf1] at this
        exact this.mono fun e w' ⟨h1, h2⟩ => ⟨h1, hb.trans (h2.mono hb.size)⟩
      have QG : Hid (∀ W, Below V.heap.size V W → Calls Try.prog 20 #[.agg #[.int .i64 4, .string { data := #[] }, .slice a q cap, .bool false, .bool false, .slice none 0 0, .slice (some ⟨wr.heap.size + 1 + 1, 0, none⟩) 1 1]] W fun e w' => e = .returned (.bool true) ∧ Below V.heap.size V w') := Lib.hid fun W hb => by
        have this := pforced_any _ _ W (ndY W hb) okY
        rw [show frc (.mk 4 ⟨#[]⟩ l false false [] [own]) = true by simp [frc]] at this
        exact this.mono fun e w' ⟨h1, h2⟩ => ⟨h1, hb.trans (h2.mono hb.size)⟩
      have QL : Hid (∀ W, Below V.heap.size V W → Calls Try.prog 13 #[.agg #[.int .i64 4, .string { data := #[] }, .slice a q cap, .bool false, .bool false, .slice none 0 0, .slice none 0 0], .agg #[.int .i64 4, .string { data := #[] }, .slice a q cap, .bool false, .bool false, .slice none 0 0, .slice (some ⟨wr.heap.size + 1 + 1, 0, none⟩) 1 1]] W fun e w' => e = .returned (.bool false) ∧ Below V.heap.size V w') := Lib.hid fun W hb => by
        have this := plike_any _ _ _ _ W (ndX W hb) (ndY W hb) okX okY
        rw [show lk false (.mk 4 ⟨#[]⟩ l false false [] []) (.mk 4 ⟨#[]⟩ l false false [] [own]) = false by simp [lk]] at this
        exact this.mono fun e w' ⟨h1, h2⟩ => ⟨h1, hb.trans (h2.mono hb.size)⟩
      have QR : Hid (∀ W, Below V.heap.size V W → Calls Try.prog 14 #[.agg #[.int .i64 4, .string { data := #[] }, .slice a q cap, .bool false, .bool false, .slice none 0 0, .slice none 0 0], .agg #[.int .i64 4, .string { data := #[] }, .slice a q cap, .bool false, .bool false, .slice none 0 0, .slice (some ⟨wr.heap.size + 1 + 1, 0, none⟩) 1 1]] W fun e w' => e = .returned (.bool false) ∧ Below V.heap.size V w') := Lib.hid fun W hb => by
        have this := rlikes_any _ _ _ _ W (ndX W hb) (ndY W hb) okX
        rw [show lk false (.mk 4 ⟨#[]⟩ l false false [] []) (.mk 4 ⟨#[]⟩ l false false [] [own]) = false by simp [lk]] at this
        exact this.mono fun e w' ⟨h1, h2⟩ => ⟨h1, hb.trans (h2.mono hb.size)⟩
      have QI : Hid (∀ W, Below V.heap.size V W → Calls Try.prog 8 #[.agg #[.int .i64 4, .string { data := #[] }, .slice a q cap, .bool false, .bool false, .slice none 0 0, .slice none 0 0]] W fun e w' => ∃ a c, e = .returned (.slice a lt c) ∧ Below V.heap.size V w' ∧ Below W.heap.size W w') := Lib.hid fun W hb => (plits_any _ _ W (ndX W hb) okX HSX.out.1).mono fun e w' ⟨v, h1, h2, h3⟩ => by
        obtain ⟨a, c, rfl, -⟩ := txs_st h2
        rw [← hl1] at h1
        exact ⟨a, c, h1, hb.trans (h3.mono hb.size), h3⟩
      obtain ⟨z, hz⟩ : ∃ z, nt = z + 1 := ⟨(ntsL l).length, by rw [hm1]; simp [nts]⟩
      have QN : Hid (∀ W, Below V.heap.size V W → Calls Try.prog 9 #[.agg #[.int .i64 4, .string { data := #[] }, .slice a q cap, .bool false, .bool false, .slice none 0 0, .slice (some ⟨wr.heap.size + 1 + 1, 0, none⟩) 1 1]] W fun e w' => ∃ g o c, e = .returned (.slice (some ⟨g, o, none⟩) (z + 1) c) ∧ Below V.heap.size V w' ∧ ∀ W', Below w'.heap.size w' W' → W'.cell? ⟨g, o + z, none⟩ = some (.string own)) := Lib.hid fun W hb => (pnotes_any _ _ W (ndY W hb) okY HSX.out.2).mono fun e w' ⟨v, h1, h2, h3⟩ => by
        obtain ⟨a, c, rfl, hr⟩ := txs_st h2
        rw [← hm1, hz] at h1 hr
        obtain ⟨g, o, rfl, hg, hcl⟩ := hr (by omega)
        refine ⟨g, o, c, h1, hb.trans (h3.mono hb.size), fun W' h' => (h'.cell (p := ⟨g, o + z, none⟩) hg).trans (hcl z own ?_)⟩
        have hz2 : z = (ntsL l).length := by rw [hm1] at hz; simp [nts] at hz; omega
        simp only [nts, List.nil_append]
        rw [List.getElem?_append_right (by omega), hz2, Nat.sub_self]
        rfl
      have pn : ((n : Int) == (n : Int)) = true := beq_self_eq_true _
      have pl : ((lt : Int) == (lt : Int)) = true := beq_self_eq_true _
      have pf : (f == f) = true := beq_self_eq_true _
      have po : (own.toList == own.toList) = true := beq_self_eq_true _
      subst hz
      have pz : ((z : Int) + 1 == (z : Int) + 1) = true := beq_self_eq_true _
      have z0 : (0 : Int) ≤ (z : Int) := by omega
      have zb : (z : Int) + 1 ≤ 9223372036854775807 := by omega
      clear hn1 hl1 hm1 hf1 hsm okX okY hV b2V bwr bw hst ndX ndY bn1 bl1 bm1 HCN HLT HNT HFR HFW HKID HNDX
      go_wp2_with fail
      refine (QN.out _ HBV.out).mono ?_
      rintro e w1 ⟨gN, oN, cN, rfl, hb1, hcN⟩
      have HB1 := Lib.hid hb1
      have HCO := Lib.hid hcN
      clear hb1 hcN
      go_wp2_with fail
      refine (told10_any _).mono ?_
      rintro e w2 ⟨rfl, hb2⟩
      have HB2 : Hid (Below V.heap.size V w2) := Lib.hid (HB1.out.trans (hb2.mono HB1.out.size))
      have HW2 : Hid (Below w1.heap.size w1 w2) := Lib.hid hb2
      obtain ⟨⟨d0, d1', d2', d3, d4, d5, d6⟩, ⟨e0, e1, e2, e3, e4, e5, e6⟩⟩ := HC.out _ HB2.out
      clear hb2
      go_wp2_with fail
      refine (QC.out _ HB2.out).mono ?_
      rintro e w3 ⟨rfl, hb3, hw3⟩
      have HB3 := Lib.hid hb3
      have HW3 : Hid (Below w1.heap.size w1 w3) := Lib.hid (HW2.out.trans (hw3.mono HW2.out.size))
      clear hw3
      obtain ⟨⟨d0, d1', d2', d3, d4, d5, d6⟩, ⟨e0, e1, e2, e3, e4, e5, e6⟩⟩ := HC.out _ hb3
      clear hb3
      go_wp2_with fail
      refine (QI.out _ HB3.out).mono ?_
      rintro e w4 ⟨aL, cL, rfl, hb4, hw4⟩
      have HB4 := Lib.hid hb4
      have HWW : Hid (Below w1.heap.size w1 w4) := Lib.hid (HW3.out.trans (hw4.mono HW3.out.size))
      clear hw4
      obtain ⟨⟨d0, d1', d2', d3, d4, d5, d6⟩, ⟨e0, e1, e2, e3, e4, e5, e6⟩⟩ := HC.out _ hb4
      clear hb4
      have cz : w4.cell? ⟨gN, oN + z, none⟩ = some (.string own) := HCO.out _ (HWW.out)
      go_wp2_with fail
      refine (QF.out _ HB4.out).mono ?_
      rintro e w5 ⟨rfl, hb5⟩
      have HB5 := Lib.hid hb5
      obtain ⟨⟨d0, d1', d2', d3, d4, d5, d6⟩, ⟨e0, e1, e2, e3, e4, e5, e6⟩⟩ := HC.out _ hb5
      clear hb5
      clear cz
      go_wp2_with fail
      refine (QG.out _ HB5.out).mono ?_
      rintro e w6 ⟨rfl, hb6⟩
      have HB6 := Lib.hid hb6
      obtain ⟨⟨d0, d1', d2', d3, d4, d5, d6⟩, ⟨e0, e1, e2, e3, e4, e5, e6⟩⟩ := HC.out _ hb6
      clear hb6
      go_wp2_with fail
      refine (QR.out _ HB6.out).mono ?_
      rintro e w7 ⟨rfl, hb7⟩
      have HB7 := Lib.hid hb7
      obtain ⟨⟨d0, d1', d2', d3, d4, d5, d6⟩, ⟨e0, e1, e2, e3, e4, e5, e6⟩⟩ := HC.out _ hb7
      clear hb7
      go_wp2_with fail
      refine (QL.out _ HB7.out).mono ?_
      rintro e w8 ⟨rfl, hb8⟩
      have HB8 := Lib.hid hb8
      obtain ⟨⟨d0, d1', d2', d3, d4, d5, d6⟩, ⟨e0, e1, e2, e3, e4, e5, e6⟩⟩ := HC.out _ hb8
      clear hb8
      have HB9 : Hid (Below w.heap.size w w8) := Lib.hid (UP.out _ HB8.out)
      go_wp2_with fail
      go_ret
      exact ⟨rfl, HB9.out⟩
set_option maxRecDepth 100000 in
theorem lifted (os : Os) (started : os.Started) (H : Type) (enc : TypeId × Value → H) :
    ReturnsInHanded {} Try.checked os 6 .any (Rows.treePartsSpec.pre6 enc Try.prog Try.f6 Rows.treePartsRow.domain false) (Rows.treePartsSpec.post enc Try.prog Try.f6 false true false false) := by
  refine returnsInHanded_of_change_sized (C := Try.checked) ownKnobNone started (by kernel_rfl) Try.func6
    (ChangeSpec.witness6 (enc := enc) (C := Try.checked) false ⟨#[], #[.slice none 0 0, .string ByteArray.empty], []⟩ 8 (by kernel_rfl) (by kernel_rfl) (by kernel_rfl) (by kernel_rfl)) ?_
  intro W base args ds gs before hval0 hW _ hz0 _
  have hval : ∀ (j : Nat) t v, Try.f6.params[j]? = some t → args[j]? = some v → Value.okWide Try.prog W .any base t v := hval0
  have hW' := hW
  obtain ⟨p, q, hA0, hV, rfl, hfz, hnd⟩ := hW
  have hA : DataW.TrodAll enc Try.prog W 0 (fun _ => true) true Try.f6.params.toList args.toList ds p := hA0
  rw [Try.params6] at hA hval
  obtain ⟨v0, vs0, d0, ds0, p0, q0, hargs, rfl, rfl, h0, r0⟩ := trodAll_cons hA
  obtain ⟨v1, vs1, d1, ds1, p1, q1, rfl, rfl, rfl, h1, r1⟩ := trodAll_cons r0
  obtain ⟨rfl, rfl, rfl⟩ := trodAll_nil r1
  obtain rfl : args = #[v0, v1] := by cases args; simp_all
  obtain ⟨rfl, rfl⟩ := trodVars_none hV
  have hz0' : ∀ m ∈ d0.weights Try.prog 24, m ≤ reachBytes := fun m hm => by simpa using List.all_eq_true.1 hz0 m (DataW.weights_mem_each (j := 0) (by rw [Try.params6]; rfl) rfl m hm)
  have hz1' : ∀ m ∈ d1.weights Try.prog 9, m ≤ reachBytes := fun m hm => by simpa using List.all_eq_true.1 hz0 m (DataW.weights_mem_each (j := 1) (by rw [Try.params6]; rfl) rfl m hm)
  obtain ⟨a0, len0, cap0, rfl⟩ := okWide_slice Try.underlying24 (hval 0 24 v0 rfl rfl)
  have k0 := h0
  have lt0 : ∀ x ∈ p0, x.block < W.heap.size := by obtain ⟨m, hm⟩ := k0; exact DataW.trod_lt m _ _ _ hm
  obtain ⟨z0, w0, s0⟩ : ∃ T : List Nd, RowN W (.slice a0 len0 cap0) T ∧ ∀ x ∈ T, Szd x := by
    obtain ⟨fuel, hf⟩ := h0
    exact open_nds hf hz0'
  obtain ⟨a1, rfl, rfl, rfl, w1⟩ := Go.ChangeMaps.open_string Try.underlying9 (hval 1 9 v1 rfl rfl) h1
  have s1 : Sr a1 := sz_reach (hz1' _ (by simp [DataW.weights]))
  clear hA0 hval0
  refine (walk (.slice a0 len0 cap0) z0 a1 w1 W w0 s0 s1).mono fun e W' ⟨he, bel⟩ => ?_
  subst he
  exact ⟨_, rfl, _, _, _, [], _, [], hW', trodAll_mk1 (shut_bool Try.underlying4 _), (trodAll_cons_mk (Below.trod laidOutP (by kernel_rfl) (of_decide_eq_true (by kernel_rfl)) k0 bel lt0) (trodAll_cons_mk (Go.ChangeMaps.shut_string Try.underlying9 w1) trodAll_mk0)), rfl, bel.frame _, fun h => by cases h⟩
theorem over : Rows.TreePartsSaid :=
  OpenClaim.holds_of_wide 6 Try.f6 rfl rfl rfl rfl rfl rfl rfl ⟨rfl, rfl, rfl, rfl, rfl⟩ rfl rfl rfl rfl rfl (by kernel_rfl) Try.func6 (by kernel_rfl)
    (of_decide_eq_true (by kernel_rfl)) (by unfold Func.isWrapper; first | (rw [if_pos (by decide +kernel)]; kernel_rfl) | (rw [if_neg (by decide +kernel)]; exact ⟨rfl, rfl⟩))
    (fun os started H enc _ => lifted os started H enc)
/-- THE STATEMENT. -/
theorem proved : Rows.TreePartsSaid := over
#print axioms proved
end Go.Proofs.Ytkdaombcbcegfaa.treeParts
