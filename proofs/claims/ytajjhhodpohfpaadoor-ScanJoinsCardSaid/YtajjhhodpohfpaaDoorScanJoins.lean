/-
  Two texts with a newline between have both's tokens, but where a point ends the first one (promises 6.3, 6.4): for every two texts the statement ScanJoins returns true.
-/
import Derived.Test.YtajjhhodpohfpaaDoorScanLaid
import Derived.Test.YtajjhhodpohfpaaDoorCards
import Derived.Test.YtajjhhodpohfpaaDoorTie
import Derived.Test.YtajjhhodpohfpaaDoorBase
import Derived.Test.YtajjhhodpohfpaaDoorScanTolds
import Derived.Deep.LoopGhost
import Derived.Deep.QuietTactic
import Derived.BigQuiet
namespace Go.Proofs.YtajjhhodpohfpaaDoor.scanJoins
open Go.ChangeShapes Go.WideShapes Go.ChangeAt Go.RowKit Go.PlainAid

theorem sc_in {s : ByteArray} : ∀ (l : List Tk3) (j p : Nat), sc s j = some l → ∀ x, l[p]? = some x → x.2.1 < x.2.2 ∧ x.2.2 ≤ s.size
  | [], _, _, _, x, hx => by simp at hx
  | z :: l, j, p, h, x, hx => by
    obtain ⟨h1, h2, h3, h4, h5, h6, h7⟩ := sc_cons h
    match p, hx with
    | 0, hx =>
      simp only [List.getElem?_cons_zero, Option.some.injEq] at hx
      subst hx
      exact ⟨by omega, h6⟩
    | p + 1, hx =>
      simp only [List.getElem?_cons_succ] at hx
      exact sc_in l _ p h7 x hx
theorem ext_left (A B : ByteArray) (i j : Nat) (h : j ≤ A.size) : (A ++ B).extract i j = A.extract i j := by
  apply ByteArray.ext
  apply Array.toList_inj.1
  rw [Lib.extract_data, Lib.extract_data]
  simp only [ByteArray.toList_data_append]
  have hl : A.data.toList.length = A.size := by rw [Array.length_toList]; rfl
  by_cases hi : i ≤ A.size
  · rw [List.drop_append_of_le_length (by omega), List.take_append_of_le_length (by rw [List.length_drop]; omega)]
  · rw [show j - i = 0 by omega, List.take_zero, List.take_zero]
theorem ext_right (A B : ByteArray) (i j : Nat) : (A ++ B).extract (A.size + i) (A.size + j) = B.extract i j := by
  apply ByteArray.ext
  apply Array.toList_inj.1
  rw [Lib.extract_data, Lib.extract_data]
  simp only [ByteArray.toList_data_append]
  have hl : A.data.toList.length = A.size := by rw [Array.length_toList]; rfl
  rw [List.drop_append, List.drop_of_length_le (by omega), List.nil_append, show A.size + i - A.data.toList.length = i by omega, show A.size + j - (A.size + i) = j - i by omega]
/-- The joined text's scan. -/
theorem join_is {a b : ByteArray} {l m : List Tk3} (ha : scanR a = (l, 0)) (hb : scanR b = (m, 0)) (hz : a.size + b.size ≤ 60000) : scanR (a ++ { data := #[10] } ++ b) = (l ++ shf (a.size + 1) m, 0) := by
  obtain ⟨-, va, sa⟩ := scan_good ha
  obtain ⟨-, vb, sb⟩ := scan_good hb
  have h10 : ({ data := #[10] } : ByteArray).size = 1 := rfl
  have hsz : (a ++ ({ data := #[10] } : ByteArray) ++ b).size = a.size + 1 + b.size := by rw [ByteArray.size_append, ByteArray.size_append, h10]
  exact scan_of (by omega) (vd_join va vb) (join_sc a b m sb l 0 (Nat.zero_le _) sa)
/-- What stands at a place of the joined row. -/
theorem join_left {W : World} {g : Nat} {a b : ByteArray} {l m : List Tk3} (hl : scanR a = (l, 0)) (hc : ∀ i x, (l ++ shf (a.size + 1) m)[i]? = some x →
    W.cell? ⟨g, i * 3, none⟩ = some (.int .i64 x.1) ∧ W.cell? ⟨g, i * 3 + 1, none⟩ = some (.string ((a ++ { data := #[10] } ++ b).extract x.2.1 x.2.2)) ∧ W.cell? ⟨g, i * 3 + 2, none⟩ = some (.int .i64 x.2.1)) {i : Nat} {x : Tk3} (hx : l[i]? = some x) :
    W.cell? ⟨g, i * 3, none⟩ = some (.int .i64 x.1) ∧ W.cell? ⟨g, i * 3 + 1, none⟩ = some (.string (a.extract x.2.1 x.2.2)) ∧ W.cell? ⟨g, i * 3 + 2, none⟩ = some (.int .i64 x.2.1) := by
  have hi := (List.getElem?_eq_some_iff.1 hx).1
  obtain ⟨c1, c2, c3⟩ := hc i x (by rw [List.getElem?_append_left hi]; exact hx)
  obtain ⟨-, -, sa⟩ := scan_good hl
  have hin := sc_in l _ i sa x hx
  rw [ext_left _ _ _ _ (by rw [ByteArray.size_append]; omega), ext_left _ _ _ _ hin.2] at c2
  exact ⟨c1, c2, c3⟩
theorem join_right {W : World} {g : Nat} {a b : ByteArray} {l m : List Tk3} (hc : ∀ i x, (l ++ shf (a.size + 1) m)[i]? = some x →
    W.cell? ⟨g, i * 3, none⟩ = some (.int .i64 x.1) ∧ W.cell? ⟨g, i * 3 + 1, none⟩ = some (.string ((a ++ { data := #[10] } ++ b).extract x.2.1 x.2.2)) ∧ W.cell? ⟨g, i * 3 + 2, none⟩ = some (.int .i64 x.2.1)) {j : Nat} {x : Tk3} (hx : m[j]? = some x) :
    W.cell? ⟨g, (l.length + j) * 3, none⟩ = some (.int .i64 x.1) ∧ W.cell? ⟨g, (l.length + j) * 3 + 1, none⟩ = some (.string (b.extract x.2.1 x.2.2)) ∧ W.cell? ⟨g, (l.length + j) * 3 + 2, none⟩ = some (.int .i64 ((x.2.1 : Int) + a.size + 1)) := by
  have h10 : ({ data := #[10] } : ByteArray).size = 1 := rfl
  have hA : (a ++ ({ data := #[10] } : ByteArray)).size = a.size + 1 := by rw [ByteArray.size_append, h10]
  obtain ⟨c1, c2, c3⟩ := hc (l.length + j) (x.1, a.size + 1 + x.2.1, a.size + 1 + x.2.2) (by
    rw [List.getElem?_append_right (by omega), Nat.add_sub_cancel_left]
    unfold shf
    rw [List.getElem?_map, hx]; rfl)
  have h2 := ext_right (a ++ { data := #[10] }) b x.2.1 x.2.2
  rw [hA] at h2
  simp only at c2 c3
  rw [h2] at c2
  refine ⟨c1, c2, c3.trans (congrArg (fun z => some (Value.int .i64 z)) ?_)⟩
  push_cast
  omega
set_option maxRecDepth 100000 in
set_option maxHeartbeats 4000000 in
theorem walk (s : ByteArray) (hs : s.size ≤ maxLen) (b : ByteArray) (hb : b.size ≤ maxLen) (w : World) (ht : STabs w) :
    Calls Tryd.prog 8 #[.string s, .string b] w fun e w' => e = .returned (.bool true) ∧ Below w.heap.size w w' := by
  have HT := Lib.hid ht
  clear ht
  unfold maxLen at hs hb
  by_cases h1 : (500 : Int) < (s.size : Int)
  · go_enter Tryd.func8, Tryd.ntmps8
    go_wp2_with fail
    refine (told6_any _ HT.out).mono ?_
    rintro e w1 ⟨rfl, hb1⟩
    have HB := Lib.hid hb1
    clear hb1
    go_wp2_with fail
    go_ret
    exact ⟨rfl, HB.out⟩
  by_cases h2 : (500 : Int) < (b.size : Int)
  · go_enter Tryd.func8, Tryd.ntmps8
    go_wp2_with fail
    refine (told6_any _ HT.out).mono ?_
    rintro e w1 ⟨rfl, hb1⟩
    have HB := Lib.hid hb1
    clear hb1
    go_wp2_with fail
    go_ret
    exact ⟨rfl, HB.out⟩
  have hs1 : s.size ≤ 500 := by omega
  have hs2 : b.size ≤ 500 := by omega
  have h10 : ({ data := #[10] } : ByteArray).size = 1 := rfl
  have hz3 : (s ++ ({ data := #[10] } : ByteArray) ++ b).size ≤ 1048576 := by rw [ByteArray.size_append, ByteArray.size_append, h10]; omega
  obtain ⟨L, c, hR⟩ : ∃ L c, scanR s = (L, c) := ⟨_, _, rfl⟩
  obtain ⟨M, d, hR2⟩ : ∃ M d, scanR b = (M, d) := ⟨_, _, rfl⟩
  obtain ⟨O, f, hR3⟩ : ∃ O f, scanR (s ++ { data := #[10] } ++ b) = (O, f) := ⟨_, _, rfl⟩
  have HSC := Lib.hid (fun W h => scan_is s L c hR (by omega) W h)
  have HSC2 := Lib.hid (fun W h => scan_is b M d hR2 (by omega) W h)
  have HSC3 := Lib.hid (fun W h => scan_is _ O f hR3 hz3 W h)
  have hl : L.length ≤ s.size := by
    have h : (scanR s).1.length ≤ s.size := scan_len s
    rw [hR] at h; exact h
  have hm : M.length ≤ b.size := by
    have h : (scanR b).1.length ≤ b.size := scan_len b
    rw [hR2] at h; exact h
  by_cases hcd : c = 0 ∧ d = 0
  · obtain ⟨rfl, rfl⟩ := hcd
    have hJ := join_is hR hR2 (by omega)
    rw [hR3] at hJ
    obtain rfl : f = 0 := congrArg Prod.snd hJ
    obtain rfl : O = _ := congrArg Prod.fst hJ
    have HRA := Lib.hid hR
    have HRB := Lib.hid hR2
    clear hJ hR hR2 hR3 hz3 h10
    go_enter Tryd.func8, Tryd.ntmps8
    go_wp2_with fail
    refine (HSC.out _ HT.out).mono ?_
    rintro e w1 ⟨v1, rfl, ha1, hb1⟩
    have A1 := Lib.hid ha1
    have B1 := Lib.hid hb1
    clear ha1 hb1
    go_wp2_with fail
    refine (HSC2.out _ (HT.out.below B1.out)).mono ?_
    rintro e w2 ⟨v2, rfl, ha2, hb2⟩
    have A2 := Lib.hid ha2
    have A1b := Lib.hid (A1.out.below hb2)
    have B2 : Hid (Below w.heap.size w w2) := Lib.hid (B1.out.trans (hb2.mono B1.out.size))
    clear ha2 hb2 A1
    go_wp2_with fail
    refine (HSC3.out _ (HT.out.below B2.out)).mono ?_
    rintro e w3 ⟨v3, rfl, ha3, hb3⟩
    obtain ⟨ga, cap, rfl, hr1⟩ := A1b.out.below hb3
    obtain ⟨gb, cap2, rfl, hr2⟩ := A2.out.below hb3
    obtain ⟨gc, cap3, rfl, hr3⟩ := ha3
    have hO : (L ++ shf (s.size + 1) M).length = L.length + M.length := by rw [List.length_append]; unfold shf; rw [List.length_map]
    rw [hO] at hr3 ⊢
    have B3 : Hid (Below w.heap.size w w3) := Lib.hid (B2.out.trans (hb3.mono B2.out.size))
    have HR1 := Lib.hid hr1
    have HR2 := Lib.hid hr2
    have HR3 := Lib.hid hr3
    clear hr1 hr2 hr3 hb3 A1b A2 hO
    obtain ⟨N, hN⟩ : ∃ N, N = L.length := ⟨_, rfl⟩
    obtain ⟨N2, hN2⟩ : ∃ N2, N2 = M.length := ⟨_, rfl⟩
    rw [← hN] at HR1 HR3 hl ⊢
    rw [← hN2] at HR2 HR3 hm ⊢
    have HN := Lib.hid hN
    have HN2 := Lib.hid hN2
    clear hN hN2
    have nn : (((N + N2 : Nat) : Int) != (N : Int) + (N2 : Int)) = false := by push_cast; simp
    have ncast : ((N + N2 : Nat) : Int) = (N : Int) + (N2 : Int) := by push_cast; rfl
    go_wp2_with fail
    go_loopg [11] (N + N2) (fun gn i wr => ∃ k : Nat, gn = N + N2 - k ∧ k ≤ N + N2 ∧ i = .int .i64 k ∧ Hid (Below w3.heap.size w3 wr))
    case atStart => exact ⟨0, rfl, Nat.zero_le _, rfl, Lib.hid (Below.refl _ _)⟩
    case round =>
      obtain ⟨k, hgn, hk, rfl, HB⟩ := hrel
      by_cases hlt : k < N
      · obtain ⟨x, hx⟩ : ∃ x, L[k]? = some x := ⟨L[k]'(by rw [← HN.out]; exact hlt), List.getElem?_eq_getElem _⟩
        obtain ⟨g, rfl, hg, hc1⟩ := HR1.out (by omega)
        obtain ⟨g3, rfl, hg3, hc3⟩ := HR3.out (by omega)
        obtain ⟨c1, c2, c3⟩ := hc1 k _ hx
        obtain ⟨d1, d2, d3⟩ := join_left HRA.out hc3 hx
        obtain ⟨K, p, e⟩ := x
        simp only at c1 c2 c3 d1 d2 d3
        obtain ⟨X, hX⟩ : ∃ X, X = s.extract p e := ⟨_, rfl⟩
        rw [← hX] at c2 d2
        clear hX hc1 hc3 hx
        have Z1 := HB.out.alloc HB.out.size (.cells #[.int .i64 0, .string { data := #[] }, .int .i64 0] 29)
        have Z2 := HB.out.alloc HB.out.size (.cells #[.int .i64 K, .string X, .int .i64 (p : Int)] 29)
        have c1 := (Z1.cell (p := ⟨g, k * 3, none⟩) hg).trans c1
        have c2 := (Z1.cell (p := ⟨g, k * 3 + 1, none⟩) hg).trans c2
        have c3 := (Z1.cell (p := ⟨g, k * 3 + 2, none⟩) hg).trans c3
        have d1 := (Z2.cell (p := ⟨g3, k * 3, none⟩) hg3).trans d1
        have d2 := (Z2.cell (p := ⟨g3, k * 3 + 1, none⟩) hg3).trans d2
        have d3 := (Z2.cell (p := ⟨g3, k * 3 + 2, none⟩) hg3).trans d3
        have HZ2 := Lib.hid Z2
        clear Z1 Z2
        have hz := HB.out.size
        have kn : (k : Int) < (N : Int) := by omega
        have kn2 : (k : Int) < (N : Int) + (N2 : Int) := by omega
        go_wp2_with fail
        go_quiet (fail)
        go_wp2_with fail
        go_roundg (N + N2 - (k + 1))
        case measure => omega
        case rel => exact ⟨k + 1, rfl, by omega, by go_num, Lib.hid (HZ2.out.trans ((drew_below _ _).mono HZ2.out.size))⟩
      · by_cases hlt2 : k < N + N2
        · obtain ⟨x, hx⟩ : ∃ x, M[k - N]? = some x := ⟨M[k - N]'(by rw [← HN2.out]; omega), List.getElem?_eq_getElem _⟩
          obtain ⟨g, rfl, hg, hc1⟩ := HR2.out (by omega)
          obtain ⟨g3, rfl, hg3, hc3⟩ := HR3.out (by omega)
          obtain ⟨c1, c2, c3⟩ := hc1 (k - N) _ hx
          obtain ⟨d1, d2, d3⟩ := join_right hc3 hx
          rw [← HN.out, show N + (k - N) = k by omega] at d1 d2 d3
          have hin := sc_in M _ (k - N) (scan_good HRB.out).2.2 x hx
          obtain ⟨K, p, e⟩ := x
          simp only at c1 c2 c3 d1 d2 d3 hin
          have hp : (p : Int) ≤ 500 := by omega
          obtain ⟨X, hX⟩ : ∃ X, X = b.extract p e := ⟨_, rfl⟩
          rw [← hX] at c2 d2
          clear hX hc1 hc3 hx hin
          have Z1 := HB.out.alloc HB.out.size (.cells #[.int .i64 0, .string { data := #[] }, .int .i64 0] 29)
          have Z2 := HB.out.alloc HB.out.size (.cells #[.int .i64 K, .string X, .int .i64 ((p : Int) + s.size + 1)] 29)
          have c1 := (Z1.cell (p := ⟨g, (k - N) * 3, none⟩) hg).trans c1
          have c2 := (Z1.cell (p := ⟨g, (k - N) * 3 + 1, none⟩) hg).trans c2
          have c3 := (Z1.cell (p := ⟨g, (k - N) * 3 + 2, none⟩) hg).trans c3
          have d1 := (Z2.cell (p := ⟨g3, k * 3, none⟩) hg3).trans d1
          have d2 := (Z2.cell (p := ⟨g3, k * 3 + 1, none⟩) hg3).trans d2
          have d3 := (Z2.cell (p := ⟨g3, k * 3 + 2, none⟩) hg3).trans d3
          have HZ2 := Lib.hid Z2
          clear Z1 Z2
          have hz := HB.out.size
          have kn : ¬ (k : Int) < (N : Int) := by omega
          have kn2 : (k : Int) < (N : Int) + (N2 : Int) := by omega
          have kn3 : (k : Int) - (N : Int) < (N2 : Int) := by omega
          have kn4 : (N : Int) ≤ (k : Int) := by omega
          go_wp2_with fail
          go_quiet (fail)
          go_wp2_with fail
          go_roundg (N + N2 - (k + 1))
          case measure => omega
          case rel => exact ⟨k + 1, rfl, by omega, by go_num, Lib.hid (HZ2.out.trans ((drew_below _ _).mono HZ2.out.size))⟩
        · obtain rfl : k = N + N2 := by omega
          have B8 : Hid (Below w.heap.size w wr) := Lib.hid (B3.out.trans (HB.out.mono B3.out.size))
          clear ncast hgn
          go_wp2_with fail
          refine (told6_any _ (HT.out.below B8.out)).mono ?_
          rintro e w9 ⟨rfl, hb9⟩
          have B9 : Hid (Below w.heap.size w w9) := Lib.hid (B8.out.trans (hb9.mono B8.out.size))
          clear hb9
          go_wp2_with fail
          go_ret
          exact ⟨rfl, B9.out⟩
  · clear hR hR2 hR3 hz3 h10
    go_enter Tryd.func8, Tryd.ntmps8
    go_wp2_with fail
    refine (HSC.out _ HT.out).mono ?_
    rintro e w1 ⟨v1, rfl, -, hb1⟩
    have B1 := Lib.hid hb1
    clear hb1
    go_wp2_with fail
    refine (HSC2.out _ (HT.out.below B1.out)).mono ?_
    rintro e w2 ⟨v2, rfl, -, hb2⟩
    have B2 : Hid (Below w.heap.size w w2) := Lib.hid (B1.out.trans (hb2.mono B1.out.size))
    clear hb2
    go_wp2_with fail
    refine (HSC3.out _ (HT.out.below B2.out)).mono ?_
    rintro e w3 ⟨v3, rfl, -, hb3⟩
    have B3 : Hid (Below w.heap.size w w3) := Lib.hid (B2.out.trans (hb3.mono B2.out.size))
    clear hb3
    by_cases hc : c = 0
    · subst hc
      have hd : (d != 0) = true := by simpa using hcd
      clear hcd
      go_wp2_with fail
      refine (told6_any _ (HT.out.below B3.out)).mono ?_
      rintro e w9 ⟨rfl, hb9⟩
      have B9 : Hid (Below w.heap.size w w9) := Lib.hid (B3.out.trans (hb9.mono B3.out.size))
      clear hb9
      go_wp2_with fail
      go_ret
      exact ⟨rfl, B9.out⟩
    · have hd : (c != 0) = true := by simpa using hc
      clear hcd hc
      go_wp2_with fail
      refine (told6_any _ (HT.out.below B3.out)).mono ?_
      rintro e w9 ⟨rfl, hb9⟩
      have B9 : Hid (Below w.heap.size w w9) := Lib.hid (B3.out.trans (hb9.mono B3.out.size))
      clear hb9
      go_wp2_with fail
      go_ret
      exact ⟨rfl, B9.out⟩
set_option maxRecDepth 100000 in
theorem lifted (os : Os) (started : os.Started) (H : Type) (enc : TypeId × Value → H) :
    ReturnsInHanded {} Tryd.checked os 8 .any (fun w args => (Rows.scanJoinsSpec.pre enc Tryd.prog Tryd.f8 [] false w args ∧ laidMetH Tryd.prog scanLaid w) ∧ sizedMet enc Tryd.prog Tryd.f8 (OpenSpec.ofChange Rows.scanJoinsSpec) false w args)
      (Rows.scanJoinsSpec.post enc Tryd.prog Tryd.f8 false true false false) := by
  refine returnsInHanded_of_change_and (C := Tryd.checked) (X := fun w _ => laidMetH Tryd.prog scanLaid w) (fun _ _ _ hh h => h.of_heap hh) own6 started (by kernel_rfl) Tryd.func8
    (ChangeSpec.witness_shaped (enc := enc) (C := Tryd.checked) (os := os) (X := fun w _ => laidMetH Tryd.prog scanLaid w) false (World.laidAll Tryd.prog os scanLaid) #[.string ByteArray.empty, .string ByteArray.empty] 8 (World.laidAll_os _ _ _) (World.shaped_of_ZipB (by kernel_rfl) (by kernel_rfl)) (by kernel_rfl) (by kernel_rfl) (by kernel_rfl) (laid_met6 os _)) ?_
  intro W base args ds gs before hval0 hW _ _ hL _
  have hval : ∀ (j : Nat) t v, Tryd.f8.params[j]? = some t → args[j]? = some v → Value.okWide Tryd.prog W .any base t v := hval0
  have hW' := hW
  obtain ⟨p, q, hA0, hV, rfl, hfz, hnd⟩ := hW
  have hA : DataW.TrodAll enc Tryd.prog W 0 (fun _ => true) true Tryd.f8.params.toList args.toList ds p := hA0
  rw [Tryd.params8] at hA hval
  obtain ⟨v0, vs0, d0, ds0, p0, q0, hargs, rfl, rfl, h0, r0⟩ := trodAll_cons hA
  obtain ⟨v1, vs1, d1, ds1, p1, q1, rfl, rfl, rfl, h1, r1⟩ := trodAll_cons r0
  obtain ⟨rfl, rfl, rfl⟩ := trodAll_nil r1
  obtain rfl : args = #[v0, v1] := by cases args; simp_all
  obtain ⟨rfl, rfl⟩ := trodVars_none hV
  obtain ⟨a0, rfl, rfl, rfl, w0⟩ := Go.ChangeMaps.open_string Tryd.underlying9 (hval 0 9 v0 rfl rfl) h0
  obtain ⟨a1, rfl, rfl, rfl, w1⟩ := Go.ChangeMaps.open_string Tryd.underlying9 (hval 1 9 v1 rfl rfl) h1
  clear hA0 hval0
  simp only [List.append_nil] at hW'
  refine (walk a0 w0 a1 w1 W (stabs_of_laid hL)).mono fun e W' ⟨he, bel⟩ => ?_
  subst he
  exact ⟨_, rfl, _, _, _, [], _, [], hW', trodAll_mk1 (shut_bool Tryd.underlying4 _), (trodAll_cons_mk (Go.ChangeMaps.shut_string Tryd.underlying9 w0) (trodAll_cons_mk (Go.ChangeMaps.shut_string Tryd.underlying9 w1) trodAll_mk0)), rfl, bel.frame _, fun h => by cases h⟩
theorem over : Rows.ScanJoinsSaid :=
  OpenClaim.holds_of_wide 8 Tryd.f8 rfl rfl rfl rfl rfl rfl rfl ⟨rfl, rfl, rfl, rfl, rfl⟩ rfl rfl rfl rfl rfl (by kernel_rfl) Tryd.func8 (by kernel_rfl)
    (of_decide_eq_true (by kernel_rfl)) (by unfold Func.isWrapper; first | (rw [if_pos (by decide +kernel)]; kernel_rfl) | (rw [if_neg (by decide +kernel)]; exact ⟨rfl, rfl⟩))
    (fun os started H enc _ => lifted os started H enc)
/-- THE TIED CARD. -/
theorem proved : Rows.ScanJoinsCardSaid :=
  Claim7.holds_tied_plain_at .later [] [.data, .data, .data, .data, .data, .data, .pinned] true Rows.scanJoinsCard.stood.harness false
    over (fun _ h => by cases h) (by kernel_rfl) (fun _ h => by cases h) scanJoins_row_tie rfl ⟨rfl, rfl⟩ (by kernel_rfl) rfl
    (fun f fn hf hfn => by
      obtain rfl : f = 8 := Option.some.inj ((show Tryd.prog.funcNamed "galley/galleylaw6.ScanJoins" = some 8 by kernel_rfl).symm.trans hf) |>.symm
      obtain rfl : fn = Tryd.f8 := (Option.some.inj (Tryd.func8.symm.trans hfn)).symm
      exact ⟨by kernel_rfl, fun j t ht => by
        rw [Tryd.params8] at ht
        have hm : t ∈ [9] := by
          have := Array.mem_of_getElem? ht
          simpa using this
        have hall : ([9].all fun u => !Tryd.prog.wantsStandIn u) = true := by kernel_rfl
        exact (show Tryd.prog.wantsStandIn t = false by simpa using List.all_eq_true.1 hall t hm)⟩)
    (by kernel_rfl)
#print axioms proved
end Go.Proofs.YtajjhhodpohfpaaDoor.scanJoins
