/-
  Tokens with newlines between them all are the same tokens, but points, which end a form then (promises 6.2, 6.4): for every text the statement ScanBlanks returns true.
-/
import Derived.Test.YtajjhhodpohfpaaDoorScanLaid
import Derived.Test.YtajjhhodpohfpaaDoorCards
import Derived.Test.YtajjhhodpohfpaaDoorTie
import Derived.Test.YtajjhhodpohfpaaDoorBase
import Derived.Test.YtajjhhodpohfpaaDoorScanTolds
import Derived.Deep.LoopGhost
import Derived.Deep.QuietTactic
import Derived.BigQuiet
namespace Go.Proofs.YtajjhhodpohfpaaDoor.scanBlanks
open Go.ChangeShapes Go.WideShapes Go.ChangeAt Go.RowKit Go.PlainAid

/-- One token's cells, and what the other row has there. -/
theorem pair_at {s : ByteArray} {L : List Tk3} (hsc : sc s (fw bl s 0) = some L) {k : Nat} (hk : k < L.length) :
    ∃ (K : Int) (a n : Nat), L[k]? = some (K, a, a + n) ∧ 0 < n ∧ a + n ≤ s.size ∧ (((s.extract a (a + n)).toList == [46]) = true → kd2 s a n K = 10) ∧ (((s.extract a (a + n)).toList == [46]) = false → kd2 s a n K = K) := by
  have aux : ∀ (l : List Tk3) (j p : Nat), sc s j = some l → ∀ x, l[p]? = some x → one s x.2.1 = (x.1, x.2.2) ∧ x.1 ≠ 0 ∧ x.2.1 < x.2.2 ∧ x.2.2 ≤ s.size := by
    intro l
    induction l with
    | nil => intro j p _ x hx; simp at hx
    | cons z l ih =>
      intro j p h x hx
      obtain ⟨h1, h2, h3, h4, h5, h6, h7⟩ := sc_cons h
      match p, hx with
      | 0, hx =>
        simp only [List.getElem?_cons_zero, Option.some.injEq] at hx
        subst hx
        exact ⟨by rw [h3]; exact h2, h4, by omega, h6⟩
      | p + 1, hx =>
        simp only [List.getElem?_cons_succ] at hx
        exact ih _ p h7 x hx
  obtain ⟨x, hx⟩ : ∃ x, L[k]? = some x := ⟨L[k], List.getElem?_eq_getElem hk⟩
  obtain ⟨h1, h2, h3, h4⟩ := aux L _ k hsc x hx
  obtain ⟨K, a, e⟩ := x
  simp only at h1 h2 h3 h4
  obtain ⟨n, rfl⟩ : ∃ n, e = a + n := ⟨e - a, by omega⟩
  exact ⟨K, a, n, hx, by omega, h4, fun h => kd2_dot h1 h2 h4 h, fun h => kd2_not h4 h⟩
theorem nlj_step {s : ByteArray} {L : List Tk3} {X : ByteArray} {k : Nat} {K : Int} {a e : Nat} (h : X ++ nlj s (L.drop k) = nlj s L) (hx : L[k]? = some (K, a, e)) : (X ++ s.extract a e ++ { data := #[10] }) ++ nlj s (L.drop (k + 1)) = nlj s L := by
  have hk : k < L.length := (List.getElem?_eq_some_iff.1 hx).1
  have h2 : L[k] = (K, a, e) := (List.getElem?_eq_some_iff.1 hx).2
  rw [List.drop_eq_getElem_cons hk, h2] at h
  rw [← h]
  show (X ++ s.extract a e ++ { data := #[10] }) ++ nlj s (L.drop (k + 1)) = X ++ (s.extract a e ++ (⟨#[10]⟩ ++ nlj s (L.drop (k + 1))))
  apply ByteArray.ext
  simp [ByteArray.data_append, Array.append_assoc]
theorem nlj_fin {s : ByteArray} {L : List Tk3} {X : ByteArray} {k : Nat} (h : X ++ nlj s (L.drop k) = nlj s L) (hk : L.length ≤ k) : X = nlj s L := by
  rw [List.drop_eq_nil_of_le hk] at h
  rw [← h]
  exact ByteArray.append_empty.symm
theorem nlj_le {s : ByteArray} {l L : List Tk3} {X : ByteArray} (h : X ++ nlj s l = nlj s L) : X.size ≤ (nlj s L).size := by
  rw [← h, ByteArray.size_append]; omega
set_option maxRecDepth 100000 in
set_option maxHeartbeats 4000000 in
theorem walk (s : ByteArray) (hs : s.size ≤ maxLen) (w : World) (ht : STabs w) :
    Calls Tryd.prog 5 #[.string s] w fun e w' => e = .returned (.bool true) ∧ Below w.heap.size w w' := by
  have HT := Lib.hid ht
  clear ht
  unfold maxLen at hs
  by_cases h1 : (600 : Int) < (s.size : Int)
  · go_enter Tryd.func5, Tryd.ntmps5
    go_wp2_with fail
    refine (told6_any _ HT.out).mono ?_
    rintro e w1 ⟨rfl, hb1⟩
    have HB := Lib.hid hb1
    clear hb1
    go_wp2_with fail
    go_ret
    exact ⟨rfl, HB.out⟩
  have hs1 : s.size ≤ 600 := by omega
  obtain ⟨L, c, hR⟩ : ∃ L c, scanR s = (L, c) := ⟨_, _, rfl⟩
  have HSC := Lib.hid (fun W h => scan_is s L c hR (by omega) W h)
  by_cases hc : c = 0
  · subst hc
    obtain ⟨-, -, hsc⟩ := scan_good hR
    have hl : L.length ≤ s.size := by
      have h : (scanR s).1.length ≤ s.size := scan_len s
      rw [hR] at h; exact h
    have HNJ := Lib.hid (fun W h => nlj_is hR (by omega) W h)
    have hz : (nlj s L).size ≤ 1200 := by have := nlj_size L _ hsc; omega
    obtain ⟨Z, hZ⟩ : ∃ Z, Z = nlj s L := ⟨_, rfl⟩
    rw [← hZ] at HNJ hz
    have HZ := Lib.hid hZ
    have HS0 := Lib.hid hsc
    clear hsc hR hZ
    go_enter Tryd.func5, Tryd.ntmps5
    go_wp2_with fail
    refine (HSC.out _ HT.out).mono ?_
    rintro e w1 ⟨v1, rfl, ha1, hb1⟩
    obtain ⟨ga, cap, rfl, hr1⟩ := ha1
    have HR1 := Lib.hid hr1
    have B1 := Lib.hid hb1
    clear hr1 hb1
    obtain ⟨N, hN⟩ : ∃ N, N = L.length := ⟨_, rfl⟩
    rw [← hN] at HR1 hl ⊢
    have HN := Lib.hid hN
    clear hN
    go_wp2_with fail
    go_loopg [5, 6] N (fun gn x i wr => ∃ (X : ByteArray) (k : Nat), gn = N - k ∧ k ≤ N ∧ x = .string X ∧ i = .int .i64 k ∧ X.size ≤ 1200 ∧ Hid (X ++ nlj s (L.drop k) = nlj s L) ∧ Hid (∃ q, wr = w1.drewN q))
    case atStart => exact ⟨{ data := #[] }, 0, rfl, Nat.zero_le _, rfl, rfl, by decide, Lib.hid (by rw [List.drop_zero]; exact ByteArray.empty_append), Lib.hid ⟨0, rfl⟩⟩
    case round =>
      obtain ⟨X, k, hgn, hk, rfl, rfl, hX, HX, HQ⟩ := hrel
      obtain ⟨q0, rfl⟩ := HQ.out
      by_cases hlt : k < N
      · obtain ⟨K, a, n, t1, t2, t3, -, -⟩ := pair_at HS0.out (k := k) (by rw [← HN.out]; exact hlt)
        obtain ⟨g, rfl, hg, hc1⟩ := HR1.out (by omega)
        obtain ⟨-, c2, -⟩ := hc1 k _ t1
        have hst := nlj_step HX.out t1
        have hle := nlj_le hst
        rw [← HZ.out] at hle
        have hx2 : (s.extract a (a + n)).size = n := by rw [size_ext s a (a + n) t3]; omega
        obtain ⟨Y, hY⟩ : ∃ Y, Y = s.extract a (a + n) := ⟨_, rfl⟩
        simp only at c2
        rw [← hY] at c2 hst hle hx2
        have HST := Lib.hid hst
        have kn : (k : Int) < (N : Int) := by omega
        have hX3 : (X ++ Y ++ { data := #[10] }).size ≤ 1200 := by omega
        clear hc1 t1 hst hle hY
        go_wp2_with fail
        go_roundg (N - (k + 1))
        case measure => omega
        case rel => exact ⟨_, k + 1, rfl, hlt, rfl, by go_num, hX3, HST, Lib.hid ⟨_, rfl⟩⟩
      · have hXZ : X = Z := by rw [HZ.out]; exact nlj_fin HX.out (by rw [← HN.out]; omega)
        obtain rfl : k = N := by omega
        subst hXZ
        clear HX hgn
        go_wp2_with fail
        refine (HNJ.out _ (HT.out.below (B1.out.trans ((drew_below _ _).mono B1.out.size)))).mono ?_
        rintro e w2 ⟨v2, rfl, ha2, hb2⟩
        obtain ⟨ga2, cap2, rfl, hr2⟩ := ha2
        have HR2 := Lib.hid hr2
        have B12 : Hid (Below w1.heap.size w1 w2) := Lib.hid ((drew_below w1 q0).trans hb2)
        clear hr2 hb2
        rw [← HN.out] at HR2 ⊢
        have kk : ((k : Int) != (k : Int)) = false := by simp
        go_wp2_with fail
        clear kk
        go_loopg [9] k (fun gn i wr => ∃ (j : Nat), gn = k - j ∧ j ≤ k ∧ i = .int .i64 j ∧ Hid (∃ q, wr = w2.drewN q))
        case atStart => exact ⟨0, rfl, Nat.zero_le _, rfl, Lib.hid ⟨0, rfl⟩⟩
        case round =>
          obtain ⟨j, hgn, hj, rfl, HQ2⟩ := hrel
          obtain ⟨q2, rfl⟩ := HQ2.out
          by_cases hlj : j < k
          · obtain ⟨K, a, n, t1, t2, t3, t4, t5⟩ := pair_at HS0.out (k := j) (by rw [← HN.out]; exact hlj)
            obtain ⟨g, rfl, hg, hc1⟩ := HR1.out (by omega)
            obtain ⟨c1, c2, -⟩ := hc1 j _ t1
            obtain ⟨g2, rfl, hg2, hc2⟩ := HR2.out (by omega)
            obtain ⟨d1, d2⟩ := hc2 j _ t1
            simp only at c1 c2 d1 d2
            rw [Nat.add_sub_cancel_left] at d1
            have c1' := (B12.out.cell (p := ⟨g, j * 3, none⟩) hg).trans c1
            have c2' := (B12.out.cell (p := ⟨g, j * 3 + 1, none⟩) hg).trans c2
            obtain ⟨Y, hY⟩ : ∃ Y, Y = s.extract a (a + n) := ⟨_, rfl⟩
            obtain ⟨K', hK'⟩ : ∃ K', K' = kd2 s a n K := ⟨_, rfl⟩
            rw [← hK'] at d1 t4 t5
            rw [← hY] at c2' d2 t4 t5
            have jn : (j : Int) < (k : Int) := by omega
            clear c1 c2 hc1 hc2 t1 hK' hY
            cases hd : (Y.toList == [46])
            · obtain rfl := t5 hd
              clear t4 t5
              go_wp2_with fail
              go_quiet (fail)
              go_wp2_with fail
              go_roundg (k - (j + 1))
              case measure => omega
              case rel => exact ⟨j + 1, rfl, hlj, by go_num, Lib.hid ⟨_, rfl⟩⟩
            · obtain rfl := t4 hd
              clear t4 t5
              go_wp2_with fail
              go_quiet (fail)
              go_wp2_with fail
              go_roundg (k - (j + 1))
              case measure => omega
              case rel => exact ⟨j + 1, rfl, hlj, by go_num, Lib.hid ⟨_, rfl⟩⟩
          · obtain rfl : j = k := by omega
            have B8 : Hid (Below w.heap.size w (w2.drewN q2)) := Lib.hid (B1.out.trans ((B12.out.trans ((drew_below _ _).mono B12.out.size)).mono B1.out.size))
            go_wp2_with fail
            refine (told6_any _ (HT.out.below B8.out)).mono ?_
            rintro e w9 ⟨rfl, hb9⟩
            have B9 : Hid (Below w.heap.size w w9) := Lib.hid (B8.out.trans (hb9.mono B8.out.size))
            clear hb9
            go_wp2_with fail
            go_ret
            exact ⟨rfl, B9.out⟩
  · clear hR
    go_enter Tryd.func5, Tryd.ntmps5
    go_wp2_with fail
    refine (HSC.out _ HT.out).mono ?_
    rintro e w1 ⟨v1, rfl, ha1, hb1⟩
    have B1 := Lib.hid hb1
    clear hb1 ha1
    have hcn : (c != 0) = true := by simpa using hc
    go_wp2_with fail
    refine (told6_any _ (HT.out.below B1.out)).mono ?_
    rintro e w2 ⟨rfl, hb2⟩
    have B2 : Hid (Below w.heap.size w w2) := Lib.hid (B1.out.trans (hb2.mono B1.out.size))
    clear hb2
    go_wp2_with fail
    go_ret
    exact ⟨rfl, B2.out⟩
set_option maxRecDepth 100000 in
theorem lifted (os : Os) (started : os.Started) (H : Type) (enc : TypeId × Value → H) :
    ReturnsInHanded {} Tryd.checked os 5 .any (fun w args => (Rows.scanBlanksSpec.pre enc Tryd.prog Tryd.f5 [] false w args ∧ laidMetH Tryd.prog scanLaid w) ∧ sizedMet enc Tryd.prog Tryd.f5 (OpenSpec.ofChange Rows.scanBlanksSpec) false w args)
      (Rows.scanBlanksSpec.post enc Tryd.prog Tryd.f5 false true false false) := by
  refine returnsInHanded_of_change_and (C := Tryd.checked) (X := fun w _ => laidMetH Tryd.prog scanLaid w) (fun _ _ _ hh h => h.of_heap hh) own6 started (by kernel_rfl) Tryd.func5
    (ChangeSpec.witness_shaped (enc := enc) (C := Tryd.checked) (os := os) (X := fun w _ => laidMetH Tryd.prog scanLaid w) false (World.laidAll Tryd.prog os scanLaid) #[.string ByteArray.empty] 8 (World.laidAll_os _ _ _) (World.shaped_of_ZipB (by kernel_rfl) (by kernel_rfl)) (by kernel_rfl) (by kernel_rfl) (by kernel_rfl) (laid_met6 os _)) ?_
  intro W base args ds gs before hval0 hW _ _ hL _
  have hval : ∀ (j : Nat) t v, Tryd.f5.params[j]? = some t → args[j]? = some v → Value.okWide Tryd.prog W .any base t v := hval0
  have hW' := hW
  obtain ⟨p, q, hA0, hV, rfl, hfz, hnd⟩ := hW
  have hA : DataW.TrodAll enc Tryd.prog W 0 (fun _ => true) true Tryd.f5.params.toList args.toList ds p := hA0
  rw [Tryd.params5] at hA hval
  obtain ⟨v0, vs0, d0, ds0, p0, q0, hargs, rfl, rfl, h0, r0⟩ := trodAll_cons hA
  obtain ⟨rfl, rfl, rfl⟩ := trodAll_nil r0
  obtain rfl : args = #[v0] := by cases args; simp_all
  obtain ⟨rfl, rfl⟩ := trodVars_none hV
  obtain ⟨a0, rfl, rfl, rfl, w0⟩ := Go.ChangeMaps.open_string Tryd.underlying9 (hval 0 9 v0 rfl rfl) h0
  clear hA0 hval0
  simp only [List.append_nil] at hW'
  refine (walk a0 w0 W (stabs_of_laid hL)).mono fun e W' ⟨he, bel⟩ => ?_
  subst he
  exact ⟨_, rfl, _, _, _, [], _, [], hW', trodAll_mk1 (shut_bool Tryd.underlying4 _), (trodAll_cons_mk (Go.ChangeMaps.shut_string Tryd.underlying9 w0) trodAll_mk0), rfl, bel.frame _, fun h => by cases h⟩
theorem over : Rows.ScanBlanksSaid :=
  OpenClaim.holds_of_wide 5 Tryd.f5 rfl rfl rfl rfl rfl rfl rfl ⟨rfl, rfl, rfl, rfl, rfl⟩ rfl rfl rfl rfl rfl (by kernel_rfl) Tryd.func5 (by kernel_rfl)
    (of_decide_eq_true (by kernel_rfl)) (by unfold Func.isWrapper; first | (rw [if_pos (by decide +kernel)]; kernel_rfl) | (rw [if_neg (by decide +kernel)]; exact ⟨rfl, rfl⟩))
    (fun os started H enc _ => lifted os started H enc)
/-- THE TIED CARD. -/
theorem proved : Rows.ScanBlanksCardSaid :=
  Claim7.holds_tied_plain_at .later [] [.data, .data, .data, .data, .data, .data, .pinned] true Rows.scanBlanksCard.stood.harness false
    over (fun _ h => by cases h) (by kernel_rfl) (fun _ h => by cases h) scanBlanks_row_tie rfl ⟨rfl, rfl⟩ (by kernel_rfl) rfl
    (fun f fn hf hfn => by
      obtain rfl : f = 5 := Option.some.inj ((show Tryd.prog.funcNamed "galley/galleylaw6.ScanBlanks" = some 5 by kernel_rfl).symm.trans hf) |>.symm
      obtain rfl : fn = Tryd.f5 := (Option.some.inj (Tryd.func5.symm.trans hfn)).symm
      exact ⟨by kernel_rfl, fun j t ht => by
        rw [Tryd.params5] at ht
        have hm : t ∈ [9] := by
          have := Array.mem_of_getElem? ht
          simpa using this
        have hall : ([9].all fun u => !Tryd.prog.wantsStandIn u) = true := by kernel_rfl
        exact (show Tryd.prog.wantsStandIn t = false by simpa using List.all_eq_true.1 hall t hm)⟩)
    (by kernel_rfl)
#print axioms proved
end Go.Proofs.YtajjhhodpohfpaaDoor.scanBlanks
