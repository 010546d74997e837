/-
  Newlines between tokens, and where tokens end, are what the document says (promise 7.1): for every text and every number the statement GapAsks returns true. No condition.
-/
import Derived.Test.YtlajngjbajabiaaBase
import Derived.Test.YtlajngjbajabiaaGapTold
import Derived.Test.YtlajngjbajabiaaRefGap
namespace Go.Proofs.Ytlajngjbajabiaa.gapAsks
open Go.ChangeShapes Go.WideShapes Go.ChangeAt Go.RowKit Go.PlainAid

theorem tok_bd {s : ByteArray} : ∀ (L : List Tk3) (j : Nat), sc s j = some L → ∀ (k : Nat) (x : Tk3), L[k]? = some x → x.2.1 < x.2.2 ∧ x.2.2 ≤ s.size
  | [], _, _, _, _, h => by simp at h
  | z :: l, j, h, k, x, hx => by
    obtain ⟨h1, h2, h3, h4, h5, h6, h7⟩ := sc_cons h
    match k, hx with
    | 0, hx =>
      simp only [List.getElem?_cons_zero, Option.some.injEq] at hx
      subst hx
      exact ⟨by omega, h6⟩
    | k + 1, hx =>
      simp only [List.getElem?_cons_succ] at hx
      exact tok_bd l _ h7 k x hx
theorem dec_int {m n : Nat} : decide (m ≤ n) = decide ((m : Int) ≤ (n : Int)) := decide_eq_decide.2 (by omega)
set_option maxRecDepth 100000 in
set_option maxHeartbeats 4000000 in
theorem walk (s : ByteArray) (_ : s.size ≤ maxLen) (q : Int) (w : World) :
    Calls Try.prog 3 #[.string s, .int .i64 q] w fun e w' => e = .returned (.bool true) ∧ Below w.heap.size w w' := by
  by_cases g1 : (1000 : Int) < (s.size : Int)
  · go_enter Try.func3, Try.ntmps3
    go_wp2_with fail
    refine (told7_any _).mono ?_
    rintro e w1 ⟨rfl, hb1⟩
    have B1 := Lib.hid hb1
    clear hb1
    go_wp2_with fail
    go_ret
    exact ⟨rfl, B1.out⟩
  have hs : s.size ≤ 1000 := by omega
  obtain ⟨L, c, hR⟩ : ∃ L c, scanR s = (L, c) := ⟨_, _, rfl⟩
  have HSC := Lib.hid (fun W => rscan_is s L c hR (by omega) W)
  by_cases hc : c = 0
  · subst hc
    obtain ⟨-, -, hsc⟩ := scan_good hR
    have hl : L.length ≤ s.size := by
      have h : (scanR s).1.length ≤ s.size := scan_len s
      rw [hR] at h; exact h
    obtain ⟨f, hf⟩ : ∃ f : Int → Nat, f = nls s L := ⟨_, rfl⟩
    have HN := Lib.hid (fun v k W h => rnewlines_any hsc (by omega) (by omega) v k W h)
    have HB := Lib.hid (fun v k W h => broken_any hsc (by omega) (by omega) v k W h)
    have HG := Lib.hid (fun v k W h => blankg_any hsc (by omega) (by omega) v k W h)
    have HTK := Lib.hid (fun k x hx => tok_bd L _ hsc k x hx)
    rw [← hf] at HN HB HG
    simp only [dec_int] at HB HG
    clear hsc hR hf
    go_enter Try.func3, Try.ntmps3
    go_wp2_with fail
    refine (HSC.out _).mono ?_
    rintro e w1 ⟨v, rfl, ha1, hb1⟩
    have A1 := Lib.hid (trow_of ha1)
    have B1 := Lib.hid hb1
    obtain ⟨a, cap, rfl, hr⟩ := A1.out
    have HR := Lib.hid hr
    rw [toks_len] at A1 HR ⊢
    clear hb1 ha1 hr HSC
    obtain ⟨N, hN⟩ : ∃ N, N = L.length := ⟨_, rfl⟩
    rw [← hN] at A1 HR hl ⊢
    have HNN := Lib.hid hN
    clear hN
    go_wp2_with fail
    go_loopg [7] (N + 2) (fun gn i wr => ∃ (j : Nat), gn = N + 2 - j ∧ j ≤ N + 2 ∧ i = .int .i64 ((j : Int) - 1) ∧ Hid (Below w1.heap.size w1 wr))
    case atStart => exact ⟨0, rfl, Nat.zero_le _, rfl, Lib.hid (Below.refl _ _)⟩
    case round =>
      obtain ⟨j, hgn, hj, rfl, HW⟩ := hrel
      by_cases hlt : j < N + 2
      · have z1 : (j : Int) - 1 ≤ (N : Int) := by omega
        obtain ⟨k, hk⟩ : ∃ k : Int, k = (j : Int) - 1 := ⟨_, rfl⟩
        obtain ⟨n, hn⟩ : ∃ n : Nat, n = f ((j : Int) - 1) := ⟨_, rfl⟩
        have N1 := HN.out (.slice a N cap) ((j : Int) - 1) wr (A1.out.below HW.out)
        have N2 := Lib.hid (fun W h => HB.out (.slice a N cap) ((j : Int) - 1) W h)
        have N3 := Lib.hid (fun W h => HG.out (.slice a N cap) ((j : Int) - 1) W h)
        rw [← hn] at N1 N2 N3
        have N1 := Lib.hid N1
        clear hn
        go_wp2_with fail
        refine N1.out.mono ?_
        rintro e w2 ⟨rfl, hb2⟩
        have B2 : Hid (Below w1.heap.size w1 w2) := Lib.hid (HW.out.trans (hb2.mono HW.out.size))
        clear hb2
        go_wp2_with fail
        refine (N2.out _ (A1.out.below B2.out)).mono ?_
        rintro e w3 ⟨rfl, hb3⟩
        have B3 : Hid (Below w1.heap.size w1 w3) := Lib.hid (B2.out.trans (hb3.mono B2.out.size))
        clear hb3
        go_wp2_with fail
        refine (N3.out _ (A1.out.below B3.out)).mono ?_
        rintro e w4 ⟨rfl, hb4⟩
        have B4 : Hid (Below w1.heap.size w1 w4) := Lib.hid (B3.out.trans (hb4.mono B3.out.size))
        clear hb4
        go_wp2_with fail
        go_roundg (N + 2 - (j + 1))
        case measure => omega
        case rel => exact ⟨j + 1, rfl, hlt, by go_num, B4⟩
      · have z1 : ¬ (j : Int) - 1 ≤ (N : Int) := by omega
        go_wp2_with fail
        go_loopg [9] N (fun gn i wr => ∃ (j : Nat), gn = N - j ∧ j ≤ N ∧ i = .int .i64 (j : Int) ∧ Hid (Below w1.heap.size w1 wr))
        case atStart => exact ⟨0, rfl, Nat.zero_le _, rfl, HW⟩
        case round =>
          obtain ⟨m, hgn2, hm, rfl, HW2⟩ := hrel
          by_cases hlt2 : m < N
          · obtain ⟨x, hx⟩ : ∃ x, L[m]? = some x := ⟨_, List.getElem?_eq_getElem (by rw [← HNN.out]; exact hlt2)⟩
            obtain ⟨t1, t2⟩ := HTK.out m x hx
            obtain ⟨g, o, rfl, hg, hcc⟩ := HR.out (by omega)
            have hcx := hcc m _ (toks_at hx)
            obtain ⟨K, b, e⟩ := x
            simp only [tok3] at hcx t1 t2
            obtain ⟨n, hn⟩ : ∃ n, e = b + n := ⟨e - b, by omega⟩
            subst hn
            have hz : (s.extract b (b + n)).size = n := by rw [size_ext s b (b + n) t2]; omega
            have HE := Lib.hid (fun W => end_any7 K b (s.extract b (b + n)) (b + n) (by rw [hz]; omega) (by omega) W)
            obtain ⟨P, hP⟩ : ∃ P, P = s.extract b (b + n) := ⟨_, rfl⟩
            rw [← hP] at hcx hz HE
            rw [show ((b + n : Nat) : Int) = (b : Int) + (n : Int) by omega] at HE
            have C := Lib.hid (fun W (hb : Below w1.heap.size w1 W) => (⟨(hb.cell (p := ⟨g, o + m * 3, none⟩) hg).trans hcx.1, (hb.cell (p := ⟨g, o + m * 3 + 1, none⟩) hg).trans hcx.2.1, (hb.cell (p := ⟨g, o + m * 3 + 2, none⟩) hg).trans hcx.2.2, Lib.hid hb⟩ : W.cell? ⟨g, o + m * 3, none⟩ = some (.int .i64 K) ∧ W.cell? ⟨g, o + m * 3 + 1, none⟩ = some (.string P) ∧ W.cell? ⟨g, o + m * 3 + 2, none⟩ = some (.int .i64 (b : Int)) ∧ Hid (Below w1.heap.size w1 W)))
            have D1 : Hid (∀ W, Below w1.heap.size w1 W → Calls Try.prog 12 #[.agg #[.int .i64 K, .string P, .int .i64 (b : Int)]] W fun x w' => x = .returned (.int .i64 ((b : Int) + (n : Int))) ∧ Below w1.heap.size w1 w') := Lib.hid fun W h => (HE.out W).mono (by rintro e w' ⟨rfl, hb⟩; exact ⟨rfl, h.trans (hb.mono h.size)⟩)
            have HW3 : Hid (Below w1.heap.size w1 wr.drew) := Lib.hid (Below.drew HW2.out)
            have mn : (m : Int) < (N : Int) := by omega
            have wz : IntKind.i64.wrap ((b : Int) + (n : Int)) = (b : Int) + (n : Int) := by rw [IntKind.wrap_i64]; omega
            have zz : ((b : Int) + (n : Int) != IntKind.i64.wrap ((b : Int) + (n : Int))) = false := by rw [wz]; simp
            clear hcc hcx hx hP HE
            go_wp2_with fail
            go_region_held3 (fun w' => w'.cell? ⟨g, o + m * 3, none⟩ = some (.int .i64 K) ∧ w'.cell? ⟨g, o + m * 3 + 1, none⟩ = some (.string P) ∧ w'.cell? ⟨g, o + m * 3 + 2, none⟩ = some (.int .i64 (b : Int)) ∧ Hid (Below w1.heap.size w1 w')) (first | exact C.out _ HW3.out | exact C.out _ ht1) (first
              | (go_at_call 12; refine (D1.out _ (by first | exact HW3.out | (refine Hid.out ?_; assumption) | assumption)).mono ?_; rintro e w2 ⟨rfl, ht1⟩))
            go_wp2_with fail
            go_roundg (N - (m + 1))
            case measure => omega
            case rel => exact ⟨m + 1, rfl, hlt2, by go_num, Lib.hid ht1⟩
          · obtain rfl : m = N := by omega
            obtain ⟨n, hn⟩ : ∃ n : Nat, n = f q := ⟨_, rfl⟩
            have N1 := HN.out (.slice a m cap) q wr (A1.out.below HW2.out)
            have N2 := Lib.hid (fun W h => HB.out (.slice a m cap) q W h)
            have N3 := Lib.hid (fun W h => HG.out (.slice a m cap) q W h)
            rw [← hn] at N1 N2 N3
            have N1 := Lib.hid N1
            clear hn
            go_wp2_with fail
            refine N1.out.mono ?_
            rintro e w2 ⟨rfl, hb2⟩
            have B2 : Hid (Below w1.heap.size w1 w2) := Lib.hid (HW2.out.trans (hb2.mono HW2.out.size))
            clear hb2
            go_wp2_with fail
            refine (told7_any _).mono ?_
            rintro e w3 ⟨rfl, hb3⟩
            have B3 : Hid (Below w1.heap.size w1 w3) := Lib.hid (B2.out.trans (hb3.mono B2.out.size))
            clear hb3
            go_wp2_with fail
            refine (N2.out _ (A1.out.below B3.out)).mono ?_
            rintro e w4 ⟨rfl, hb4⟩
            have B4 : Hid (Below w1.heap.size w1 w4) := Lib.hid (B3.out.trans (hb4.mono B3.out.size))
            clear hb4
            go_wp2_with fail
            refine (N3.out _ (A1.out.below B4.out)).mono ?_
            rintro e w5 ⟨rfl, hb5⟩
            have B5 : Hid (Below w1.heap.size w1 w5) := Lib.hid (B4.out.trans (hb5.mono B4.out.size))
            clear hb5
            go_wp2_with fail
            go_ret
            exact ⟨rfl, B1.out.trans (B5.out.mono B1.out.size)⟩
  · clear hR
    go_enter Try.func3, Try.ntmps3
    go_wp2_with fail
    refine (HSC.out _).mono ?_
    rintro e w1 ⟨v1, rfl, ha1, hb1⟩
    have B1 := Lib.hid hb1
    clear hb1 ha1
    have hcn : (c != 0) = true := by simpa using hc
    go_wp2_with fail
    refine (told7_any _).mono ?_
    rintro e w2 ⟨rfl, hb2⟩
    have B2 : Hid (Below w.heap.size w w2) := Lib.hid (B1.out.trans (hb2.mono B1.out.size))
    clear hb2
    go_wp2_with fail
    go_ret
    exact ⟨rfl, B2.out⟩
set_option maxRecDepth 100000 in
theorem lifted (os : Os) (started : os.Started) (H : Type) (enc : TypeId × Value → H) :
    ReturnsInHanded {} Try.checked os 3 .any (Rows.gapAsksSpec.pre6 enc Try.prog Try.f3 Rows.gapAsksRow.domain false) (Rows.gapAsksSpec.post enc Try.prog Try.f3 false true false false) := by
  refine returnsInHanded_of_change (C := Try.checked) ownKnobNone started (by kernel_rfl) Try.func3
    (ChangeSpec.witness6 (enc := enc) (C := Try.checked) false ⟨#[], #[.string ByteArray.empty, .int .i64 0], []⟩ 8 (by kernel_rfl) (by kernel_rfl) (by kernel_rfl) (by kernel_rfl)) ?_
  intro W base args ds gs before hval0 hW hcnd _
  have hval : ∀ (j : Nat) t v, Try.f3.params[j]? = some t → args[j]? = some v → Value.okWide Try.prog W .any base t v := hval0
  have hW' := hW
  obtain ⟨p, q, hA0, hV, rfl, hfz, hnd⟩ := hW
  have hA : DataW.TrodAll enc Try.prog W 0 (fun _ => true) true Try.f3.params.toList args.toList ds p := hA0
  rw [Try.params3] at hA hval
  obtain ⟨v0, vs0, d0, ds0, p0, q0, hargs, rfl, rfl, h0, r0⟩ := trodAll_cons hA
  obtain ⟨v1, vs1, d1, ds1, p1, q1, rfl, rfl, rfl, h1, r1⟩ := trodAll_cons r0
  obtain ⟨rfl, rfl, rfl⟩ := trodAll_nil r1
  obtain rfl : args = #[v0, v1] := by cases args; simp_all
  obtain ⟨rfl, rfl⟩ := trodVars_none hV
  obtain ⟨a0, rfl, rfl, rfl, w0⟩ := Go.ChangeMaps.open_string Try.underlying9 (hval 0 9 v0 rfl rfl) h0
  obtain ⟨a1, rfl, rfl, rfl, w1⟩ := open_int Try.underlying3 (hval 1 3 v1 rfl rfl) h1
  clear hA0 hval0
  simp only [List.append_nil] at hW'
  refine (walk a0 w0 a1 W).mono fun e W' ⟨he, bel⟩ => ?_
  subst he
  exact ⟨_, rfl, _, _, _, [], _, [], hW', trodAll_mk1 (shut_bool Try.underlying4 _), (trodAll_cons_mk (Go.ChangeMaps.shut_string Try.underlying9 w0) (trodAll_cons_mk (shut_int Try.underlying3 w1) trodAll_mk0)), rfl, bel.frame _, fun h => by cases h⟩
theorem over : Rows.GapAsksSaid :=
  OpenClaim.holds_of_wide 3 Try.f3 rfl rfl rfl rfl rfl rfl rfl ⟨rfl, rfl, rfl, rfl, rfl⟩ rfl rfl rfl rfl rfl (by kernel_rfl) Try.func3 (by kernel_rfl)
    (of_decide_eq_true (by kernel_rfl)) (by unfold Func.isWrapper; first | (rw [if_pos (by decide +kernel)]; kernel_rfl) | (rw [if_neg (by decide +kernel)]; exact ⟨rfl, rfl⟩))
    (fun os started H enc _ => lifted os started H enc)
/-- THE STATEMENT. -/
theorem proved : Rows.GapAsksSaid := over
#print axioms proved
end Go.Proofs.Ytlajngjbajabiaa.gapAsks
