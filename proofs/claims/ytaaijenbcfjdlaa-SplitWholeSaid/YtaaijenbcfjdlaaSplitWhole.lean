/-
  Each token is in one item, in their order; a form has one end at most, its last token; a note is one comment (promise 8.2): for every text the statement SplitWhole returns true. No condition.
-/
import Derived.Test.YtaaijenbcfjdlaaBase
import Derived.Test.YtaaijenbcfjdlaaSplitTold
namespace Go.Proofs.Ytaaijenbcfjdlaa.splitWhole
open Go.ChangeShapes Go.WideShapes Go.ChangeAt Go.RowKit Go.PlainAid

/-- What an item is, of the tokens. -/
theorem item_at {s : ByteArray} {L : List Tk3} {j : Nat} {y : It} (hy : (sp s L 0)[j]? = some y) :
    ∃ x, L[y.1]? = some x ∧ y.1 < y.2.1 ∧ y.2.1 ≤ L.length ∧ ((y.2.2.1 = true ∧ x.1 = 11 ∧ y.2.1 = y.1 + 1) ∨
      (y.2.2.1 = false ∧ x.1 ≠ 11 ∧ (∀ (k : Nat) (z : Tk3), y.1 ≤ k → k + 1 < y.2.1 → L[k]? = some z → z.1 ≠ 10) ∧ ∀ z : Tk3, L[y.2.1 - 1]? = some z → z.1 ≠ 11)) := by
  obtain ⟨⟨x, h1, h2⟩, -, h3, -, h5, h6, -⟩ := sp_each s L _ 0 (Nat.le_refl _) j y hy
  have hp := itn_pos (L.drop y.1)
  refine ⟨x, h1, by omega, h6, ?_⟩
  rw [drop_cons h1] at h3
  by_cases h : x.1 = 11
  · rw [itn_note h] at h3
    exact .inl ⟨by rw [h2, h]; rfl, h, h3⟩
  · rw [itn_form h] at h3
    obtain ⟨f1, f2, f3, f4⟩ := fe_first (t := L.drop (y.1 + 1)) h
    rw [← drop_cons h1] at f1 f2 f3 f4 h3
    refine .inr ⟨by rw [h2]; exact beq_false_of_ne h, h, fun k z k1 k2 kz => ?_, fun z hz => ?_⟩
    · exact f3 (k - y.1) z (by omega) (by rw [List.getElem?_drop, show y.1 + (k - y.1) = k by omega]; exact kz)
    · exact f4 z (by rw [List.getElem?_drop, show y.1 + (fe (L.drop y.1) 0 1 - 1) = y.2.1 - 1 by omega]; exact hz)
/-- Where item j begins. -/
theorem starts {s : ByteArray} {L : List Tk3} (j at_ : Nat) (_ : (∀ y, (sp s L 0)[j]? = some y → y.1 = at_) ∧ ((sp s L 0)[j]? = none → at_ = L.length)) {y : It} (hy : (sp s L 0)[j]? = some y) :
    (∀ z, (sp s L 0)[j + 1]? = some z → z.1 = y.2.1) ∧ ((sp s L 0)[j + 1]? = none → y.2.1 = L.length) := by
  obtain ⟨-, -, -, -, -, -, -, h8, h9⟩ := sp_each s L _ 0 (Nat.le_refl _) j y hy
  exact ⟨h8, h9⟩
theorem starts0 (s : ByteArray) (L : List Tk3) : (∀ y, (sp s L 0)[0]? = some y → y.1 = 0) ∧ ((sp s L 0)[0]? = none → 0 = L.length) := by
  refine ⟨fun y hy => (sp_each s L _ 0 (Nat.le_refl _) 0 y hy).2.2.2.2.2.2.1 rfl, fun h => ?_⟩
  by_cases h0 : 0 < L.length
  · obtain ⟨x, hx⟩ : ∃ x, L[0]? = some x := ⟨_, List.getElem?_eq_getElem h0⟩
    rw [sp_go hx] at h; simp at h
  · omega
set_option maxRecDepth 100000 in
set_option maxHeartbeats 4000000 in
theorem walk (s : ByteArray) (_ : s.size ≤ maxLen) (w : World) :
    Calls Try.prog 4 #[.string s] w fun e w' => e = .returned (.bool true) ∧ Below w.heap.size w w' := by
  by_cases g1 : (1000 : Int) < (s.size : Int)
  · go_enter Try.func4, Try.ntmps4
    go_wp2_with fail
    refine (told8_any _).mono ?_
    rintro e w1 ⟨rfl, hb1⟩
    have B1 := Lib.hid hb1
    clear hb1
    go_wp2_with fail
    go_ret
    exact ⟨rfl, B1.out⟩
  have hs : s.size ≤ 1000 := by omega
  obtain ⟨L, c, hR⟩ : ∃ L c, scanR s = (L, c) := ⟨_, _, rfl⟩
  have HSC := Lib.hid (fun W => rscan_is s L c hR (by omega) W)
  by_cases hc : c = 0
  · subst hc
    obtain ⟨-, -, hsc⟩ := scan_good hR
    have hl : L.length ≤ s.size := by
      have h : (scanR s).1.length ≤ s.size := scan_len s
      rw [hR] at h; exact h
    have hil := sp_len s L _ 0 (Nat.le_refl _)
    have HP := Lib.hid (fun v W h => split_any8 hsc (by omega) (by omega) v W h)
    have HIA := Lib.hid (fun j y (hy : (sp s L 0)[j]? = some y) => item_at hy)
    have HST := Lib.hid (fun j at_ h y (hy : (sp s L 0)[j]? = some y) => starts j at_ h hy)
    have HS0 := Lib.hid (starts0 s L)
    obtain ⟨I, hI⟩ : ∃ I, I = sp s L 0 := ⟨_, rfl⟩
    rw [← hI] at HP hil HIA HST HS0
    clear hsc hR hI
    go_enter Try.func4, Try.ntmps4
    go_wp2_with fail
    refine (HSC.out _).mono ?_
    rintro e w1 ⟨v, rfl, ha1, hb1⟩
    have A1 := Lib.hid (trow_of ha1)
    have B1 := Lib.hid hb1
    clear hb1 ha1 HSC
    obtain ⟨al, cl, rfl, hrl⟩ := A1.out
    have hrl2 : 0 < L.length → ∃ g o, al = some ⟨g, o, none⟩ ∧ g < w1.heap.size ∧ ∀ (i : Nat) (x : Tk3), L[i]? = some x → w1.cell? ⟨g, o + i * 3, none⟩ = some (.int .i64 x.1) := fun h0 => by
      obtain ⟨g, o, h1, h2, h3⟩ := hrl (by rw [toks_len]; exact h0)
      exact ⟨g, o, h1, h2, fun i x hx => (h3 i _ (toks_at hx)).1⟩
    have HRL := Lib.hid hrl2
    rw [toks_len] at A1 ⊢
    clear hrl hrl2
    go_wp2_with fail
    refine (HP.out _ _ A1.out).mono ?_
    rintro e w2 ⟨va, rfl, hi2⟩
    have B2 := Lib.hid hi2.2
    have IA := itAt_of hi2
    obtain ⟨aa, ca, rfl, hra⟩ := IA
    have HRA := Lib.hid hra
    obtain ⟨M, hM⟩ : ∃ M, M = I.length := ⟨_, rfl⟩
    rw [← hM] at hil HRA ⊢
    have HM := Lib.hid hM
    obtain ⟨N, hN⟩ : ∃ N, N = L.length := ⟨_, rfl⟩
    rw [← hN] at hil hl HRL HIA HST HS0 A1 ⊢
    have HN := Lib.hid hN
    clear hra hM hi2 hN HP
    go_wp2_with fail
    go_loopg [5, 7] M (fun gn q i wr => ∃ (j at_ : Nat), gn = M - j ∧ j ≤ M ∧ i = .int .i64 (j : Int) ∧ q = .int .i64 (at_ : Int) ∧ at_ ≤ N ∧ Hid ((∀ y, I[j]? = some y → y.1 = at_) ∧ (I[j]? = none → at_ = N)) ∧ Hid (∃ n, wr = w2.drewN n))
    case atStart => exact ⟨0, 0, rfl, Nat.zero_le _, rfl, rfl, Nat.zero_le _, HS0, Lib.hid ⟨0, rfl⟩⟩
    case round =>
      obtain ⟨j, at_, hgn, hj, rfl, rfl, hat, HA, HW⟩ := hrel
      obtain ⟨n0, rfl⟩ := HW.out
      by_cases hlt : j < M
      · obtain ⟨y, hy⟩ : ∃ y, I[j]? = some y := ⟨_, List.getElem?_eq_getElem (by rw [← HM.out]; exact hlt)⟩
        obtain ⟨ga, rfl, hga, hca⟩ := HRA.out (by omega)
        obtain ⟨c0, c1, c2, -⟩ := hca j y hy
        obtain ⟨x, hx, hft, htn, hcase⟩ := HIA.out j y hy
        have hya := HA.out.1 y hy
        have HNX := Lib.hid (HST.out j at_ HA.out y hy)
        obtain ⟨F, T, nt, bk⟩ := y
        simp only at c0 c1 c2 hx hft htn hcase hya HNX
        subst hya
        obtain ⟨g, o, rfl, hg, hcl⟩ := HRL.out (by omega)
        have B2c := fun (i : Nat) (x : Tk3) (hx : L[i]? = some x) => (B2.out.cell (p := ⟨g, o + i * 3, none⟩) hg).trans (hcl i x hx)
        have HCL := Lib.hid B2c
        have cx := B2c F x hx
        obtain ⟨K, xa, xe⟩ := x
        simp only at cx hcase
        have jm : (j : Int) < (M : Int) := by omega
        have fn : (F : Int) < (N : Int) := by omega
        have z1 : ((F : Int) != (F : Int)) = false := by simp
        obtain ⟨T1, rfl⟩ : ∃ T1, T = T1 + 1 := ⟨T - 1, by omega⟩
        rw [show ((T1 + 1 : Nat) : Int) = (T1 : Int) + 1 by omega] at c1
        have z2 : decide ((T1 : Int) + 1 ≤ (F : Int)) = false := decide_eq_false (by omega)
        have z3 : decide ((N : Int) < (T1 : Int) + 1) = false := decide_eq_false (by omega)
        have z2' : ¬ (T1 : Int) + 1 ≤ (F : Int) := by omega
        have z3' : (T1 : Int) + 1 ≤ (N : Int) := by omega
        have tn : (T1 : Int) < (N : Int) := by omega
        clear hca hy hx hcl B2c
        rcases hcase with ⟨rfl, rfl, hT⟩ | ⟨rfl, hK, hdots, hlast⟩
        · obtain rfl : T1 = F := by omega
          have z4 : ((T1 : Int) + 1 != (T1 : Int) + 1) = false := by simp
          go_wp2_with fail
          go_loopg [8] 0 (fun gn k wr => gn = 0 ∧ k = .int .i64 (T1 : Int) ∧ Hid (∃ n, wr = w2.drewN n))
          case atStart => exact ⟨rfl, rfl, Lib.hid ⟨_, rfl⟩⟩
          case round =>
            obtain ⟨hgn2, rfl, HW2⟩ := hrel
            obtain ⟨n2, rfl⟩ := HW2.out
            have hst : Hid ((∀ y, I[j + 1]? = some y → y.1 = T1 + 1) ∧ (I[j + 1]? = none → T1 + 1 = N)) := HNX
            go_wp2_with fail
            go_roundg (M - (j + 1))
            case measure => omega
            case rel => exact ⟨j + 1, T1 + 1, rfl, hlt, by go_num, by go_num, by omega, hst, Lib.hid ⟨_, rfl⟩⟩
        · have hK2 : (K == 11) = false := beq_false_of_ne hK
          have hK3 : (K != 11) = true := by simpa using hK
          have HD := Lib.hid hdots
          have HLA := Lib.hid hlast
          clear hdots hlast hK
          go_wp2_with fail
          go_loopg [8] (T1 - F) (fun gn k wr => ∃ q : Nat, gn = T1 - q ∧ F ≤ q ∧ q ≤ T1 ∧ k = .int .i64 (q : Int) ∧ Hid (∃ n, wr = w2.drewN n))
          case atStart => exact ⟨F, rfl, Nat.le_refl _, by omega, rfl, Lib.hid ⟨_, rfl⟩⟩
          case round =>
            obtain ⟨q, hgn2, hFq, hqT, rfl, HW2⟩ := hrel
            obtain ⟨n2, rfl⟩ := HW2.out
            by_cases hlt3 : q < T1
            · obtain ⟨u, hu⟩ : ∃ u, L[q]? = some u := ⟨_, List.getElem?_eq_getElem (by rw [← HN.out]; omega)⟩
              have hu10 := HD.out q u hFq (by omega) hu
              have cu := HCL.out q u hu
              obtain ⟨K2, ua, ue⟩ := u
              simp only at cu hu10
              have hk10 : (K2 == 10) = false := beq_false_of_ne hu10
              have qT : (q : Int) < (T1 : Int) := by omega
              have qN : (q : Int) < (N : Int) := by omega
              clear hu hu10
              go_wp2_with fail
              go_roundg (T1 - (q + 1))
              case measure => omega
              case rel => exact ⟨q + 1, rfl, by omega, hlt3, by go_num, Lib.hid ⟨_, rfl⟩⟩
            · obtain rfl : q = T1 := by omega
              obtain ⟨u, hu⟩ : ∃ u, L[q]? = some u := ⟨_, List.getElem?_eq_getElem (by rw [← HN.out]; omega)⟩
              have hu11 := HLA.out u (by rw [Nat.add_sub_cancel]; exact hu)
              have cu := HCL.out q u hu
              obtain ⟨K2, ua, ue⟩ := u
              simp only at cu hu11
              have hk11 : (K2 == 11) = false := beq_false_of_ne hu11
              clear hu hu11
              have hst : Hid ((∀ y, I[j + 1]? = some y → y.1 = q + 1) ∧ (I[j + 1]? = none → q + 1 = N)) := HNX
              go_wp2_with fail
              go_roundg (M - (j + 1))
              case measure => omega
              case rel => exact ⟨j + 1, q + 1, rfl, hlt, by go_num, by go_num, by omega, hst, Lib.hid ⟨_, rfl⟩⟩
      · obtain rfl : j = M := by omega
        have hFN : at_ = N := HA.out.2 (by rw [List.getElem?_eq_none_iff, ← HM.out]; exact Nat.le_refl _)
        subst hFN
        have B3 : Hid (Below w.heap.size w (w2.drewN n0)) := Lib.hid (B1.out.trans ((B2.out.trans ((drew_below _ _).mono B2.out.size)).mono B1.out.size))
        go_wp2_with fail
        refine (told8_any _).mono ?_
        rintro e w5 ⟨rfl, hb5⟩
        have B5 : Hid (Below w.heap.size w w5) := Lib.hid (B3.out.trans (hb5.mono B3.out.size))
        clear hb5
        go_wp2_with fail
        go_ret
        exact ⟨rfl, B5.out⟩
  · clear hR
    go_enter Try.func4, Try.ntmps4
    go_wp2_with fail
    refine (HSC.out _).mono ?_
    rintro e w1 ⟨v1, rfl, ha1, hb1⟩
    have B1 := Lib.hid hb1
    clear hb1 ha1
    have hcn : (c != 0) = true := by simpa using hc
    go_wp2_with fail
    refine (told8_any _).mono ?_
    rintro e w2 ⟨rfl, hb2⟩
    have B2 : Hid (Below w.heap.size w w2) := Lib.hid (B1.out.trans (hb2.mono B1.out.size))
    clear hb2
    go_wp2_with fail
    go_ret
    exact ⟨rfl, B2.out⟩
set_option maxRecDepth 100000 in
theorem lifted (os : Os) (started : os.Started) (H : Type) (enc : TypeId × Value → H) :
    ReturnsInHanded {} Try.checked os 4 .any (Rows.splitWholeSpec.pre6 enc Try.prog Try.f4 Rows.splitWholeRow.domain false) (Rows.splitWholeSpec.post enc Try.prog Try.f4 false true false false) := by
  refine returnsInHanded_of_change (C := Try.checked) ownKnobNone started (by kernel_rfl) Try.func4
    (ChangeSpec.witness6 (enc := enc) (C := Try.checked) false ⟨#[], #[.string ByteArray.empty], []⟩ 8 (by kernel_rfl) (by kernel_rfl) (by kernel_rfl) (by kernel_rfl)) ?_
  intro W base args ds gs before hval0 hW hcnd _
  have hval : ∀ (j : Nat) t v, Try.f4.params[j]? = some t → args[j]? = some v → Value.okWide Try.prog W .any base t v := hval0
  have hW' := hW
  obtain ⟨p, q, hA0, hV, rfl, hfz, hnd⟩ := hW
  have hA : DataW.TrodAll enc Try.prog W 0 (fun _ => true) true Try.f4.params.toList args.toList ds p := hA0
  rw [Try.params4] at hA hval
  obtain ⟨v0, vs0, d0, ds0, p0, q0, hargs, rfl, rfl, h0, r0⟩ := trodAll_cons hA
  obtain ⟨rfl, rfl, rfl⟩ := trodAll_nil r0
  obtain rfl : args = #[v0] := by cases args; simp_all
  obtain ⟨rfl, rfl⟩ := trodVars_none hV
  obtain ⟨a0, rfl, rfl, rfl, w0⟩ := Go.ChangeMaps.open_string Try.underlying9 (hval 0 9 v0 rfl rfl) h0
  clear hA0 hval0
  simp only [List.append_nil] at hW'
  refine (walk a0 w0 W).mono fun e W' ⟨he, bel⟩ => ?_
  subst he
  exact ⟨_, rfl, _, _, _, [], _, [], hW', trodAll_mk1 (shut_bool Try.underlying4 _), (trodAll_cons_mk (Go.ChangeMaps.shut_string Try.underlying9 w0) trodAll_mk0), rfl, bel.frame _, fun h => by cases h⟩
theorem over : Rows.SplitWholeSaid :=
  OpenClaim.holds_of_wide 4 Try.f4 rfl rfl rfl rfl rfl rfl rfl ⟨rfl, rfl, rfl, rfl, rfl⟩ rfl rfl rfl rfl rfl (by kernel_rfl) Try.func4 (by kernel_rfl)
    (of_decide_eq_true (by kernel_rfl)) (by unfold Func.isWrapper; first | (rw [if_pos (by decide +kernel)]; kernel_rfl) | (rw [if_neg (by decide +kernel)]; exact ⟨rfl, rfl⟩))
    (fun os started H enc _ => lifted os started H enc)
/-- THE STATEMENT. -/
theorem proved : Rows.SplitWholeSaid := over
#print axioms proved
end Go.Proofs.Ytaaijenbcfjdlaa.splitWhole
