/-
  What literals mean is what the document says (promises 4.1 to 4.4): for every text of at most 200 bytes and every place the program's Integer, Char, Escape, Quoted and Float answer as the document's own do, so the statement LitAsks returns true. The four tables (utf's three, lit's letters) are tied to the program's text by the given ties; no further condition.
-/
import Derived.Test.YtnejkdaiopjchaaDoorRefBroken
import Derived.Test.YtnejkdaiopjchaaDoorRefEsc
import Derived.Test.YtnejkdaiopjchaaDoorRefChar
import Derived.Test.YtnejkdaiopjchaaDoorRefQuo
import Derived.Test.YtnejkdaiopjchaaDoorLitPieces
import Derived.Test.YtnejkdaiopjchaaDoorLitLaid
import Derived.Test.YtnejkdaiopjchaaDoorCards
import Derived.Test.YtnejkdaiopjchaaDoorTie
namespace Go.Proofs.YtnejkdaiopjchaaDoor.litAsks
open Go.ChangeShapes Go.WideShapes Go.ChangeAt Go.RowKit Go.PlainAid

def EscL (s : ByteArray) (j v n : Int) : Prop := ∀ W, LTabs W → Calls Tryd.prog 13 #[.string s, .int .i64 j] W fun e w' => e = .returned (.tuple #[.int .i64 v, .int .i64 n]) ∧ Below W.heap.size W w'
theorem esc_both (s : ByteArray) (j : Int) (hs : s.size ≤ 1048576) : ∃ v n : Int, EscL s j v n ∧ EscR s j v n := by
  by_cases h : j < 0
  · exact ⟨-1, 0, fun W _ => escape_out s j W h, resc_neg s j h⟩
  · obtain ⟨k, rfl⟩ : ∃ k : Nat, j = k := ⟨j.toNat, by omega⟩
    exact ⟨_, _, fun W hT => escape_any s k (by unfold maxLen; omega) W hT, resc_any s k hs⟩
theorem quo_len (s : ByteArray) : ((quo s).getD []).length ≤ s.size := by
  unfold quo
  split
  · rename_i h
    obtain ⟨b1, -, -⟩ := btw_parts h.2
    cases hq : qi (s.extract 1 (s.size - 1)) (bt s 0) 0 with
    | none => simp
    | some L =>
      have hz : (s.extract 1 (s.size - 1)).size = s.size - 2 := by rw [size_ext _ _ _ (by omega)]; omega
      have := qi_len (t := s.extract 1 (s.size - 1)) (q := bt s 0) (s.extract 1 (s.size - 1)).size 0 (by omega) L hq
      simp only [Option.getD_some]
      omega
  · simp
set_option maxRecDepth 100000 in
set_option maxHeartbeats 4000000 in
theorem walk (a0 : ByteArray) (_w0 : a0.size ≤ maxLen) (a1 : Int) (w : World) (ht : LTabs w) :
    Calls Tryd.prog 3 #[.string a0, .int .i64 a1] w fun e w' => e = .returned (.bool true) ∧ Below w.heap.size w w' := by
  have HT := Lib.hid ht
  clear ht
  have H := Lib.hid (fun W hT => told4_any W hT)
  by_cases h2 : 200 < a0.size
  · have g : (200 : Int) < (a0.size : Int) := by omega
    clear h2
    go_enter Tryd.func3, Tryd.ntmps3
    go_wp2_with fail
    refine (H.out _ HT.out).mono ?_
    rintro e w1 ⟨rfl, hb1⟩
    have HB1 := Lib.hid hb1
    clear hb1
    go_wp2_with fail
    go_ret
    exact ⟨rfl, HB1.out⟩
  have g : ¬ (200 : Int) < (a0.size : Int) := by omega
  have hs : a0.size ≤ 1048576 := by omega
  have hm : a0.size ≤ maxLen := by unfold maxLen; omega
  have C1 := Lib.hid (fun W => integer_any a0 hm W)
  have C2 := Lib.hid (fun W => rInteger_any a0 hs W)
  have C3 := Lib.hid (fun W hT => char_any a0 hm W hT)
  have C4 := Lib.hid (rChar_any a0 hs (resc_any a0 1 hs))
  obtain ⟨X, I, c5, c6⟩ := esc_both a0 a1 hs
  have C5 := Lib.hid c5
  have C6 := Lib.hid c6
  have C7 := Lib.hid (fun W hT => quoted_any a0 hs W hT)
  have C8 := Lib.hid (fun W => rQuoted_any a0 hs (fun t k ht => resc_any t k ht) W)
  have C9 := Lib.hid (fun W => float_any a0 (by omega) W)
  have C10 := Lib.hid (fun W => rFloat_any a0 hs W)
  obtain ⟨A, hA⟩ : ∃ A, A = (igr a0).1 := ⟨_, rfl⟩
  obtain ⟨E, hE⟩ : ∃ E, E = (igr a0).2 := ⟨_, rfl⟩
  obtain ⟨C, hC⟩ : ∃ C, C = (chr a0).1 := ⟨_, rfl⟩
  obtain ⟨G, hG⟩ : ∃ G, G = (chr a0).2 := ⟨_, rfl⟩
  obtain ⟨O, hO⟩ : ∃ O, O = quo a0 := ⟨_, rfl⟩
  obtain ⟨F, hF⟩ : ∃ F, F = flt a0 := ⟨_, rfl⟩
  rw [← hA, ← hE] at C1 C2
  rw [← hC, ← hG] at C3 C4
  rw [← hO] at C7 C8
  rw [← hF] at C9 C10
  clear hA hE hC hG hF c5 c6 h2 hm
  have hlen : (O.getD []).length ≤ a0.size := by rw [hO]; exact quo_len a0
  obtain ⟨L, hL⟩ : ∃ L, L = O.getD [] := ⟨_, rfl⟩
  rw [← hL] at hlen
  obtain ⟨M, hM⟩ : ∃ M, M = qe O := ⟨_, rfl⟩
  have HL := Lib.hid hL
  have HM := Lib.hid hM
  clear hL hM hO
  have e1 : (A != A) = false := by simp
  have e2 : (E != E) = false := by simp
  have e3 : (C != C) = false := by simp
  have e4 : (G != G) = false := by simp
  have e5 : (X != X) = false := by simp
  have e6 : (I != I) = false := by simp
  have e7 : (M != M) = false := by simp
  have e8 : ((L.length : Int) != (L.length : Int)) = false := by simp
  go_enter Tryd.func3, Tryd.ntmps3
  go_wp2_with fail
  refine (C1.out _).mono ?_
  rintro e w1 ⟨rfl, hb1⟩
  have HB1 := Lib.hid hb1
  clear hb1
  go_wp2_with fail
  refine (C2.out _).mono ?_
  rintro e w' ⟨rfl, q2, rfl⟩
  obtain ⟨w2, hw2⟩ : ∃ w2, w2 = w1.drewN q2 := ⟨_, rfl⟩
  have HB2 : Hid (Below w.heap.size w w2) := by rw [hw2]; exact HB1.out.trans ((Below.ofDrewN _ _).mono HB1.out.size)
  rw [← hw2]
  clear hw2 HB1
  go_wp2_with fail
  refine (C3.out _ (HT.out.below HB2.out)).mono ?_
  rintro e w3 ⟨rfl, hb3⟩
  have HB3 : Hid (Below w.heap.size w w3) := HB2.out.trans (hb3.mono HB2.out.size)
  clear hb3
  go_wp2_with fail
  refine (C4.out _).mono ?_
  rintro e w4 ⟨rfl, hb4⟩
  have HB4 : Hid (Below w.heap.size w w4) := HB3.out.trans (hb4.mono HB3.out.size)
  clear hb4
  go_wp2_with fail
  refine (C5.out _ (HT.out.below HB4.out)).mono ?_
  rintro e w5 ⟨rfl, hb5⟩
  have HB5 : Hid (Below w.heap.size w w5) := HB4.out.trans (hb5.mono HB4.out.size)
  clear hb5
  go_wp2_with fail
  refine (C6.out _).mono ?_
  rintro e w6 ⟨rfl, hb6⟩
  have HB6 : Hid (Below w.heap.size w w6) := HB5.out.trans (hb6.mono HB5.out.size)
  clear hb6
  go_wp2_with fail
  refine (C7.out _ (HT.out.below HB6.out)).mono ?_
  rintro e w7 ⟨v7, he7, ho7, hb7⟩
  rw [← HM.out] at he7
  rw [← HL.out] at ho7
  obtain ⟨a7, cap7, hv7, hread7⟩ := own_read ho7
  have HB7 : Hid (Below w.heap.size w w7) := HB6.out.trans (hb7.mono HB6.out.size)
  have HR7 := Lib.hid hread7
  clear hread7 ho7 hb7
  subst hv7
  subst he7
  go_wp2_with fail
  refine (C8.out _).mono ?_
  rintro e w8 ⟨v8, he8, ho8, hb8⟩
  rw [← HM.out] at he8
  rw [← HL.out] at ho8
  obtain ⟨a8, cap8, hv8, hread8⟩ := own_read ho8
  have HB8 : Hid (Below w.heap.size w w8) := HB7.out.trans (hb8.mono HB7.out.size)
  have HR78 : Hid (0 < L.length → ∃ g, a7 = some ⟨g, 0, none⟩ ∧ g < w8.heap.size ∧ ∀ j, j < L.length → w8.cell? ⟨g, j, none⟩ = some (.int .i64 (L.getD j 0))) := fun h => by
    obtain ⟨g, h1, h2, h3⟩ := HR7.out h
    exact ⟨g, h1, Nat.lt_of_lt_of_le h2 hb8.size, fun j hj => (hb8.cell (p := ⟨g, j, none⟩) h2).trans (h3 j hj)⟩
  have HR8 := Lib.hid hread8
  clear hread8 ho8 hb8 HR7
  subst hv8
  subst he8
  go_wp2_with fail
  refine (C9.out _).mono ?_
  rintro e w9 ⟨rfl, hb9⟩
  have HB9 : Hid (Below w.heap.size w w9) := HB8.out.trans (hb9.mono HB8.out.size)
  have HR1 : Hid (0 < L.length → ∃ g, a7 = some ⟨g, 0, none⟩ ∧ ∀ j, j < L.length → w9.cell? ⟨g, j, none⟩ = some (.int .i64 (L.getD j 0))) := fun h => by
    obtain ⟨g, h1, h2, h3⟩ := HR78.out h
    exact ⟨g, h1, fun j hj => (hb9.cell (p := ⟨g, j, none⟩) h2).trans (h3 j hj)⟩
  have HR2 : Hid (0 < L.length → ∃ g, a8 = some ⟨g, 0, none⟩ ∧ ∀ j, j < L.length → w9.cell? ⟨g, j, none⟩ = some (.int .i64 (L.getD j 0))) := fun h => by
    obtain ⟨g, h1, h2, h3⟩ := HR8.out h
    exact ⟨g, h1, fun j hj => (hb9.cell (p := ⟨g, j, none⟩) h2).trans (h3 j hj)⟩
  clear hb9 HR78 HR8
  go_wp2_with fail
  refine (C10.out _).mono ?_
  rintro e w' ⟨rfl, q10, rfl⟩
  cases F
  all_goals
    go_wp2_with fail
    go_loopg [21] L.length (fun gn i wr => ∃ j : Nat, gn = L.length - j ∧ j ≤ L.length ∧ i = .int .i64 j ∧ Hid (∃ m, wr = w9.drewN m))
    case atStart => exact ⟨0, rfl, Nat.zero_le _, rfl, ⟨_, rfl⟩⟩
    case round =>
      obtain ⟨j, hgj, hj, rfl, HW⟩ := hrel
      obtain ⟨m0, rfl⟩ := HW.out
      by_cases hjl : j < L.length
      · obtain ⟨g1, rfl, hc1⟩ := HR1.out (by omega)
        obtain ⟨g2, rfl, hc2⟩ := HR2.out (by omega)
        have q1 := hc1 j hjl
        have q2 := hc2 j hjl
        obtain ⟨x, hx⟩ : ∃ x, x = L.getD j 0 := ⟨_, rfl⟩
        rw [← hx] at q1 q2
        have b0 : (j : Int) < (L.length : Int) := by omega
        have bx : (x != x) = false := by simp
        clear hx hc1 hc2
        go_wp2_with fail
        go_quiet (fail)
        go_wp2_with fail
        go_roundg (L.length - (j + 1))
        case measure => omega
        case rel => exact ⟨j + 1, rfl, by omega, by go_num, Lib.hid ⟨_, rfl⟩⟩
      · obtain rfl : j = L.length := by omega
        go_wp2_with fail
        refine (H.out _ ((HT.out.below HB9.out).drewN m0)).mono ?_
        rintro e w3 ⟨rfl, hb3⟩
        have HB3 : Hid (Below w.heap.size w w3) := HB9.out.trans (((Below.ofDrewN w9 _).trans hb3).mono HB9.out.size)
        clear hb3
        go_wp2_with fail
        go_ret
        exact ⟨rfl, HB3.out⟩
set_option maxRecDepth 100000 in
theorem lifted (os : Os) (started : os.Started) (H : Type) (enc : TypeId × Value → H) :
    ReturnsInHanded {} Tryd.checked os 3 .any (fun w args => (Rows.litAsksSpec.pre enc Tryd.prog Tryd.f3 [] false w args ∧ laidMetH Tryd.prog litLaid w) ∧ sizedMet enc Tryd.prog Tryd.f3 (OpenSpec.ofChange Rows.litAsksSpec) false w args)
      (Rows.litAsksSpec.post enc Tryd.prog Tryd.f3 false true false false) := by
  refine returnsInHanded_of_change_and (C := Tryd.checked) (X := fun w _ => laidMetH Tryd.prog litLaid w) (fun _ _ _ hh h => h.of_heap hh) own4 started (by kernel_rfl) Tryd.func3
    (ChangeSpec.witness_shaped (enc := enc) (C := Tryd.checked) (os := os) (X := fun w _ => laidMetH Tryd.prog litLaid w) false (World.doorLaid Tryd.prog 400 os) #[.string ByteArray.empty, .int .i64 0] 8 rfl (World.shaped_of_RefB (by kernel_rfl) (by kernel_rfl)) (by kernel_rfl) (by kernel_rfl) (by kernel_rfl) (door_met4 os _)) ?_
  intro W base args ds gs before hval0 hW _ _ hL _
  have hval : ∀ (j : Nat) t v, Tryd.f3.params[j]? = some t → args[j]? = some v → Value.okWide Tryd.prog W .any base t v := hval0
  have hW' := hW
  obtain ⟨p, q, hA0, hV, rfl, hfz, hnd⟩ := hW
  have hA : DataW.TrodAll enc Tryd.prog W 0 (fun _ => true) true Tryd.f3.params.toList args.toList ds p := hA0
  rw [Tryd.params3] at hA hval
  obtain ⟨v0, vs0, d0, ds0, p0, q0, hargs, rfl, rfl, h0, r0⟩ := trodAll_cons hA
  obtain ⟨v1, vs1, d1, ds1, p1, q1, rfl, rfl, rfl, h1, r1⟩ := trodAll_cons r0
  obtain ⟨rfl, rfl, rfl⟩ := trodAll_nil r1
  obtain rfl : args = #[v0, v1] := by cases args; simp_all
  obtain ⟨rfl, rfl⟩ := trodVars_none hV
  obtain ⟨a0, rfl, rfl, rfl, w0⟩ := Go.ChangeMaps.open_string Tryd.underlying9 (hval 0 9 v0 rfl rfl) h0
  obtain ⟨a1, rfl, rfl, rfl, w1⟩ := open_int Tryd.underlying3 (hval 1 3 v1 rfl rfl) h1
  clear hA0 hval0
  simp only [List.append_nil] at hW'
  refine (walk a0 w0 a1 W (ltabs_of_laid hL)).mono fun e W' ⟨he, bel⟩ => ?_
  subst he
  exact ⟨_, rfl, _, _, _, [], _, [], hW', trodAll_mk1 (shut_bool Tryd.underlying4 _), (trodAll_cons_mk (Go.ChangeMaps.shut_string Tryd.underlying9 w0) (trodAll_cons_mk (shut_int Tryd.underlying3 w1) trodAll_mk0)), rfl, bel.frame _, fun h => by cases h⟩
theorem over : Rows.LitAsksSaid :=
  OpenClaim.holds_of_wide 3 Tryd.f3 rfl rfl rfl rfl rfl rfl rfl ⟨rfl, rfl, rfl, rfl, rfl⟩ rfl rfl rfl rfl rfl (by kernel_rfl) Tryd.func3 (by kernel_rfl)
    (of_decide_eq_true (by kernel_rfl)) (by unfold Func.isWrapper; first | (rw [if_pos (by decide +kernel)]; kernel_rfl) | (rw [if_neg (by decide +kernel)]; exact ⟨rfl, rfl⟩))
    (fun os started H enc _ => lifted os started H enc)
/-- THE TIED CARD. -/
theorem proved : Rows.LitAsksCardSaid :=
  Claim7.holds_tied_plain_at .later [] [.data, .data, .data, .data] true Rows.litAsksCard.stood.harness false
    over (fun _ h => by cases h) (by kernel_rfl) (fun _ h => by cases h) litAsks_row_tie rfl ⟨rfl, rfl⟩ (by kernel_rfl) rfl
    (fun f fn hf hfn => by
      obtain rfl : f = 3 := Option.some.inj ((show Tryd.prog.funcNamed "galley/galleylaw4.LitAsks" = some 3 by kernel_rfl).symm.trans hf) |>.symm
      obtain rfl : fn = Tryd.f3 := (Option.some.inj (Tryd.func3.symm.trans hfn)).symm
      exact ⟨by kernel_rfl, fun j t ht => by
        rw [Tryd.params3] at ht
        have hm : t ∈ [9, 3] := by
          have := Array.mem_of_getElem? ht
          simpa using this
        have hall : ([9, 3].all fun u => !Tryd.prog.wantsStandIn u) = true := by kernel_rfl
        exact (show Tryd.prog.wantsStandIn t = false by simpa using List.all_eq_true.1 hall t hm)⟩)
    (by kernel_rfl)
#print axioms proved
end Go.Proofs.YtnejkdaiopjchaaDoor.litAsks
