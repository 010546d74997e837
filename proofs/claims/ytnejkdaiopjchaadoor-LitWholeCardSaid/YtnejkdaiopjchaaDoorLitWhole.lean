/-
  A number's digits in any base are read as that number, with _ between or not, in either case (promise 4.1): for every number of 64 bits, every base and every choice of _ and case the statement LitWhole returns true. The four tables (utf's three, lit's letters) are tied to the program's text by the given ties; no further condition.
-/
import Derived.Test.YtnejkdaiopjchaaDoorLitWholes
import Derived.Test.YtnejkdaiopjchaaDoorLitLaid
import Derived.Test.YtnejkdaiopjchaaDoorCards
import Derived.Test.YtnejkdaiopjchaaDoorTie
namespace Go.Proofs.YtnejkdaiopjchaaDoor.litWhole
open Go.ChangeShapes Go.WideShapes Go.ChangeAt Go.RowKit Go.PlainAid

theorem u64_fits {a : Int} (h : (Lit.int .u64 a).wf = true) : 0 ≤ a ∧ a ≤ 18446744073709551615 := by
  have e0 : IntKind.u64.min = 0 := by decide
  have e1 : IntKind.u64.max = 18446744073709551615 := by decide
  simp only [Lit.wf, Bool.and_eq_true, decide_eq_true_eq, e0, e1] at h
  exact h
def lowT : ByteArray := { data := #[48, 49, 50, 51, 52, 53, 54, 55, 56, 57, 97, 98, 99, 100, 101, 102, 103, 104, 105, 106, 107, 108, 109, 110, 111, 112, 113, 114, 115, 116, 117, 118, 119, 120, 121, 122] }
def uppT : ByteArray := { data := #[48, 49, 50, 51, 52, 53, 54, 55, 56, 57, 65, 66, 67, 68, 69, 70, 71, 72, 73, 74, 75, 76, 77, 78, 79, 80, 81, 82, 83, 84, 85, 86, 87, 88, 89, 90] }
/-- A table of digits. -/
def TabT (D : ByteArray) : Prop := D.size = 36 ∧ ∀ d, d < 36 → dg (bt D d) = (d : Int)
theorem lowT_is : TabT lowT := by
  have h : ∀ d : Fin 36, dg (bt lowT d.val) = (d.val : Int) := by decide +kernel
  exact ⟨rfl, fun d hd => h ⟨d, hd⟩⟩
theorem uppT_is : TabT uppT := by
  have h : ∀ d : Fin 36, dg (bt uppT d.val) = (d.val : Int) := by decide +kernel
  exact ⟨rfl, fun d hd => h ⟨d, hd⟩⟩
/-- What may stand behind a digit: k digits that mean V. -/
structure Suf (b : Nat) (l : List UInt8) (k V : Nat) : Prop where
  form : fmL b true l = true
  els : Els b l
  val : ∀ v, vnL b v l = v * b ^ k + V
theorem Suf.digit {b : Nat} {l : List UInt8} {k V d : Nat} {x : UInt8} (h : Suf b l k V) (hx : dg (x.toNat : Int) = (d : Int)) (hd : d < b) (hb : b ≤ 36) : (∀ p, fmL b p (x :: l) = true) ∧ Suf b (x :: l) (k + 1) (d * b ^ k + V) := by
  have hn : ¬ (x.toNat : Int) = 95 := fun h' => by
    rw [h', dg_under] at hx
    omega
  have hlt : dg (x.toNat : Int) < (b : Int) := by omega
  have hf : ∀ p, fmL b p (x :: l) = true := fun p => by
    simp only [fmL, if_neg (fun h' : (x.toNat : Int) = 95 ∧ p = true => hn h'.1), if_pos hlt]
    exact h.form
  refine ⟨hf, hf true, fun y hy => ?_, fun v => ?_⟩
  · rcases List.mem_cons.1 hy with rfl | hy
    · exact .inr hlt
    · exact h.els y hy
  · simp only [vnL, if_neg hn, hx, Int.toNat_natCast]
    rw [h.val, Nat.add_mul, Nat.pow_succ, Nat.mul_assoc, Nat.mul_comm b (b ^ k), Nat.add_assoc]
theorem Suf.under {b : Nat} {l : List UInt8} {k V : Nat} (hf : ∀ p, fmL b p l = true) (h : Suf b l k V) : Suf b (95 :: l) k V := by
  refine ⟨?_, fun y hy => ?_, fun v => ?_⟩
  · simp only [fmL]
    rw [if_pos ⟨rfl, trivial⟩]
    exact hf false
  · rcases List.mem_cons.1 hy with rfl | hy
    · exact .inl rfl
    · exact h.els y hy
  · simp only [vnL]
    rw [if_pos (show (((95 : UInt8).toNat : Nat) : Int) = 95 from rfl)]
    exact h.val v
theorem pow_64 {b k : Nat} (h2 : 2 ≤ b) (h : b ^ k < 18446744073709551616) : k < 64 := by
  apply Classical.byContradiction
  intro hk
  have h1 : 2 ^ 64 ≤ 2 ^ k := Nat.pow_le_pow_right (by omega) (by omega)
  have h3 : 2 ^ k ≤ b ^ k := Nat.pow_le_pow_left h2 k
  have : (2 : Nat) ^ 64 = 18446744073709551616 := by decide
  omega
set_option maxRecDepth 100000 in
set_option maxHeartbeats 4000000 in
theorem walk (a : Int) (ha : 0 ≤ a ∧ a ≤ 18446744073709551615) (bs us : Int) (up : Bool) (w : World) (ht : LTabs w) :
    Calls Tryd.prog 4 #[.int .u64 a, .int .i64 bs, .int .i64 us, .bool up] w fun e w' => e = .returned (.bool true) ∧ Below w.heap.size w w' := by
  have HT := Lib.hid ht
  clear ht
  have H := Lib.hid (fun W hT => told4_any W hT)
  obtain ⟨n0, rfl⟩ : ∃ n0 : Nat, a = (n0 : Int) := ⟨a.toNat, by omega⟩
  have hn0 : n0 < 18446744073709551616 := by omega
  obtain ⟨b, h2, h36, er⟩ : ∃ b : Nat, 2 ≤ b ∧ b ≤ 36 ∧ 2 + (IntKind.u64.wrap bs).tmod 35 = (b : Int) := by
    have := IntKind.wrap_u64 bs
    have h0 := Int.tmod_nonneg (a := IntKind.u64.wrap bs) 35 (by omega)
    have h1 := Int.tmod_lt_of_pos (IntKind.u64.wrap bs) (b := 35) (by omega)
    exact ⟨(2 + (IntKind.u64.wrap bs).tmod 35).toNat, by omega, by omega, by omega⟩
  have er2 : (IntKind.u64.wrap bs).tmod 35 = (b : Int) - 2 := by omega
  have HWh := Lib.hid (fun S hS W => whole_any S b n0 h2 h36 hn0 hS W)
  have er3 : 2 + ((b : Int) - 2) = (b : Int) := by omega
  clear er
  have hup : ∃ D : ByteArray, TabT D ∧ ((up = false ∧ D = { data := #[48, 49, 50, 51, 52, 53, 54, 55, 56, 57, 97, 98, 99, 100, 101, 102, 103, 104, 105, 106, 107, 108, 109, 110, 111, 112, 113, 114, 115, 116, 117, 118, 119, 120, 121, 122] }) ∨ (up = true ∧ D = { data := #[48, 49, 50, 51, 52, 53, 54, 55, 56, 57, 65, 66, 67, 68, 69, 70, 71, 72, 73, 74, 75, 76, 77, 78, 79, 80, 81, 82, 83, 84, 85, 86, 87, 88, 89, 90] })) := by
    cases up
    · exact ⟨lowT, lowT_is, .inl ⟨rfl, rfl⟩⟩
    · exact ⟨uppT, uppT_is, .inr ⟨rfl, rfl⟩⟩
  obtain ⟨D, hTab, ⟨rfl, hD⟩ | ⟨rfl, hD⟩⟩ := hup
  all_goals
    have HD := Lib.hid hTab
    have hDz := hTab.1
    clear hTab
    go_enter Tryd.func4, Tryd.ntmps4
    go_wp2_with fail
    rw [← hD]
    clear hD er2
    go_loopg [0, 11, 12] 64 (fun gn v x i wr => ∃ (k N V : Nat) (S : ByteArray), gn = 64 - k ∧ k < 64 ∧ N < 18446744073709551616 ∧ v = .int .u64 N ∧ x = .string S ∧ i = .int .i64 k ∧ S.size ≤ 2 * k ∧ Hid (∃ m, wr = w.drewN m) ∧ Hid (n0 = N * b ^ k + V) ∧ Hid (Suf b S.data.toList k V))
    case atStart =>
      have h0 : Suf b (⟨#[]⟩ : ByteArray).data.toList 0 0 := ⟨rfl, (fun x hx => by cases hx), fun v => by simp [vnL]⟩
      exact ⟨0, n0, 0, ⟨#[]⟩, rfl, by omega, hn0, rfl, rfl, rfl, Nat.le_refl _, Lib.hid ⟨0, rfl⟩, Lib.hid (by simp), Lib.hid h0⟩
    case round =>
      obtain ⟨k, N, V, S, hgn, hk, hN, rfl, rfl, rfl, hSz, HW, HN, HS⟩ := hrel
      obtain ⟨m0, rfl⟩ := HW.out
      obtain ⟨d, hd⟩ : ∃ d, d = N % b := ⟨_, rfl⟩
      obtain ⟨q, hq⟩ : ∃ q, q = N / b := ⟨_, rfl⟩
      have hdb : d < b := by rw [hd]; exact Nat.mod_lt _ (by omega)
      have hqN : q ≤ N := by rw [hq]; exact Nat.div_le_self _ _
      have hdm : N = q * b + d := by rw [hq, hd]; exact (Nat.div_add_mod' N b).symm
      have em : ((N : Int)).tmod (b : Int) = (d : Int) := by rw [Int.tmod_eq_emod_of_nonneg (by omega), hd]; push_cast; rfl
      have ed : ((N : Int)).tdiv (b : Int) = (q : Int) := by rw [Int.tdiv_eq_ediv_of_nonneg (by omega), hq]; push_cast; rfl
      have hb0 : ¬ (b : Int) = 0 := by omega
      have w0 : IntKind.u64.wrap (b : Int) = (b : Int) := by rw [IntKind.wrap_u64]; omega
      obtain ⟨x, -, x2, x3, -⟩ := take_snoc (s := D) (k := d) (by omega)
      have hdx := HD.out.2 d (by omega)
      rw [x2] at hdx
      obtain ⟨P, hP⟩ : ∃ P, D.extract d (d + 1) = P := ⟨_, rfl⟩
      rw [hP] at x3
      have hPz : P.size = 1 := by rw [← list_size, x3]; rfl
      have hPS : (P ++ S).data.toList = x :: S.data.toList := by rw [ByteArray.toList_data_append, x3]; rfl
      obtain ⟨f1, f2⟩ := HS.out.digit hdx hdb h36
      have HF1 := Lib.hid f1
      have HF2 := Lib.hid f2
      have HPS := Lib.hid hPS
      have HDM := Lib.hid hdm
      have hPSz : (P ++ S).size ≤ 2 * k + 1 := by rw [ByteArray.size_append]; omega
      clear x2 x3 hdx hPS f1 f2 hd hq hdm
      by_cases hq0 : q = 0
      · subst hq0
        have HWT : Hid (WholeT b n0 (P ++ S)) := by
          have hv : n0 = d * b ^ k + V := by
            have := HN.out
            rw [HDM.out, Nat.zero_mul, Nat.zero_add] at this
            exact this
          refine ⟨by rw [HPS.out]; exact HF2.out.els, by rw [HPS.out]; exact HF1.out false, ?_, by omega⟩
          rw [HPS.out, HF2.out.val, hv]
          omega
        go_wp2_with fail
        refine (H.out _ (HT.out.drewN m0)).mono ?_
        rintro e w1 ⟨rfl, hb1⟩
        have HB1 : Hid (Below w.heap.size w w1) := (Below.ofDrewN w _).trans hb1
        clear hb1
        go_wp2_with fail
        refine (HWh.out _ HWT.out _).mono ?_
        rintro e w2 ⟨rfl, hb2⟩
        have HB2 : Hid (Below w.heap.size w w2) := HB1.out.trans (hb2.mono HB1.out.size)
        clear hb2
        go_wp2_with fail
        go_ret
        exact ⟨rfl, HB2.out⟩
      · have gq : ((q : Int) == 0) = false := beq_false_of_ne (by omega)
        have HN2 := Lib.hid (show n0 = q * b ^ (k + 1) + (d * b ^ k + V) by
          rw [HN.out, HDM.out, Nat.add_mul, Nat.pow_succ, Nat.mul_assoc, Nat.mul_comm b (b ^ k), Nat.add_assoc])
        have hk1 : k + 1 < 64 := by
          refine pow_64 h2 ?_
          have h1 := HN2.out
          have : 1 * b ^ (k + 1) ≤ q * b ^ (k + 1) := Nat.mul_le_mul_right _ (by omega)
          omega
        have HU : Hid (Suf b (({ data := #[95] } : ByteArray) ++ (P ++ S)).data.toList (k + 1) (d * b ^ k + V)) := by
          have h := Suf.under HF1.out HF2.out
          have e : (({ data := #[95] } : ByteArray) ++ (P ++ S)).data.toList = 95 :: x :: S.data.toList := by rw [ByteArray.toList_data_append, HPS.out]; rfl
          rw [e]
          exact h
        have HU0 : Hid (Suf b (P ++ S).data.toList (k + 1) (d * b ^ k + V)) := by rw [HPS.out]; exact HF2.out
        have k95 : ({ data := #[95] } : ByteArray).size = 1 := rfl
        go_wp2_with fail
        all_goals
          go_roundg (64 - (k + 1))
          case measure => omega
          case rel => first | exact ⟨k + 1, q, d * b ^ k + V, P ++ S, rfl, hk1, by omega, rfl, rfl, by go_num, by omega, Lib.hid ⟨m0, rfl⟩, HN2, HU0⟩ | exact ⟨k + 1, q, d * b ^ k + V, { data := #[95] } ++ (P ++ S), rfl, hk1, by omega, rfl, rfl, by go_num, by rw [ByteArray.size_append]; omega, Lib.hid ⟨m0, rfl⟩, HN2, HU⟩
set_option maxRecDepth 100000 in
theorem lifted (os : Os) (started : os.Started) (H : Type) (enc : TypeId × Value → H) :
    ReturnsInHanded {} Tryd.checked os 4 .any (fun w args => (Rows.litWholeSpec.pre enc Tryd.prog Tryd.f4 [] false w args ∧ laidMetH Tryd.prog litLaid w) ∧ sizedMet enc Tryd.prog Tryd.f4 (OpenSpec.ofChange Rows.litWholeSpec) false w args)
      (Rows.litWholeSpec.post enc Tryd.prog Tryd.f4 false true false false) := by
  refine returnsInHanded_of_change_and (C := Tryd.checked) (X := fun w _ => laidMetH Tryd.prog litLaid w) (fun _ _ _ hh h => h.of_heap hh) own4 started (by kernel_rfl) Tryd.func4
    (ChangeSpec.witness_shaped (enc := enc) (C := Tryd.checked) (os := os) (X := fun w _ => laidMetH Tryd.prog litLaid w) false (World.doorLaid Tryd.prog 400 os) #[.int .u64 0, .int .i64 0, .int .i64 0, .bool false] 8 rfl (World.shaped_of_RefB (by kernel_rfl) (by kernel_rfl)) (by kernel_rfl) (by kernel_rfl) (by kernel_rfl) (door_met4 os _)) ?_
  intro W base args ds gs before hval0 hW _ _ hL _
  have hval : ∀ (j : Nat) t v, Tryd.f4.params[j]? = some t → args[j]? = some v → Value.okWide Tryd.prog W .any base t v := hval0
  have hW' := hW
  obtain ⟨p, q, hA0, hV, rfl, hfz, hnd⟩ := hW
  have hA : DataW.TrodAll enc Tryd.prog W 0 (fun _ => true) true Tryd.f4.params.toList args.toList ds p := hA0
  rw [Tryd.params4] at hA hval
  obtain ⟨v0, vs0, d0, ds0, p0, q0, hargs, rfl, rfl, h0, r0⟩ := trodAll_cons hA
  obtain ⟨v1, vs1, d1, ds1, p1, q1, rfl, rfl, rfl, h1, r1⟩ := trodAll_cons r0
  obtain ⟨v2, vs2, d2, ds2, p2, q2, rfl, rfl, rfl, h2, r2⟩ := trodAll_cons r1
  obtain ⟨v3, vs3, d3, ds3, p3, q3, rfl, rfl, rfl, h3, r3⟩ := trodAll_cons r2
  obtain ⟨rfl, rfl, rfl⟩ := trodAll_nil r3
  obtain rfl : args = #[v0, v1, v2, v3] := by cases args; simp_all
  obtain ⟨rfl, rfl⟩ := trodVars_none hV
  obtain ⟨a0, rfl, rfl, rfl, w0⟩ := open_int Tryd.underlying23 (hval 0 23 v0 rfl rfl) h0
  obtain ⟨a1, rfl, rfl, rfl, w1⟩ := open_int Tryd.underlying3 (hval 1 3 v1 rfl rfl) h1
  obtain ⟨a2, rfl, rfl, rfl, w2⟩ := open_int Tryd.underlying3 (hval 2 3 v2 rfl rfl) h2
  obtain ⟨a3, rfl, rfl, rfl⟩ := open_bool Tryd.underlying4 (hval 3 4 v3 rfl rfl) h3
  clear hA0 hval0
  simp only [List.append_nil] at hW'
  refine (walk a0 (u64_fits w0) a1 a2 a3 W (ltabs_of_laid hL)).mono fun e W' ⟨he, bel⟩ => ?_
  subst he
  exact ⟨_, rfl, _, _, _, [], _, [], hW', trodAll_mk1 (shut_bool Tryd.underlying4 _), (trodAll_cons_mk (shut_int Tryd.underlying23 w0) (trodAll_cons_mk (shut_int Tryd.underlying3 w1) (trodAll_cons_mk (shut_int Tryd.underlying3 w2) (trodAll_cons_mk (shut_bool Tryd.underlying4 _) trodAll_mk0)))), rfl, bel.frame _, fun h => by cases h⟩
theorem over : Rows.LitWholeSaid :=
  OpenClaim.holds_of_wide 4 Tryd.f4 rfl rfl rfl rfl rfl rfl rfl ⟨rfl, rfl, rfl, rfl, rfl⟩ rfl rfl rfl rfl rfl (by kernel_rfl) Tryd.func4 (by kernel_rfl)
    (of_decide_eq_true (by kernel_rfl)) (by unfold Func.isWrapper; first | (rw [if_pos (by decide +kernel)]; kernel_rfl) | (rw [if_neg (by decide +kernel)]; exact ⟨rfl, rfl⟩))
    (fun os started H enc _ => lifted os started H enc)
/-- THE TIED CARD. -/
theorem proved : Rows.LitWholeCardSaid :=
  Claim7.holds_tied_plain_at .later [] [.data, .data, .data, .data] true Rows.litWholeCard.stood.harness false
    over (fun _ h => by cases h) (by kernel_rfl) (fun _ h => by cases h) litWhole_row_tie rfl ⟨rfl, rfl⟩ (by kernel_rfl) rfl
    (fun f fn hf hfn => by
      obtain rfl : f = 4 := Option.some.inj ((show Tryd.prog.funcNamed "galley/galleylaw4.LitWhole" = some 4 by kernel_rfl).symm.trans hf) |>.symm
      obtain rfl : fn = Tryd.f4 := (Option.some.inj (Tryd.func4.symm.trans hfn)).symm
      exact ⟨by kernel_rfl, fun j t ht => by
        rw [Tryd.params4] at ht
        have hm : t ∈ [23, 3, 4] := by
          have := Array.mem_of_getElem? ht
          simpa using this
        have hall : ([23, 3, 4].all fun u => !Tryd.prog.wantsStandIn u) = true := by kernel_rfl
        exact (show Tryd.prog.wantsStandIn t = false by simpa using List.all_eq_true.1 hall t hm)⟩)
    (by kernel_rfl)
#print axioms proved
end Go.Proofs.YtnejkdaiopjchaaDoor.litWhole
