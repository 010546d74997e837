/-
  In a text of 1 to 30 code points beyond ASCII a byte that is turned into 255 makes it invalid, Next tells -1 and 1 there, and a text whose last byte is cut off is not valid (promise 1.1): for every list of numbers and every place the statement UtfTurned returns true. The three tables are tied to the program's text by the given ties; no further condition.
-/
import Derived.Test.YtpdfkkjkbieieaaDoorIsRow
import Derived.Test.YtpdfkkjkbieieaaDoorUtfMore
import Derived.Test.YtpdfkkjkbieieaaDoorCards
import Derived.Test.YtpdfkkjkbieieaaDoorTie
namespace Go.Proofs.YtpdfkkjkbieieaaDoor.utfTurned
open Go.ChangeShapes Go.WideShapes Go.ChangeAt Go.RowKit Go.PlainAid

/-- The text so far: empty, or a valid one and a code point of two bytes or three. -/
def Good (s : ByteArray) (i : Nat) : Prop := s.size ≤ 4 * i ∧ vd s 0 = true ∧ (0 < i → ∃ s0 c, vd s0 0 = true ∧ isPt c = true ∧ 128 ≤ c ∧ s = s0 ++ Utf8.encode c)
theorem good_start : Good ⟨#[]⟩ 0 := ⟨Nat.le_refl _, vd_empty, fun h => absurd h (Nat.lt_irrefl _)⟩
theorem good_next {s : ByteArray} {i : Nat} {c : Int} (h : Good s i) (h0 : 128 ≤ c) (h1 : c < 55296) : Good (s ++ Utf8.encode c) (i + 1) := by
  have hp : isPt c = true := decide_eq_true (.inl ⟨by omega, h1⟩)
  refine ⟨?_, vd_both h.2.1 (vd_enc hp), fun _ => ⟨s, c, h.2.1, hp, h0, rfl⟩⟩
  have := (reads_enc hp).1
  have := lenOf_pos c
  have := h.1
  rw [ByteArray.size_append]; omega
theorem good_size {s : ByteArray} {i : Nat} (h : Good s i) (hi : 0 < i) : 2 ≤ s.size := by
  obtain ⟨s0, c, -, hp, hc, rfl⟩ := h.2.2 hi
  have := (reads_enc hp).1
  have h2 : 2 ≤ lenOf c := by
    unfold lenOf
    rw [if_neg (by omega)]
    repeat' split
    all_goals omega
  rw [ByteArray.size_append]; omega
theorem good_cut {s : ByteArray} {i : Nat} (h : Good s i) (hi : 0 < i) : vd (s.extract 0 (s.size - 1)) 0 = false := by
  obtain ⟨s0, c, h0, hp, hc, rfl⟩ := h.2.2 hi
  exact vd_cut h0 hp hc

set_option maxRecDepth 100000 in
set_option maxHeartbeats 4000000 in
theorem walk (a : Option Addr) (len cap : Nat) (zs : List Int) (i : Int) (w : World) (hr : IsRow w a len cap zs) (ht : Tabs w) :
    Calls Tryd.prog 7 #[.slice a len cap, .int .i64 i] w fun e w' => e = .returned (.bool true) ∧ Below w.heap.size w w' := by
  have HT := Lib.hid ht
  clear ht
  by_cases g0 : len = 0
  · subst g0
    clear hr
    go_enter Tryd.func7, Tryd.ntmps7
    go_wp2_with fail
    refine (told_any _ HT.out).mono ?_
    rintro e w1 ⟨rfl, q1⟩
    go_wp2
    go_ret
    exact ⟨rfl, q1⟩
  have g0' : ((len : Int) == 0) = false := by simp; omega
  by_cases g1 : 30 < len
  · clear hr
    go_enter Tryd.func7, Tryd.ntmps7
    go_wp2_with fail
    refine (told_any _ HT.out).mono ?_
    rintro e w1 ⟨rfl, q1⟩
    go_wp2
    go_ret
    exact ⟨rfl, q1⟩
  obtain ⟨b, off, rfl, hb, hc⟩ := hr.at (by omega)
  have HC := Lib.hid hc
  clear hr hc
  have g2 : 0 < len := by omega
  have g1' : decide (30 < (len : Int)) = false := by simp; omega
  clear g0
  go_enter Tryd.func7, Tryd.ntmps7
  go_wp2_with fail
  go_loopw [5, 6] (fun s i wr => ∃ (k : Nat) (S : ByteArray), k ≤ len ∧ i = .int .i64 k ∧ s = .string S ∧ Hid (Good S k) ∧ Hid (Below w.heap.size w wr)) (fun _ i _ => len - (intOf i).toNat)
  case atStart => exact ⟨0, ⟨#[]⟩, Nat.zero_le _, rfl, rfl, good_start, Below.refl _ _⟩
  case round =>
    obtain ⟨k, S, hk, rfl, rfl, HG, HB⟩ := hrel
    have HT1 := Lib.hid (HT.out.below HB.out)
    by_cases hlt : k < len
    · have hcell := (HB.out.cell (p := ⟨b, off + k, none⟩) hb).trans (HC.out k hlt)
      obtain ⟨z, hz⟩ : ∃ z, z = zs.getD k 0 := ⟨_, rfl⟩
      rw [← hz] at hcell
      clear hz
      obtain ⟨r, hr0, hr1, er⟩ : ∃ r : Int, 0 ≤ r ∧ r < 53248 ∧ (IntKind.u64.wrap z).tmod 53248 = r := by
        have := IntKind.wrap_u64 z
        exact ⟨_, Int.tmod_nonneg _ (by omega), Int.tmod_lt_of_pos _ (by omega), rfl⟩
      have hpt : isPt (128 + r) = true := decide_eq_true (.inl ⟨by omega, by omega⟩)
      have hpu : pu (128 + r) = Utf8.encode (128 + r) := by unfold pu; rw [if_pos hpt]
      have HP := Lib.hid (fun W (hT : Tabs W) => put_any (128 + r) W hT)
      rw [hpu] at HP
      have s4 : (Utf8.encode (128 + r)).size ≤ 4 := by
        have := (reads_enc hpt).1
        have := lenOf_pos (128 + r)
        omega
      have s3 := HG.out.1
      clear hpu hpt
      go_wp2_with fail
      refine (HP.out _ HT1.out).mono ?_
      rintro e w1 ⟨rfl, q1⟩
      have Q1 := Lib.hid (HB.out.trans (q1.mono HB.out.size))
      clear q1
      go_wp2_with fail
      go_roundw
      case rel => exact ⟨k + 1, _, by omega, by go_num, rfl, good_next HG.out (by omega) (by omega), Q1.out⟩
      case measure => simp [intOf]; omega
    · obtain rfl : k = len := by omega
      have s2 := good_size HG.out g2
      have s3 := HG.out.1
      obtain ⟨j, hj, ej⟩ : ∃ j : Nat, j < S.size ∧ (IntKind.u64.wrap i).tmod (S.size : Int) = (j : Int) := by
        have := IntKind.wrap_u64 i
        have h0 := Int.tmod_nonneg (a := IntKind.u64.wrap i) (S.size : Int) (by omega)
        have h1 := Int.tmod_lt_of_pos (IntKind.u64.wrap i) (b := (S.size : Int)) (by omega)
        have h2 := Int.toNat_of_nonneg h0
        exact ⟨((IntKind.u64.wrap i).tmod (S.size : Int)).toNat, by omega, h2.symm⟩
      have hm : S.size ≤ maxLen := by unfold maxLen; omega
      have hm2 : (put255 S j).size ≤ maxLen := by rw [put255_size hj]; exact hm
      have hm3 : (S.extract 0 (S.size - 1)).size ≤ maxLen := by rw [size_ext _ _ _ (by omega)]; unfold maxLen; omega
      have C1 := fun W (hT : Tabs W) => valid_any S W hT hm
      rw [HG.out.2.1] at C1
      have C2 := fun W (hT : Tabs W) => valid_any (put255 S j) W hT hm2
      rw [put255_vd hj] at C2
      have C3 := fun W (hT : Tabs W) => valid_any (S.extract 0 (S.size - 1)) W hT hm3
      rw [good_cut HG.out g2] at C3
      have C4 := fun W (hT : Tabs W) => next_in (put255 S j) j W hT (by rw [put255_size hj]; exact hj) hm2
      rw [(put255_nc hj).1, (put255_nc hj).2] at C4
      have H1 := Lib.hid C1
      have H2 := Lib.hid C2
      have H3 := Lib.hid C3
      have H4 := Lib.hid C4
      clear C1 C2 C3 C4 hm hm2 hm3
      have hse : ((S.size : Int) == 0) = false := beq_false_of_ne (by omega)
      have e1 : IntKind.i64.wrap ((j : Int) + 1) = (j : Int) + 1 := IntWalk.i64_in _ (by omega)
      have e2 : 0 ≤ (j : Int) + 1 := by omega
      have e3 : ((j : Int) + 1).toNat = j + 1 := by omega
      go_wp2_with fail
      go_quiet (fail)
      clear e1 e2 e3
      go_wp2_with fail
      refine (H4.out _ (HT1.out.drewN _)).mono ?_
      rintro e w1 ⟨rfl, n1, rfl⟩
      go_wp2_with fail
      refine (told_any _ (HT1.out.drewN _)).mono ?_
      rintro e w2 ⟨rfl, q2⟩
      have Q2 := Lib.hid (HB.out.trans (((Below.ofDrewN _ _).trans q2).mono HB.out.size))
      have HT2 := Lib.hid (HT.out.below Q2.out)
      clear q2
      go_wp2_with fail
      refine (H1.out _ HT2.out).mono ?_
      rintro e w3 ⟨rfl, n3, rfl⟩
      go_wp2_with fail
      refine (H2.out _ (HT2.out.drewN _)).mono ?_
      rintro e w3 ⟨rfl, n4, rfl⟩
      go_wp2_with fail
      refine (H3.out _ (HT2.out.drewN _)).mono ?_
      rintro e w3 ⟨rfl, n5, rfl⟩
      go_wp2_with fail
      go_ret
      exact ⟨rfl, Q2.out.trans ((Below.ofDrewN _ _).mono Q2.out.size)⟩

set_option maxRecDepth 100000 in
theorem lifted (os : Os) (started : os.Started) (H : Type) (enc : TypeId × Value → H) :
    ReturnsInHanded {} Tryd.checked os 7 .any (fun w args => (Rows.utfTurnedSpec.pre enc Tryd.prog Tryd.f7 [] false w args ∧ laidMetH Tryd.prog utfLaid w) ∧ sizedMet enc Tryd.prog Tryd.f7 (OpenSpec.ofChange Rows.utfTurnedSpec) false w args)
      (Rows.utfTurnedSpec.post enc Tryd.prog Tryd.f7 false true false false) := by
  refine returnsInHanded_of_change_and (C := Tryd.checked) (X := fun w _ => laidMetH Tryd.prog utfLaid w) (fun _ _ _ hh h => h.of_heap hh) own started (by kernel_rfl) Tryd.func7
    (ChangeSpec.witness_shaped (enc := enc) (C := Tryd.checked) (os := os) (X := fun w _ => laidMetH Tryd.prog utfLaid w) false (World.doorLaid Tryd.prog 400 os) #[.slice none 0 0, .int .i64 0] 8 rfl (World.shaped_of_RefB (by kernel_rfl) (by kernel_rfl)) (by kernel_rfl) (by kernel_rfl) (by kernel_rfl) (door_met os _)) ?_
  intro W base args ds gs before hval0 hW _ _ hL _
  have hval : ∀ (j : Nat) t v, Tryd.f7.params[j]? = some t → args[j]? = some v → Value.okWide Tryd.prog W .any base t v := hval0
  have hW' := hW
  obtain ⟨p, q, hA0, hV, rfl, hfz, hnd⟩ := hW
  have hA : DataW.TrodAll enc Tryd.prog W 0 (fun _ => true) true Tryd.f7.params.toList args.toList ds p := hA0
  rw [Tryd.params7] at hA hval
  obtain ⟨v0, vs0, d0, ds0, p0, q0, hargs, rfl, rfl, h0, r0⟩ := trodAll_cons hA
  obtain ⟨v1, vs1, d1, ds1, p1, q1, rfl, rfl, rfl, h1, r1⟩ := trodAll_cons r0
  obtain ⟨rfl, rfl, rfl⟩ := trodAll_nil r1
  obtain rfl : args = #[v0, v1] := by cases args; simp_all
  obtain ⟨rfl, rfl⟩ := trodVars_none hV
  obtain ⟨a0, len0, cap0, rfl⟩ := okWide_slice Tryd.underlying29 (hval 0 29 v0 rfl rfl)
  have k0 := h0
  have lt0 : ∀ x ∈ p0, x.block < W.heap.size := by obtain ⟨m, hm⟩ := k0; exact DataW.trod_lt m _ _ _ hm
  obtain ⟨z0, w0⟩ : ∃ zs, IsRow W a0 len0 cap0 zs := by
    obtain ⟨fuel, hf⟩ := h0
    rcases open_ints Tryd.underlying29 Tryd.underlying3 (by kernel_rfl) hf with ⟨hcs, _⟩ | ⟨x, l, c, zs, hcs, _, hl, hm, hz, _, hcell, hwz⟩
    · simp [Value.cells] at hcs
      obtain ⟨rfl, rfl, rfl⟩ := hcs
      exact ⟨[], .inl ⟨rfl, rfl, rfl, rfl⟩⟩
    · simp [Value.cells] at hcs
      obtain ⟨rfl, rfl, rfl⟩ := hcs
      exact ⟨zs, .inr ⟨_, rfl, hl, hm, by simpa using hz, hcell, hwz⟩⟩
  obtain ⟨a1, rfl, rfl, rfl, w1⟩ := open_int Tryd.underlying3 (hval 1 3 v1 rfl rfl) h1
  clear hA0 hval0
  refine (walk a0 len0 cap0 z0 a1 W w0 (tabs_of_laid hL)).mono fun e W' ⟨he, bel⟩ => ?_
  subst he
  exact ⟨_, rfl, _, _, _, [], _, [], hW', trodAll_mk1 (shut_bool Tryd.underlying4 _), (trodAll_cons_mk (Below.trod laidOut (by kernel_rfl) (of_decide_eq_true (by kernel_rfl)) k0 bel lt0) (trodAll_cons_mk (shut_int Tryd.underlying3 w1) trodAll_mk0)), rfl, bel.frame _, fun h => by cases h⟩
theorem over : Rows.UtfTurnedSaid :=
  OpenClaim.holds_of_wide 7 Tryd.f7 rfl rfl rfl rfl rfl rfl rfl ⟨rfl, rfl, rfl, rfl, rfl⟩ rfl rfl rfl rfl rfl (by kernel_rfl) Tryd.func7 (by kernel_rfl)
    (of_decide_eq_true (by kernel_rfl)) (by unfold Func.isWrapper; first | (rw [if_pos (by decide +kernel)]; kernel_rfl) | (rw [if_neg (by decide +kernel)]; exact ⟨rfl, rfl⟩))
    (fun os started H enc _ => lifted os started H enc)
/-- THE TIED CARD. -/
theorem proved : Rows.UtfTurnedCardSaid :=
  Claim7.holds_tied_plain_at .later [] [.data, .data, .data] true Rows.utfTurnedCard.stood.harness false
    over (fun _ h => by cases h) (by kernel_rfl) (fun _ h => by cases h) utfTurned_row_tie rfl ⟨rfl, rfl⟩ (by kernel_rfl) rfl
    (fun f fn hf hfn => by
      obtain rfl : f = 7 := Option.some.inj ((show Tryd.prog.funcNamed "galley/galleylaw1.UtfTurned" = some 7 by kernel_rfl).symm.trans hf) |>.symm
      obtain rfl : fn = Tryd.f7 := (Option.some.inj (Tryd.func7.symm.trans hfn)).symm
      exact ⟨by kernel_rfl, fun j t ht => by
        rw [Tryd.params7] at ht
        have hm : t ∈ [29, 3] := by
          have := Array.mem_of_getElem? ht
          simpa using this
        have hall : ([29, 3].all fun u => !Tryd.prog.wantsStandIn u) = true := by kernel_rfl
        exact (show Tryd.prog.wantsStandIn t = false by simpa using List.all_eq_true.1 hall t hm)⟩)
    (by kernel_rfl)
#print axioms proved
end Go.Proofs.YtpdfkkjkbieieaaDoor.utfTurned
