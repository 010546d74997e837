/-
  At the ends of each length of bytes, and of what is no code point, package utf's Put and Next answer as promise 1.1 says: for every two integers the statement UtfEnds returns true. The three tables are tied to the program's text by the given ties; no further condition.
-/
import Derived.Test.YtpdfkkjkbieieaaDoorUtfLaid
import Derived.Test.YtpdfkkjkbieieaaDoorUtfEnc
import Derived.Deep.DeepCutAuto
import Derived.Test.YtpdfkkjkbieieaaDoorCards
import Derived.Test.YtpdfkkjkbieieaaDoorTie
namespace Go.Proofs.YtpdfkkjkbieieaaDoor.utfEnds
open Go.ChangeShapes Go.WideShapes Go.ChangeAt Go.RowKit

/-- A number's bytes, read again. -/
theorem next_pu {n : Int} (hp : isPt n = true) (w : World) (ht : Tabs w) :
    Calls Tryd.prog 9 #[.string (Utf8.encode n), .int .i64 0] w fun e w' => e = .returned (.tuple #[.int .i64 n, .int .i64 (lenOf n)]) ∧ ∃ n, w' = w.drewN n := by
  obtain ⟨h1, h2, h3, -⟩ := reads_enc hp
  have := lenOf_pos n
  have h := next_in (Utf8.encode n) 0 w ht (by omega) (by unfold maxLen; omega)
  rw [h2, h3] at h
  exact h
theorem next_empty (w : World) :
    Calls Tryd.prog 9 #[.string { data := #[] }, .int .i64 0] w fun e w' => e = .returned (.tuple #[.int .i64 0, .int .i64 0]) ∧ ∃ n, w' = w.drewN n :=
  next_out ⟨#[]⟩ 0 w (.inr (by decide))
/-- What is known of a number on its way. -/
def Kind (n : Int) (L : Nat) : Prop := isPt n = true ∧ lenOf n = L

set_option maxRecDepth 100000 in
set_option maxHeartbeats 4000000 in
theorem walk (a0 : Int) (a1 : Int) (w : World) (ht : Tabs w) :
    Calls Tryd.prog 6 #[.int .i64 a0, .int .i64 a1] w fun e w' => e = .returned (.bool true) ∧ Below w.heap.size w w' := by
  obtain ⟨r, hr0, hr1, er⟩ : ∃ r : Int, 0 ≤ r ∧ r < 3 ∧ (IntKind.u64.wrap a1).tmod 3 = r := by
    have := IntKind.wrap_u64 a1
    exact ⟨_, Int.tmod_nonneg _ (by omega), Int.tmod_lt_of_pos _ (by omega), rfl⟩
  obtain ⟨i, hi0, hi1, ei⟩ : ∃ i : Int, 0 ≤ i ∧ i < 13 ∧ (IntKind.u64.wrap a0).tmod 13 = i := by
    have := IntKind.wrap_u64 a0
    exact ⟨_, Int.tmod_nonneg _ (by omega), Int.tmod_lt_of_pos _ (by omega), rfl⟩
  have HT := Lib.hid ht
  clear ht
  go_enter Tryd.func6, Tryd.ntmps6
  go_upto_region 2 with (fail)
  go_cut [6] (fun c wx => ∃ n : Int, c = .int .i64 n ∧ -1 ≤ n ∧ n ≤ 1114113 ∧ Below w.heap.size w wx)
  case first =>
    obtain rfl | rfl | rfl | rfl | rfl | rfl | rfl | rfl | rfl | rfl | rfl | rfl | rfl : i = 0 ∨ i = 1 ∨ i = 2 ∨ i = 3 ∨ i = 4 ∨ i = 5 ∨ i = 6 ∨ i = 7 ∨ i = 8 ∨ i = 9 ∨ i = 10 ∨ i = 11 ∨ i = 12 := by omega
    all_goals
      go_wp2_with fail
      go_meet
      exact ⟨_, rfl, by omega, by omega, (Below.refl _ _).alloc (Nat.le_refl _) _⟩
  case rest =>
    obtain ⟨n, rfl, hn0, hn1, HB⟩ := hcut
    have HB' := Lib.hid HB
    have HTx := Lib.hid (HT.out.below HB)
    clear HB
    by_cases hp : isPt n = true
    · have hb := pt_bd hp
      have HN := Lib.hid (fun W (hT : Tabs W) => next_pu hp W hT)
      have HP := Lib.hid (fun W (hT : Tabs W) => put_any n W hT)
      have hpu : pu n = Utf8.encode n := by unfold pu; rw [if_pos hp]
      rw [hpu] at HP
      clear hpu
      have hsz := (reads_enc hp).1
      have hgap : n < 55296 ∨ 57344 ≤ n := by have := of_decide_eq_true hp; omega
      have hL : lenOf n = if n < 128 then 1 else if n < 2048 then 2 else if n < 65536 then 3 else 4 := rfl
      obtain ⟨hb0, hb1⟩ := hb
      obtain ⟨E, hE⟩ : ∃ E, Utf8.encode n = E := ⟨_, rfl⟩
      rw [hE] at HN HP hsz
      clear hp
      by_cases h1 : n < 128
      · rw [if_pos h1] at hL
        rw [hL] at HN hsz
        clear hgap hL
        go_wp2_with fail
        refine (HP.out _ HTx.out).mono ?_
        rintro e w1 ⟨rfl, q1⟩
        have Q1 := Lib.hid q1
        clear q1
        go_wp2_with fail
        refine (HN.out _ (HTx.out.below Q1.out)).mono ?_
        rintro e w2 ⟨rfl, m, rfl⟩
        go_wp2_with fail
        refine (told_any _ ((HTx.out.below Q1.out).drewN _)).mono ?_
        rintro e w3 ⟨rfl, q3⟩
        have Q3 := Lib.hid q3
        clear q3
        go_wp2
        go_ret
        exact ⟨rfl, HB'.out.trans ((Q1.out.trans ((Below.ofDrewN _ _).mono Q1.out.size |>.trans (Q3.out.mono Q1.out.size))).mono HB'.out.size)⟩
      by_cases h2 : n < 2048
      · rw [if_neg h1, if_pos h2] at hL
        rw [hL] at HN hsz
        clear hgap hL
        go_wp2_with fail
        refine (HP.out _ HTx.out).mono ?_
        rintro e w1 ⟨rfl, q1⟩
        have Q1 := Lib.hid q1
        clear q1
        go_wp2_with fail
        refine (HN.out _ (HTx.out.below Q1.out)).mono ?_
        rintro e w2 ⟨rfl, m, rfl⟩
        go_wp2_with fail
        refine (told_any _ ((HTx.out.below Q1.out).drewN _)).mono ?_
        rintro e w3 ⟨rfl, q3⟩
        have Q3 := Lib.hid q3
        clear q3
        go_wp2
        go_ret
        exact ⟨rfl, HB'.out.trans ((Q1.out.trans ((Below.ofDrewN _ _).mono Q1.out.size |>.trans (Q3.out.mono Q1.out.size))).mono HB'.out.size)⟩
      by_cases h3 : n < 65536
      · rw [if_neg h1, if_neg h2, if_pos h3] at hL
        rw [hL] at HN hsz
        rcases hgap with hgap | hgap
        all_goals
          clear hL
          go_wp2_with fail
          refine (HP.out _ HTx.out).mono ?_
          rintro e w1 ⟨rfl, q1⟩
          have Q1 := Lib.hid q1
          clear q1
          go_wp2_with fail
          refine (HN.out _ (HTx.out.below Q1.out)).mono ?_
          rintro e w2 ⟨rfl, m, rfl⟩
          go_wp2_with fail
          refine (told_any _ ((HTx.out.below Q1.out).drewN _)).mono ?_
          rintro e w3 ⟨rfl, q3⟩
          have Q3 := Lib.hid q3
          clear q3
          go_wp2
          go_ret
          exact ⟨rfl, HB'.out.trans ((Q1.out.trans ((Below.ofDrewN _ _).mono Q1.out.size |>.trans (Q3.out.mono Q1.out.size))).mono HB'.out.size)⟩
      · rw [if_neg h1, if_neg h2, if_neg h3] at hL
        rw [hL] at HN hsz
        clear hgap hL
        go_wp2_with fail
        refine (HP.out _ HTx.out).mono ?_
        rintro e w1 ⟨rfl, q1⟩
        have Q1 := Lib.hid q1
        clear q1
        go_wp2_with fail
        refine (HN.out _ (HTx.out.below Q1.out)).mono ?_
        rintro e w2 ⟨rfl, m, rfl⟩
        go_wp2_with fail
        refine (told_any _ ((HTx.out.below Q1.out).drewN _)).mono ?_
        rintro e w3 ⟨rfl, q3⟩
        have Q3 := Lib.hid q3
        clear q3
        go_wp2
        go_ret
        exact ⟨rfl, HB'.out.trans ((Q1.out.trans ((Below.ofDrewN _ _).mono Q1.out.size |>.trans (Q3.out.mono Q1.out.size))).mono HB'.out.size)⟩
    · have HN := Lib.hid next_empty
      have HP := Lib.hid (fun W (hT : Tabs W) => put_any n W hT)
      have hpu : pu n = ⟨#[]⟩ := by unfold pu; rw [if_neg hp]
      rw [hpu] at HP
      clear hpu
      have hgap : n < 0 ∨ (0 ≤ n ∧ 55296 ≤ n ∧ n ≤ 57343) ∨ (0 ≤ n ∧ 1114111 < n) := by
        by_cases h0 : n < 0
        · exact .inl h0
        by_cases h1 : 1114111 < n
        · exact .inr (.inr ⟨by omega, h1⟩)
        refine .inr (.inl ⟨by omega, ?_⟩)
        apply Classical.byContradiction
        intro h2
        exact hp (decide_eq_true (by omega))
      clear hp
      rcases hgap with hg0 | ⟨hg0, hg1, hg2⟩ | ⟨hg0, hg1⟩
      all_goals
        go_wp2_with fail
        refine (HP.out _ HTx.out).mono ?_
        rintro e w1 ⟨rfl, q1⟩
        have Q1 := Lib.hid q1
        clear q1
        go_wp2_with fail
        refine (HN.out _).mono ?_
        rintro e w2 ⟨rfl, m, rfl⟩
        go_wp2_with fail
        refine (told_any _ ((HTx.out.below Q1.out).drewN _)).mono ?_
        rintro e w3 ⟨rfl, q3⟩
        have Q3 := Lib.hid q3
        clear q3
        go_wp2
        go_ret
        exact ⟨rfl, HB'.out.trans ((Q1.out.trans ((Below.ofDrewN _ _).mono Q1.out.size |>.trans (Q3.out.mono Q1.out.size))).mono HB'.out.size)⟩

set_option maxRecDepth 100000 in
theorem lifted (os : Os) (started : os.Started) (H : Type) (enc : TypeId × Value → H) :
    ReturnsInHanded {} Tryd.checked os 6 .any (fun w args => (Rows.utfEndsSpec.pre enc Tryd.prog Tryd.f6 [] false w args ∧ laidMetH Tryd.prog utfLaid w) ∧ sizedMet enc Tryd.prog Tryd.f6 (OpenSpec.ofChange Rows.utfEndsSpec) false w args)
      (Rows.utfEndsSpec.post enc Tryd.prog Tryd.f6 false true false false) := by
  refine returnsInHanded_of_change_and (C := Tryd.checked) (X := fun w _ => laidMetH Tryd.prog utfLaid w) (fun _ _ _ hh h => h.of_heap hh) own started (by kernel_rfl) Tryd.func6
    (ChangeSpec.witness_shaped (enc := enc) (C := Tryd.checked) (os := os) (X := fun w _ => laidMetH Tryd.prog utfLaid w) false (World.doorLaid Tryd.prog 400 os) #[.int .i64 0, .int .i64 0] 8 rfl (World.shaped_of_RefB (by kernel_rfl) (by kernel_rfl)) (by kernel_rfl) (by kernel_rfl) (by kernel_rfl) (door_met os _)) ?_
  intro W base args ds gs before hval0 hW _ _ hL _
  have hval : ∀ (j : Nat) t v, Tryd.f6.params[j]? = some t → args[j]? = some v → Value.okWide Tryd.prog W .any base t v := hval0
  have hW' := hW
  obtain ⟨p, q, hA0, hV, rfl, hfz, hnd⟩ := hW
  have hA : DataW.TrodAll enc Tryd.prog W 0 (fun _ => true) true Tryd.f6.params.toList args.toList ds p := hA0
  rw [Tryd.params6] at hA hval
  obtain ⟨v0, vs0, d0, ds0, p0, q0, hargs, rfl, rfl, h0, r0⟩ := trodAll_cons hA
  obtain ⟨v1, vs1, d1, ds1, p1, q1, rfl, rfl, rfl, h1, r1⟩ := trodAll_cons r0
  obtain ⟨rfl, rfl, rfl⟩ := trodAll_nil r1
  obtain rfl : args = #[v0, v1] := by cases args; simp_all
  obtain ⟨rfl, rfl⟩ := trodVars_none hV
  obtain ⟨a0, rfl, rfl, rfl, w0⟩ := open_int Tryd.underlying3 (hval 0 3 v0 rfl rfl) h0
  obtain ⟨a1, rfl, rfl, rfl, w1⟩ := open_int Tryd.underlying3 (hval 1 3 v1 rfl rfl) h1
  clear hA0 hval0
  simp only [List.append_nil] at hW'
  refine (walk a0 a1 W (tabs_of_laid hL)).mono fun e W' ⟨he, bel⟩ => ?_
  subst he
  exact ⟨_, rfl, _, _, _, [], _, [], hW', trodAll_mk1 (shut_bool Tryd.underlying4 _), (trodAll_cons_mk (shut_int Tryd.underlying3 w0) (trodAll_cons_mk (shut_int Tryd.underlying3 w1) trodAll_mk0)), rfl, bel.frame _, fun h => by cases h⟩
theorem over : Rows.UtfEndsSaid :=
  OpenClaim.holds_of_wide 6 Tryd.f6 rfl rfl rfl rfl rfl rfl rfl ⟨rfl, rfl, rfl, rfl, rfl⟩ rfl rfl rfl rfl rfl (by kernel_rfl) Tryd.func6 (by kernel_rfl)
    (of_decide_eq_true (by kernel_rfl)) (by unfold Func.isWrapper; first | (rw [if_pos (by decide +kernel)]; kernel_rfl) | (rw [if_neg (by decide +kernel)]; exact ⟨rfl, rfl⟩))
    (fun os started H enc _ => lifted os started H enc)
/-- THE TIED CARD. -/
theorem proved : Rows.UtfEndsCardSaid :=
  Claim7.holds_tied_plain_at .later [] [.data, .data, .data] true Rows.utfEndsCard.stood.harness false
    over (fun _ h => by cases h) (by kernel_rfl) (fun _ h => by cases h) utfEnds_row_tie rfl ⟨rfl, rfl⟩ (by kernel_rfl) rfl
    (fun f fn hf hfn => by
      obtain rfl : f = 6 := Option.some.inj ((show Tryd.prog.funcNamed "galley/galleylaw1.UtfEnds" = some 6 by kernel_rfl).symm.trans hf) |>.symm
      obtain rfl : fn = Tryd.f6 := (Option.some.inj (Tryd.func6.symm.trans hfn)).symm
      exact ⟨by kernel_rfl, fun j t ht => by
        rw [Tryd.params6] at ht
        have hm : t ∈ [3] := by
          have := Array.mem_of_getElem? ht
          simpa using this
        have hall : ([3].all fun u => !Tryd.prog.wantsStandIn u) = true := by kernel_rfl
        exact (show Tryd.prog.wantsStandIn t = false by simpa using List.all_eq_true.1 hall t hm)⟩)
    (by kernel_rfl)
#print axioms proved
end Go.Proofs.YtpdfkkjkbieieaaDoor.utfEnds
