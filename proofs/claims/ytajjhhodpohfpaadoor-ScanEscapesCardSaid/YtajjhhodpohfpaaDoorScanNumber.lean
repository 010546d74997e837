/-
  The program's own way to numbers: states go on by goto.
-/
import Derived.Test.YtajjhhodpohfpaaDoorScanChar
namespace Go.Proofs.YtajjhhodpohfpaaDoor
open Go.RowKit Go.PlainAid

/-- What holds at each label: as far as a name's bytes run, and which way goes on. -/
def numJ (s : ByteArray) (a T : Nat) (w : World) (l : Nat) (a' : Act) (w' : World) : Prop :=
  ((l = 0 ∧ Hid (bt s T = 35)) ∨ (l = 1 ∧ Hid (bt s T ≠ 35 ∧ (bt s T = 46 ∧ beg (bt s (T + 1)) = 3))) ∨ (l = 2 ∧ Hid (bt s T ≠ 35 ∧ ¬ (bt s T = 46 ∧ beg (bt s (T + 1)) = 3)))) ∧ Hid (∃ n, w' = w.drewN n) ∧
    ∃ (u7 u8 u9 u10 u11 u12 u13 u14 u15 u16 u17 u18 u19 u20 u21 u22 u23 u24 u25 u26 u27 u28 u29 u30 u31 u32 u33 u34 u35 u36 u37 u38 u39 u40 u41 u42 u43 u44 u45 u46 u47 u48 u49 u50 u51 u52 u53 u54 u55 u56 u57 u58 u59 u60 u61 u62 : Value), a' = { tmps := #[.string s, .int .i64 a, undef, undef, .int .i64 0, .int .i64 0, .int .i64 T, u7, u8, u9, u10, u11, u12, u13, u14, u15, u16, u17, u18, u19, u20, u21, u22, u23, u24, u25, u26, u27, u28, u29, u30, u31, u32, u33, u34, u35, u36, u37, u38, u39, u40, u41, u42, u43, u44, u45, u46, u47, u48, u49, u50, u51, u52, u53, u54, u55, u56, u57, u58, u59, u60, u61, u62], defers := [] }
theorem iok_eq {s : ByteArray} {a e : Nat} : iok s a e = ((igr (s.extract a e)).2 != 8) := rfl
theorem igr_r (s : ByteArray) : ∃ z, z = (igr s).2 := ⟨_, rfl⟩
/-- The pair that number answers. -/
def npair (x : Int × Nat) : Ending := .returned (.tuple #[.int .i64 x.1, .int .i64 x.2])

set_option maxRecDepth 100000 in
set_option maxHeartbeats 4000000 in
/-- number: kind and end. -/
theorem numberp_any (s : ByteArray) (a : Nat) (ha : a < s.size) (hd : beg (bt s a) = 3) (hs : s.size ≤ 1048576) (w : World) :
    Calls Tryd.prog 41 #[.string s, .int .i64 a] w fun e w' => e = npair (pnum s a) ∧ Below w.heap.size w w' := by
  have hT1 : a < fw inn s a := by
    have h1 := fw_ge inn s (a + 1)
    rw [fw_go ha (inn_of_beg (by omega))]
    omega
  have hT2 := fw_le inn s a (by omega)
  have hv : pnum s a = if bt s (fw inn s a) = 35 then (if iok s a (fw inn s (fw inn s a + 1)) = true then (3, fw inn s (fw inn s a + 1)) else (0, a))
      else if bt s (fw inn s a) = 46 ∧ beg (bt s (fw inn s a + 1)) = 3 then
        (if flt (s.extract a (pE s (fw inn s (fw inn s a + 1)))) = true then (4, pE s (fw inn s (fw inn s a + 1))) else (0, a))
      else (if iok s a (fw inn s a) = true then (3, fw inn s a) else (0, a)) := rfl
  have HI := Lib.hid (fun (k : Nat) hk W => pinner_any s k hk hs W)
  have HI0 := Lib.hid (fun W => pinner_any s a (by omega) hs W)
  obtain ⟨T, hT⟩ : ∃ T, T = fw inn s a := ⟨_, rfl⟩
  rw [← hT] at hT1 hT2 hv HI0
  obtain ⟨V, hV⟩ : ∃ V, V = pnum s a := ⟨_, rfl⟩
  rw [← hV] at hv ⊢
  have HV := Lib.hid hv
  clear hv hV hT hd
  have hz := size_ext s T s.size (Nat.le_refl _)
  have HP35 : Hid (∀ v, v = decide (bt s T = 35) → ∀ W, Calls Tryd.prog 57 #[.string (s.extract T s.size), .string { data := #[35] }] W fun e w' => e = .returned (.bool v) ∧ W = w') := fun v hv W =>
    hp_is _ 35 v (by decide) (by unfold maxLen; omega) (by rw [hv, bt_tail s T 0 (by omega)]; rfl) W
  have HP46 : Hid (∀ v, v = decide (bt s T = 46) → ∀ W, Calls Tryd.prog 57 #[.string (s.extract T s.size), .string { data := #[46] }] W fun e w' => e = .returned (.bool v) ∧ W = w') := fun v hv W =>
    hp_is _ 46 v (by decide) (by unfold maxLen; omega) (by rw [hv, bt_tail s T 0 (by omega)]; rfl) W
  have HD := fun W => digitp_any s (T + 1) W
  have e1 : ((T + 1 : Nat) : Int) = (T : Int) + 1 := by omega
  rw [e1] at HD
  have HD := Lib.hid HD
  have HLE : Hid (bt s T = 35 ∨ bt s T = 46 → T < s.size) := Lib.hid fun h => lt_of_bt (by omega)
  have aT : (a : Int) ≤ (T : Int) := by omega
  have Ts : (T : Int) ≤ (s.size : Int) := by omega
  clear hz
  go_enter Tryd.func41, Tryd.ntmps41
  go_wp2_with fail
  refine wp_scope_three (numJ s a T w) (fun _ _ _ => 0) rfl rfl rfl ?_ ?_ ?_ ?_ ?_
  · rintro l a' w' ⟨h, -⟩
    rcases h with ⟨h, -⟩ | ⟨h, -⟩ | ⟨h, -⟩
    · exact .inl h
    · exact .inr (.inl h)
    · exact .inr (.inr h)
  · -- a base
    rintro a' w' ⟨h, HW, u7, u8, u9, u10, u11, u12, u13, u14, u15, u16, u17, u18, u19, u20, u21, u22, u23, u24, u25, u26, u27, u28, u29, u30, u31, u32, u33, u34, u35, u36, u37, u38, u39, u40, u41, u42, u43, u44, u45, u46, u47, u48, u49, u50, u51, u52, u53, u54, u55, u56, u57, u58, u59, u60, u61, u62, rfl⟩
    obtain ⟨n0, rfl⟩ := HW.out
    have h35 : Hid (bt s T = 35) := by
      rcases h with ⟨-, h⟩ | ⟨h, -⟩ | ⟨h, -⟩
      · exact h
      · cases h
      · cases h
    have hTs := HLE.out (.inl h35.out)
    have HI1 := fun W => HI.out (T + 1) (by omega) W
    have hE1 := fw_ge inn s (T + 1)
    have hE2 := fw_le inn s (T + 1) (by omega)
    have hv := HV.out
    rw [if_pos h35.out] at hv
    obtain ⟨E, hE⟩ : ∃ E, E = fw inn s (T + 1) := ⟨_, rfl⟩
    rw [← hE, e1] at HI1
    have HI1 := Lib.hid HI1
    rw [← hE] at hE1 hE2 hv
    have HINT := Lib.hid (fun W => integer_any (s.extract a E) (by rw [size_ext s a E hE2]; unfold maxLen; omega) W)
    have HOK : Hid (((igr (s.extract a E)).2 ≠ 8 → (3, E) = V) ∧ ((igr (s.extract a E)).2 = 8 → (0, a) = V)) := Lib.hid ⟨fun h => by
      rw [hv, if_pos (by rw [iok_eq]; simpa using h)], fun h => by rw [hv, if_neg (by rw [iok_eq, h]; decide)]⟩
    have aE : (a : Int) ≤ (E : Int) := by omega
    have Es : (E : Int) ≤ (s.size : Int) := by omega
    clear h hE hE1 hE2 hv
    obtain ⟨z, hz8⟩ := igr_r (s.extract a E)
    rw [← hz8] at HINT HOK
    clear hz8
    by_cases hz : z = 8
    · subst hz
      have HF := Lib.hid (HOK.out.2 rfl)
      go_wp2_with fail
      refine (HI1.out _).mono ?_
      rintro e w' ⟨rfl, rfl⟩
      go_wp2_with fail
      go_step3
      go_wp2_with fail
      refine (HINT.out _).mono ?_
      rintro e w1 ⟨rfl, hb1⟩
      have HB1 := Lib.hid hb1
      clear hb1
      go_wp2_with fail
      rw [jumps_ret]
      go_ret2
      exact ⟨congrArg npair HF.out, (drew_below _ _).trans (HB1.out.mono (Nat.le_refl _))⟩
    · have hz2 : (z == 8) = false := beq_false_of_ne hz
      have HF := Lib.hid (HOK.out.1 hz)
      clear hz
      go_wp2_with fail
      refine (HI1.out _).mono ?_
      rintro e w' ⟨rfl, rfl⟩
      go_wp2_with fail
      go_step3
      go_wp2_with fail
      refine (HINT.out _).mono ?_
      rintro e w1 ⟨rfl, hb1⟩
      have HB1 := Lib.hid hb1
      clear hb1
      go_wp2_with fail
      rw [jumps_ret]
      go_ret2
      exact ⟨congrArg npair HF.out, (drew_below _ _).trans (HB1.out.mono (Nat.le_refl _))⟩
  · -- a point
    rintro a' w' ⟨h, HW, u7, u8, u9, u10, u11, u12, u13, u14, u15, u16, u17, u18, u19, u20, u21, u22, u23, u24, u25, u26, u27, u28, u29, u30, u31, u32, u33, u34, u35, u36, u37, u38, u39, u40, u41, u42, u43, u44, u45, u46, u47, u48, u49, u50, u51, u52, u53, u54, u55, u56, u57, u58, u59, u60, u61, u62, rfl⟩
    obtain ⟨n0, rfl⟩ := HW.out
    have h46 : Hid (bt s T ≠ 35 ∧ (bt s T = 46 ∧ beg (bt s (T + 1)) = 3)) := by
      rcases h with ⟨h, -⟩ | ⟨-, h⟩ | ⟨h, -⟩
      · cases h
      · exact h
      · cases h
    have hTs := HLE.out (.inr h46.out.2.1)
    have HI1 := fun W => HI.out (T + 1) (by omega) W
    have hE1 := fw_ge inn s (T + 1)
    have hE2 := fw_le inn s (T + 1) (by omega)
    have hv := HV.out
    rw [if_neg h46.out.1, if_pos h46.out.2] at hv
    obtain ⟨E, hE⟩ : ∃ E, E = fw inn s (T + 1) := ⟨_, rfl⟩
    rw [← hE, e1] at HI1
    have HI1 := Lib.hid HI1
    rw [← hE] at hE1 hE2 hv
    have HS := Lib.hid (fun W => signed_any s E (by omega) hs W)
    clear h hE
    cases hg : sgd s E
    · have hpe : pE s E = E := by unfold pE; rw [hg]; rfl
      rw [hpe] at hv
      rw [hg] at HS
      have HFL := Lib.hid (fun W => float_any (s.extract a E) (by rw [size_ext s a E hE2]; omega) W)
      have aE : (a : Int) ≤ (E : Int) := by omega
      have Es : (E : Int) ≤ (s.size : Int) := by omega
      clear hg hpe hE1 hE2
      cases hf : flt (s.extract a E)
      · rw [hf] at HFL hv
        have HF : Hid ((0, a) = V) := Lib.hid (by rw [hv]; rfl)
        clear hf hv
        go_wp2_with fail
        refine (HI1.out _).mono ?_
        rintro e w' ⟨rfl, rfl⟩
        go_wp2_with fail
        refine (HS.out _).mono ?_
        rintro e w' ⟨rfl, rfl⟩
        go_wp2_with fail
        refine (HFL.out _).mono ?_
        rintro e w1 ⟨rfl, hb1⟩
        have HB1 := Lib.hid hb1
        clear hb1
        go_wp2_with fail
        rw [jumps_ret]
        go_ret2
        exact ⟨congrArg npair HF.out, (drew_below _ _).trans (HB1.out.mono (Nat.le_refl _))⟩
      · rw [hf] at HFL hv
        have HF : Hid ((4, E) = V) := Lib.hid (by rw [hv]; rfl)
        clear hf hv
        go_wp2_with fail
        refine (HI1.out _).mono ?_
        rintro e w' ⟨rfl, rfl⟩
        go_wp2_with fail
        refine (HS.out _).mono ?_
        rintro e w' ⟨rfl, rfl⟩
        go_wp2_with fail
        refine (HFL.out _).mono ?_
        rintro e w1 ⟨rfl, hb1⟩
        have HB1 := Lib.hid hb1
        clear hb1
        go_wp2_with fail
        rw [jumps_ret]
        go_ret2
        exact ⟨congrArg npair HF.out, (drew_below _ _).trans (HB1.out.mono (Nat.le_refl _))⟩
    · have hEs : E < s.size := lt_of_bt (by have := (sgd_not hg).1; omega)
      have HI2 := fun W => HI.out (E + 1) (by omega) W
      have hF1 := fw_ge inn s (E + 1)
      have hF2 := fw_le inn s (E + 1) (by omega)
      have hpe : pE s E = fw inn s (E + 1) := by unfold pE; rw [hg]; rfl
      rw [hpe] at hv
      rw [hg] at HS
      obtain ⟨F, hF⟩ : ∃ F, F = fw inn s (E + 1) := ⟨_, rfl⟩
      have e2 : ((E + 1 : Nat) : Int) = (E : Int) + 1 := by omega
      rw [← hF, e2] at HI2
      have HI2 := Lib.hid HI2
      rw [← hF] at hF1 hF2 hv
      have HFL := Lib.hid (fun W => float_any (s.extract a F) (by rw [size_ext s a F hF2]; omega) W)
      have aF : (a : Int) ≤ (F : Int) := by omega
      have Fs : (F : Int) ≤ (s.size : Int) := by omega
      clear hg hpe hE1 hE2 hF hF1 hF2 e2
      cases hf : flt (s.extract a F)
      · rw [hf] at HFL hv
        have HF : Hid ((0, a) = V) := Lib.hid (by rw [hv]; rfl)
        clear hf hv
        go_wp2_with fail
        refine (HI1.out _).mono ?_
        rintro e w' ⟨rfl, rfl⟩
        go_wp2_with fail
        refine (HS.out _).mono ?_
        rintro e w' ⟨rfl, rfl⟩
        go_wp2_with fail
        refine (HI2.out _).mono ?_
        rintro e w' ⟨rfl, rfl⟩
        go_wp2_with fail
        refine (HFL.out _).mono ?_
        rintro e w1 ⟨rfl, hb1⟩
        have HB1 := Lib.hid hb1
        clear hb1
        go_wp2_with fail
        rw [jumps_ret]
        go_ret2
        exact ⟨congrArg npair HF.out, (drew_below _ _).trans (HB1.out.mono (Nat.le_refl _))⟩
      · rw [hf] at HFL hv
        have HF : Hid ((4, F) = V) := Lib.hid (by rw [hv]; rfl)
        clear hf hv
        go_wp2_with fail
        refine (HI1.out _).mono ?_
        rintro e w' ⟨rfl, rfl⟩
        go_wp2_with fail
        refine (HS.out _).mono ?_
        rintro e w' ⟨rfl, rfl⟩
        go_wp2_with fail
        refine (HI2.out _).mono ?_
        rintro e w' ⟨rfl, rfl⟩
        go_wp2_with fail
        refine (HFL.out _).mono ?_
        rintro e w1 ⟨rfl, hb1⟩
        have HB1 := Lib.hid hb1
        clear hb1
        go_wp2_with fail
        rw [jumps_ret]
        go_ret2
        exact ⟨congrArg npair HF.out, (drew_below _ _).trans (HB1.out.mono (Nat.le_refl _))⟩
  · -- neither
    rintro a' w' ⟨h, HW, u7, u8, u9, u10, u11, u12, u13, u14, u15, u16, u17, u18, u19, u20, u21, u22, u23, u24, u25, u26, u27, u28, u29, u30, u31, u32, u33, u34, u35, u36, u37, u38, u39, u40, u41, u42, u43, u44, u45, u46, u47, u48, u49, u50, u51, u52, u53, u54, u55, u56, u57, u58, u59, u60, u61, u62, rfl⟩
    obtain ⟨n0, rfl⟩ := HW.out
    have hn : Hid (bt s T ≠ 35 ∧ ¬ (bt s T = 46 ∧ beg (bt s (T + 1)) = 3)) := by
      rcases h with ⟨h, -⟩ | ⟨h, -⟩ | ⟨-, h⟩
      · cases h
      · cases h
      · exact h
    have hv := HV.out
    rw [if_neg hn.out.1, if_neg hn.out.2] at hv
    have HINT := Lib.hid (fun W => integer_any (s.extract a T) (by rw [size_ext s a T hT2]; unfold maxLen; omega) W)
    have HOK : Hid (((igr (s.extract a T)).2 ≠ 8 → (3, T) = V) ∧ ((igr (s.extract a T)).2 = 8 → (0, a) = V)) := Lib.hid ⟨fun h => by
      rw [hv, if_pos (by rw [iok_eq]; simpa using h)], fun h => by rw [hv, if_neg (by rw [iok_eq, h]; decide)]⟩
    clear h hv
    obtain ⟨z, hz8⟩ := igr_r (s.extract a T)
    rw [← hz8] at HINT HOK
    clear hz8
    by_cases hz : z = 8
    · subst hz
      have HF := Lib.hid (HOK.out.2 rfl)
      go_wp2_with fail
      refine (HINT.out _).mono ?_
      rintro e w1 ⟨rfl, hb1⟩
      have HB1 := Lib.hid hb1
      clear hb1
      go_wp2_with fail
      rw [jumps_ret]
      go_ret2
      exact ⟨congrArg npair HF.out, (drew_below _ _).trans (HB1.out.mono (Nat.le_refl _))⟩
    · have hz2 : (z == 8) = false := beq_false_of_ne hz
      have HF := Lib.hid (HOK.out.1 hz)
      clear hz
      go_wp2_with fail
      refine (HINT.out _).mono ?_
      rintro e w1 ⟨rfl, hb1⟩
      have HB1 := Lib.hid hb1
      clear hb1
      go_wp2_with fail
      rw [jumps_ret]
      go_ret2
      exact ⟨congrArg npair HF.out, (drew_below _ _).trans (HB1.out.mono (Nat.le_refl _))⟩
  · intro _
    go_wp2_with fail
    refine (HI0.out _).mono ?_
    rintro e w' ⟨rfl, rfl⟩
    by_cases c35 : bt s T = 35
    · have HP1 := Lib.hid (HP35.out true (decide_eq_true c35).symm)
      have H35 := Lib.hid c35
      clear c35
      go_wp2_with fail
      refine (HP1.out _).mono ?_
      rintro e w' ⟨rfl, rfl⟩
      go_wp2_with fail
      go_step3
      exact ⟨.inl ⟨rfl, H35⟩, Lib.hid ⟨0, rfl⟩, _, _, _, _, _, _, _, _, _, _, _, _, _, _, _, _, _, _, _, _, _, _, _, _, _, _, _, _, _, _, _, _, _, _, _, _, _, _, _, _, _, _, _, _, _, _, _, _, _, _, _, _, _, _, _, _, rfl⟩
    · have HP1 := Lib.hid (HP35.out false (decide_eq_false c35).symm)
      by_cases c46 : bt s T = 46
      · have HP2 := Lib.hid (HP46.out true (decide_eq_true c46).symm)
        by_cases cd : beg (bt s (T + 1)) = 3
        · have HH : Hid (bt s T ≠ 35 ∧ (bt s T = 46 ∧ beg (bt s (T + 1)) = 3)) := ⟨c35, c46, cd⟩
          rw [cd] at HD
          clear c35 c46 cd
          go_wp2_with fail
          refine (HP1.out _).mono ?_
          rintro e w' ⟨rfl, rfl⟩
          go_wp2_with fail
          refine (HP2.out _).mono ?_
          rintro e w' ⟨rfl, rfl⟩
          go_wp2_with fail
          refine (HD.out _).mono ?_
          rintro e w' ⟨rfl, rfl⟩
          go_wp2_with fail
          go_step3
          exact ⟨.inr (.inl ⟨rfl, HH⟩), Lib.hid ⟨0, rfl⟩, _, _, _, _, _, _, _, _, _, _, _, _, _, _, _, _, _, _, _, _, _, _, _, _, _, _, _, _, _, _, _, _, _, _, _, _, _, _, _, _, _, _, _, _, _, _, _, _, _, _, _, _, _, _, _, _, rfl⟩
        · have HH : Hid (bt s T ≠ 35 ∧ ¬ (bt s T = 46 ∧ beg (bt s (T + 1)) = 3)) := ⟨c35, fun h => cd h.2⟩
          have cd2 : (beg (bt s (T + 1)) == 3) = false := beq_false_of_ne cd
          rw [cd2] at HD
          clear c35 c46 cd cd2
          go_wp2_with fail
          refine (HP1.out _).mono ?_
          rintro e w' ⟨rfl, rfl⟩
          go_wp2_with fail
          refine (HP2.out _).mono ?_
          rintro e w' ⟨rfl, rfl⟩
          go_wp2_with fail
          refine (HD.out _).mono ?_
          rintro e w' ⟨rfl, rfl⟩
          go_wp2_with fail
          go_step3
          exact ⟨.inr (.inr ⟨rfl, HH⟩), Lib.hid ⟨0, rfl⟩, _, _, _, _, _, _, _, _, _, _, _, _, _, _, _, _, _, _, _, _, _, _, _, _, _, _, _, _, _, _, _, _, _, _, _, _, _, _, _, _, _, _, _, _, _, _, _, _, _, _, _, _, _, _, _, _, rfl⟩
      · have HP2 := Lib.hid (HP46.out false (decide_eq_false c46).symm)
        have HH : Hid (bt s T ≠ 35 ∧ ¬ (bt s T = 46 ∧ beg (bt s (T + 1)) = 3)) := ⟨c35, fun h => c46 h.1⟩
        clear c35 c46
        go_wp2_with fail
        refine (HP1.out _).mono ?_
        rintro e w' ⟨rfl, rfl⟩
        go_wp2_with fail
        refine (HP2.out _).mono ?_
        rintro e w' ⟨rfl, rfl⟩
        go_wp2_with fail
        go_step3
        exact ⟨.inr (.inr ⟨rfl, HH⟩), Lib.hid ⟨0, rfl⟩, _, _, _, _, _, _, _, _, _, _, _, _, _, _, _, _, _, _, _, _, _, _, _, _, _, _, _, _, _, _, _, _, _, _, _, _, _, _, _, _, _, _, _, _, _, _, _, _, _, _, _, _, _, _, _, _, rfl⟩
end Go.Proofs.YtajjhhodpohfpaaDoor
