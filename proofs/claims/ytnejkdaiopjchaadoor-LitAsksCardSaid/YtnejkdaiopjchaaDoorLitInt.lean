/-
  The contract of package lit's Integer.
-/
import Derived.Test.YtnejkdaiopjchaaDoorLitCut
namespace Go.Proofs.YtnejkdaiopjchaaDoor
open Go.RowKit Go.PlainAid

/-- What an integer means, and what is told of what is none. -/
def igr (s : ByteArray) : Int × Int :=
  if ix s 35 0 < s.size then (if (nm s 10 (ix s 35 0) 0).2 = 0 ∧ ix s 35 0 ≤ 2 ∧ 2 ≤ (nm s 10 (ix s 35 0) 0).1 ∧ (nm s 10 (ix s 35 0) 0).1 ≤ 36 then nm s (nm s 10 (ix s 35 0) 0).1.toNat s.size (ix s 35 0 + 1) else (0, 8)) else nm s 10 s.size 0
theorem below_iter (w : World) (s : ByteArray) (p : Nat) : Below w.heap.size w (w.iter s p) := (Below.refl _ _).alloc (Nat.le_refl _) _
theorem number_b (s : ByteArray) (b : Nat) (hb : 2 ≤ b) (hb' : b ≤ 36) (w : World) :
    Calls Tryd.prog 24 #[.string s, .int .u64 b] w fun e w' => e = .returned (.tuple #[.int .u64 (nm s b s.size 0).1, .int .i64 (nm s b s.size 0).2]) ∧ Below w.heap.size w w' :=
  (number_any s b hb hb' w).mono fun _ _ ⟨h, p, hw⟩ => ⟨h, hw ▸ below_iter w s p⟩
theorem nm_bd (s : ByteArray) (b e k : Nat) : 0 ≤ (nm s b e k).1 ∧ (nm s b e k).1 < 18446744073709551616 ∧ 0 ≤ (nm s b e k).2 ∧ (nm s b e k).2 ≤ 8 := by
  unfold nm
  split
  · split <;> (simp only; omega)
  · simp only; omega
theorem pair_eq {a b : Int × Int} (h : a = b) : a.1 = b.1 ∧ a.2 = b.2 := by rw [h]; exact ⟨rfl, rfl⟩
/-- INTEGER. -/
theorem integer_any (s : ByteArray) (hs : s.size ≤ maxLen) (w : World) :
    Calls Tryd.prog 9 #[.string s] w fun e w' => e = .returned (.tuple #[.int .u64 (igr s).1, .int .i64 (igr s).2]) ∧ Below w.heap.size w w' := by
  have HC := Lib.hid (fun W => cut_35 s hs W)
  unfold maxLen at hs
  by_cases h : ix s 35 0 < s.size
  · rw [if_pos h] at HC
    obtain ⟨V, hV⟩ : ∃ V, V = (igr s).1 := ⟨_, rfl⟩
    obtain ⟨N, hN⟩ : ∃ N, N = (igr s).2 := ⟨_, rfl⟩
    rw [← hV, ← hN]
    have HI : Hid ((V, N) = igr s) := by rw [hV, hN]; rfl
    unfold igr at HI
    rw [if_pos h] at HI
    clear hV hN
    obtain ⟨p, hp⟩ : ∃ p, p = ix s 35 0 := ⟨_, rfl⟩
    rw [← hp] at h HC HI
    clear hp
    have hsz : (s.extract 0 p).size = p := by rw [size_ext s 0 p (by omega)]; omega
    have H1 := Lib.hid (fun W => number_b (s.extract 0 p) 10 (by omega) (by omega) W)
    rw [nm_ext s 10 0 p (by omega) (by omega)] at H1
    have b1 := nm_bd s 10 p 0
    obtain ⟨B, hB⟩ : ∃ B, B = (nm s 10 p 0).1 := ⟨_, rfl⟩
    obtain ⟨E, hE⟩ : ∃ E, E = (nm s 10 p 0).2 := ⟨_, rfl⟩
    rw [← hB, ← hE] at H1 HI b1
    clear hB hE
    obtain ⟨b0, b2, b3, b4⟩ := b1
    by_cases hE : E = 0
    · subst hE
      by_cases h2 : p ≤ 2
      · by_cases h3 : 2 ≤ B
        · by_cases h4 : B ≤ 36
          · have HF : Hid ((V, N) = nm s B.toNat s.size (p + 1)) := by have := HI.out; rw [if_pos ⟨rfl, h2, h3, h4⟩] at this; exact this
            have H2 := Lib.hid (fun W => number_b (s.extract (p + 1) s.size) B.toNat (by omega) (by omega) W)
            have eB : ((B.toNat : Nat) : Int) = B := Int.toNat_of_nonneg b0
            rw [nm_ext s B.toNat (p + 1) s.size (by omega) (by omega), ← HF.out, eB] at H2
            clear eB HI HF
            go_enter Tryd.func9, Tryd.ntmps9
            go_wp2_with fail
            refine (HC.out _).mono ?_
            rintro e w' ⟨rfl, n, rfl⟩
            go_wp2_with fail
            refine (H1.out _).mono ?_
            rintro e w1 ⟨rfl, hb1⟩
            have HB1 := Lib.hid hb1
            clear hb1
            go_wp2_with fail
            refine (H2.out _).mono ?_
            rintro e w2 ⟨rfl, hb2⟩
            have HB2 := Lib.hid hb2
            clear hb2
            go_wp2_with fail
            go_ret2
            exact ⟨rfl, ((Below.ofDrewN w _).trans HB1.out).trans (HB2.out.mono HB1.out.size)⟩
          · have HF : Hid ((V, N) = (0, 8)) := by have := HI.out; rw [if_neg (by omega)] at this; exact this
            have hz := Lib.hid (pair_eq HF.out)
            clear HI HF
            go_enter Tryd.func9, Tryd.ntmps9
            go_wp2_with fail
            refine (HC.out _).mono ?_
            rintro e w' ⟨rfl, n, rfl⟩
            go_wp2_with fail
            refine (H1.out _).mono ?_
            rintro e w1 ⟨rfl, hb1⟩
            have HB1 := Lib.hid hb1
            clear hb1
            go_wp2_with fail
            go_ret2
            exact ⟨ret2I hz.out.1.symm hz.out.2.symm, (Below.ofDrewN w _).trans HB1.out⟩
        · have HF : Hid ((V, N) = (0, 8)) := by have := HI.out; rw [if_neg (by omega)] at this; exact this
          have hz := Lib.hid (pair_eq HF.out)
          clear HI HF
          go_enter Tryd.func9, Tryd.ntmps9
          go_wp2_with fail
          refine (HC.out _).mono ?_
          rintro e w' ⟨rfl, n, rfl⟩
          go_wp2_with fail
          refine (H1.out _).mono ?_
          rintro e w1 ⟨rfl, hb1⟩
          have HB1 := Lib.hid hb1
          clear hb1
          go_wp2_with fail
          go_ret2
          exact ⟨ret2I hz.out.1.symm hz.out.2.symm, (Below.ofDrewN w _).trans HB1.out⟩
      · have HF : Hid ((V, N) = (0, 8)) := by have := HI.out; rw [if_neg (by omega)] at this; exact this
        have hz := Lib.hid (pair_eq HF.out)
        clear HI HF
        go_enter Tryd.func9, Tryd.ntmps9
        go_wp2_with fail
        refine (HC.out _).mono ?_
        rintro e w' ⟨rfl, n, rfl⟩
        go_wp2_with fail
        refine (H1.out _).mono ?_
        rintro e w1 ⟨rfl, hb1⟩
        have HB1 := Lib.hid hb1
        clear hb1
        go_wp2_with fail
        go_ret2
        exact ⟨ret2I hz.out.1.symm hz.out.2.symm, (Below.ofDrewN w _).trans HB1.out⟩
    · have gE : (E != 0) = true := by simpa using hE
      have HF : Hid ((V, N) = (0, 8)) := by have := HI.out; rw [if_neg (by omega)] at this; exact this
      have hz := Lib.hid (pair_eq HF.out)
      clear HI HF hE
      go_enter Tryd.func9, Tryd.ntmps9
      go_wp2_with fail
      refine (HC.out _).mono ?_
      rintro e w' ⟨rfl, n, rfl⟩
      go_wp2_with fail
      refine (H1.out _).mono ?_
      rintro e w1 ⟨rfl, hb1⟩
      have HB1 := Lib.hid hb1
      clear hb1
      go_wp2_with fail
      go_ret2
      exact ⟨ret2I hz.out.1.symm hz.out.2.symm, (Below.ofDrewN w _).trans HB1.out⟩
  · rw [if_neg h] at HC
    have e : igr s = nm s 10 s.size 0 := by unfold igr; rw [if_neg h]
    have H1 := Lib.hid (fun W => number_b s 10 (by omega) (by omega) W)
    rw [← e] at H1
    clear e h
    obtain ⟨V, hV⟩ : ∃ V, V = (igr s).1 := ⟨_, rfl⟩
    obtain ⟨N, hN⟩ : ∃ N, N = (igr s).2 := ⟨_, rfl⟩
    rw [← hV, ← hN] at H1 ⊢
    clear hV hN
    go_enter Tryd.func9, Tryd.ntmps9
    go_wp2_with fail
    refine (HC.out _).mono ?_
    rintro e w' ⟨rfl, n, rfl⟩
    go_wp2_with fail
    refine (H1.out _).mono ?_
    rintro e w1 ⟨rfl, hb1⟩
    have HB1 := Lib.hid hb1
    clear hb1
    go_wp2_with fail
    go_ret2
    exact ⟨rfl, (Below.ofDrewN w _).trans HB1.out⟩
end Go.Proofs.YtnejkdaiopjchaaDoor
