/-
  Package lit's Integer, and Cut, HasPrefix.
-/
import Derived.Test.YtajjhhodpohfpaaDoorLitNum
import Derived.Test.YtajjhhodpohfpaaDoorUtfs
import Derived.Lib.Bytealg
/- The contracts of what package lit asks of package strings: Cut at one byte, HasPrefix, CutPrefix. -/
namespace Go.Proofs.YtajjhhodpohfpaaDoor
open Go.RowKit Go.PlainAid

theorem ix_list (s : ByteArray) (c : UInt8) : ∀ m k : Nat, s.size - k ≤ m → k ≤ s.size → Lib.indexByte (s.data.toList.drop k) c = if ix s (c.toNat : Int) k < s.size then ((ix s (c.toNat : Int) k - k : Nat) : Int) else -1 := by
  intro m
  induction m with
  | zero =>
    intro k h hk
    have e : ix s (c.toNat : Int) k = s.size := by rw [ix, dif_neg (by omega)]
    rw [e, if_neg (by omega), List.drop_of_length_le (by rw [Array.length_toList]; show s.size ≤ k; omega)]
    rfl
  | succ m ih =>
    intro k h hk
    by_cases hlt : k < s.size
    · have hl : k < s.data.toList.length := by rw [Array.length_toList]; exact hlt
      have gb := get_bt s k hlt
      have gl : s.data.toList[k] = s[k]'hlt := rfl
      rw [List.drop_eq_getElem_cons hl, gl]
      by_cases hc : s[k]'hlt = c
      · have e : ix s (c.toNat : Int) k = k := by rw [ix, dif_pos hlt, if_pos (by rw [← gb, hc])]
        rw [e, if_pos hlt, hc]
        simp [Lib.indexByte]
      · have hne : ¬ bt s k = (c.toNat : Int) := fun h => hc (UInt8.toNat_inj.1 (by omega))
        have e : ix s (c.toNat : Int) k = ix s (c.toNat : Int) (k + 1) := by rw [ix, dif_pos hlt, if_neg hne]
        obtain ⟨i1, i2, -, -⟩ := ix_spec s (c.toNat : Int) (s.size - (k + 1)) (k + 1) (Nat.le_refl _) hlt
        have := ih (k + 1) (by omega) hlt
        rw [e]
        by_cases hi : ix s (c.toNat : Int) (k + 1) < s.size
        · rw [if_pos hi] at this ⊢
          have hne1 : ((((ix s (c.toNat : Int) (k + 1) - (k + 1) : Nat) : Int)) == -1) = false := beq_false_of_ne (by omega)
          simp only [Lib.indexByte, beq_false_of_ne hc, this, hne1]
          simp only [Bool.false_eq_true, if_false]
          omega
        · rw [if_neg hi] at this ⊢
          simp [Lib.indexByte, hc, this]
    · have e : ix s (c.toNat : Int) k = s.size := by rw [ix, dif_neg (by omega)]
      rw [e, if_neg (by omega), List.drop_of_length_le (by rw [Array.length_toList]; show s.size ≤ k; omega)]
      rfl
/-- Where a byte stands first; -1: nowhere. -/
def ixr (s : ByteArray) (c : Int) : Int := if ix s c 0 < s.size then (ix s c 0 : Nat) else -1
theorem ixr_list (s : ByteArray) (c : UInt8) : Lib.indexByte s.data.toList c = ixr s (c.toNat : Int) := by
  have := ix_list s c s.size 0 (by omega) (by omega)
  rw [List.drop_zero] at this
  rw [this]
  rfl
theorem ixr_range (s : ByteArray) (c : Int) : -1 ≤ ixr s c ∧ ixr s c < s.size := by
  unfold ixr
  split <;> omega
set_option maxRecDepth 100000 in
theorem indexByte_any (s : ByteArray) (c : UInt8) (w : World) :
    Calls Tryd.prog 67 #[.string s, .int .u8 (c.toNat : Int)] w fun e w' => e = .returned (.int .i64 (ixr s (c.toNat : Int))) ∧ w = w' := by
  have hc : ((c.toNat : Int)).toNat.toUInt8 = c := by simp
  rw [← ixr_list]
  go_enter Tryd.func67, Tryd.ntmps67
  go_wp2
  rw [run_callFunc_extern Tryd.func82 (by kernel_rfl) (by kernel_rfl) (by kernel_rfl) (e := Extern.BytealgIndexByte.indexByte) (by kernel_rfl), Lib.run_indexByteString, hc]
  simp only [Result.andThen]
  rw [Oper.upon_value]
  go_wp2
  go_ret
  exact ⟨rfl, rfl⟩
theorem ixr_alone {s : ByteArray} {c : UInt8} (h : (([c] : List UInt8) == s.data.toList) = true) : ixr s (c.toNat : Int) = 0 := by
  rw [← ixr_list, ← eq_of_beq h]
  simp [Lib.indexByte]
set_option maxRecDepth 100000 in
theorem index_35 (s : ByteArray) (w : World) :
    Calls Tryd.prog 83 #[.string s, .string { data := #[35] }] w fun e w' => e = .returned (.int .i64 (ixr s 35)) ∧ w = w' := by
  have H := Lib.hid (fun W => indexByte_any s 35 W)
  have g0 : ((({ data := #[35] } : ByteArray)[0]'(by decide)).toNat : Int) = 35 := rfl
  have gc : (((35 : UInt8).toNat : Nat) : Int) = 35 := rfl
  rw [gc] at H
  have HA : Hid ((([35] : List UInt8) == s.toList) = true → ixr s 35 = 0) := fun h => ixr_alone (c := 35) (by rw [ByteArray.toList_eq] at h; exact h)
  obtain ⟨x, hx⟩ : ∃ x, x = ixr s 35 := ⟨_, rfl⟩
  rw [← hx] at H HA ⊢
  clear hx gc
  cases he : (([35] : List UInt8) == s.toList)
  · go_enter Tryd.func83, Tryd.ntmps83
    go_wp2_with fail
    refine (H.out _).mono ?_
    rintro e w' ⟨rfl, rfl⟩
    go_wp2_with fail
    go_ret
    exact ⟨rfl, rfl⟩
  · have HF := Lib.hid (HA.out he)
    go_enter Tryd.func83, Tryd.ntmps83
    go_wp2_with fail
    go_ret
    exact ⟨ret_int HF.out.symm, rfl⟩
set_option maxRecDepth 100000 in
/-- What Cut gives at this byte. -/
theorem lcut_35 (s : ByteArray) (hs : s.size ≤ maxLen) (w : World) :
    Calls Tryd.prog 68 #[.string s, .string { data := #[35] }] w fun e w' => e = .returned (if ix s 35 0 < s.size then .tuple #[.string (s.extract 0 (ix s 35 0)), .string (s.extract (ix s 35 0 + 1) s.size), .bool true] else .tuple #[.string s, .string { data := #[] }, .bool false]) ∧ ∃ n, w' = w.drewN n := by
  unfold maxLen at hs
  have H := Lib.hid (fun W => index_35 s W)
  by_cases h : ix s 35 0 < s.size
  · rw [if_pos h]
    have e : ixr s 35 = (ix s 35 0 : Nat) := by unfold ixr; rw [if_pos h]
    rw [e] at H
    obtain ⟨p, hp⟩ : ∃ p, p = ix s 35 0 := ⟨_, rfl⟩
    rw [← hp] at h H ⊢
    clear hp e
    go_enter Tryd.func68, Tryd.ntmps68
    go_wp2_with fail
    refine (H.out _).mono ?_
    rintro e w' ⟨rfl, rfl⟩
    go_wp2_with fail
    go_quiet (fail)
    go_wp2_with fail
    go_ret3
    exact ⟨rfl, _, rfl⟩
  · rw [if_neg h]
    have e : ixr s 35 = -1 := by unfold ixr; rw [if_neg h]
    rw [e] at H
    clear h e
    go_enter Tryd.func68, Tryd.ntmps68
    go_wp2_with fail
    refine (H.out _).mono ?_
    rintro e w' ⟨rfl, rfl⟩
    go_wp2_with fail
    go_ret3
    exact ⟨rfl, 0, rfl⟩
set_option maxRecDepth 100000 in
theorem cut_35 (s : ByteArray) (hs : s.size ≤ maxLen) (w : World) :
    Calls Tryd.prog 53 #[.string s, .string { data := #[35] }] w fun e w' => e = .returned (if ix s 35 0 < s.size then .tuple #[.string (s.extract 0 (ix s 35 0)), .string (s.extract (ix s 35 0 + 1) s.size), .bool true] else .tuple #[.string s, .string { data := #[] }, .bool false]) ∧ ∃ n, w' = w.drewN n := by
  have H := Lib.hid (fun W => lcut_35 s hs W)
  by_cases h : ix s 35 0 < s.size
  · rw [if_pos h] at H ⊢
    go_enter Tryd.func53, Tryd.ntmps53
    go_wp2_with fail
    refine (H.out _).mono ?_
    rintro e w' ⟨rfl, n, rfl⟩
    go_wp2_with fail
    go_ret3
    exact ⟨rfl, _, rfl⟩
  · rw [if_neg h] at H ⊢
    go_enter Tryd.func53, Tryd.ntmps53
    go_wp2_with fail
    refine (H.out _).mono ?_
    rintro e w' ⟨rfl, n, rfl⟩
    go_wp2_with fail
    go_ret3
    exact ⟨rfl, _, rfl⟩
set_option maxRecDepth 100000 in
theorem index_46 (s : ByteArray) (w : World) :
    Calls Tryd.prog 83 #[.string s, .string { data := #[46] }] w fun e w' => e = .returned (.int .i64 (ixr s 46)) ∧ w = w' := by
  have H := Lib.hid (fun W => indexByte_any s 46 W)
  have g0 : ((({ data := #[46] } : ByteArray)[0]'(by decide)).toNat : Int) = 46 := rfl
  have gc : (((46 : UInt8).toNat : Nat) : Int) = 46 := rfl
  rw [gc] at H
  have HA : Hid ((([46] : List UInt8) == s.toList) = true → ixr s 46 = 0) := fun h => ixr_alone (c := 46) (by rw [ByteArray.toList_eq] at h; exact h)
  obtain ⟨x, hx⟩ : ∃ x, x = ixr s 46 := ⟨_, rfl⟩
  rw [← hx] at H HA ⊢
  clear hx gc
  cases he : (([46] : List UInt8) == s.toList)
  · go_enter Tryd.func83, Tryd.ntmps83
    go_wp2_with fail
    refine (H.out _).mono ?_
    rintro e w' ⟨rfl, rfl⟩
    go_wp2_with fail
    go_ret
    exact ⟨rfl, rfl⟩
  · have HF := Lib.hid (HA.out he)
    go_enter Tryd.func83, Tryd.ntmps83
    go_wp2_with fail
    go_ret
    exact ⟨ret_int HF.out.symm, rfl⟩
set_option maxRecDepth 100000 in
/-- What Cut gives at this byte. -/
theorem lcut_46 (s : ByteArray) (hs : s.size ≤ maxLen) (w : World) :
    Calls Tryd.prog 68 #[.string s, .string { data := #[46] }] w fun e w' => e = .returned (if ix s 46 0 < s.size then .tuple #[.string (s.extract 0 (ix s 46 0)), .string (s.extract (ix s 46 0 + 1) s.size), .bool true] else .tuple #[.string s, .string { data := #[] }, .bool false]) ∧ ∃ n, w' = w.drewN n := by
  unfold maxLen at hs
  have H := Lib.hid (fun W => index_46 s W)
  by_cases h : ix s 46 0 < s.size
  · rw [if_pos h]
    have e : ixr s 46 = (ix s 46 0 : Nat) := by unfold ixr; rw [if_pos h]
    rw [e] at H
    obtain ⟨p, hp⟩ : ∃ p, p = ix s 46 0 := ⟨_, rfl⟩
    rw [← hp] at h H ⊢
    clear hp e
    go_enter Tryd.func68, Tryd.ntmps68
    go_wp2_with fail
    refine (H.out _).mono ?_
    rintro e w' ⟨rfl, rfl⟩
    go_wp2_with fail
    go_quiet (fail)
    go_wp2_with fail
    go_ret3
    exact ⟨rfl, _, rfl⟩
  · rw [if_neg h]
    have e : ixr s 46 = -1 := by unfold ixr; rw [if_neg h]
    rw [e] at H
    clear h e
    go_enter Tryd.func68, Tryd.ntmps68
    go_wp2_with fail
    refine (H.out _).mono ?_
    rintro e w' ⟨rfl, rfl⟩
    go_wp2_with fail
    go_ret3
    exact ⟨rfl, 0, rfl⟩
set_option maxRecDepth 100000 in
theorem cut_46 (s : ByteArray) (hs : s.size ≤ maxLen) (w : World) :
    Calls Tryd.prog 53 #[.string s, .string { data := #[46] }] w fun e w' => e = .returned (if ix s 46 0 < s.size then .tuple #[.string (s.extract 0 (ix s 46 0)), .string (s.extract (ix s 46 0 + 1) s.size), .bool true] else .tuple #[.string s, .string { data := #[] }, .bool false]) ∧ ∃ n, w' = w.drewN n := by
  have H := Lib.hid (fun W => lcut_46 s hs W)
  by_cases h : ix s 46 0 < s.size
  · rw [if_pos h] at H ⊢
    go_enter Tryd.func53, Tryd.ntmps53
    go_wp2_with fail
    refine (H.out _).mono ?_
    rintro e w' ⟨rfl, n, rfl⟩
    go_wp2_with fail
    go_ret3
    exact ⟨rfl, _, rfl⟩
  · rw [if_neg h] at H ⊢
    go_enter Tryd.func53, Tryd.ntmps53
    go_wp2_with fail
    refine (H.out _).mono ?_
    rintro e w' ⟨rfl, n, rfl⟩
    go_wp2_with fail
    go_ret3
    exact ⟨rfl, _, rfl⟩
end Go.Proofs.YtajjhhodpohfpaaDoor
/- The contract of package lit's Integer. -/
namespace Go.Proofs.YtajjhhodpohfpaaDoor
open Go.RowKit Go.PlainAid

/-- What an integer means, and what is told of what is none. -/
def igr (s : ByteArray) : Int × Int :=
  if ix s 35 0 < s.size then (if (nm s 10 (ix s 35 0) 0).2 = 0 ∧ ix s 35 0 ≤ 2 ∧ 2 ≤ (nm s 10 (ix s 35 0) 0).1 ∧ (nm s 10 (ix s 35 0) 0).1 ≤ 36 then nm s (nm s 10 (ix s 35 0) 0).1.toNat s.size (ix s 35 0 + 1) else (0, 8)) else nm s 10 s.size 0
theorem below_iter (w : World) (s : ByteArray) (p : Nat) : Below w.heap.size w (w.iter s p) := (Below.refl _ _).alloc (Nat.le_refl _) _
theorem number_b (s : ByteArray) (b : Nat) (hb : 2 ≤ b) (hb' : b ≤ 36) (w : World) :
    Calls Tryd.prog 77 #[.string s, .int .u64 b] w fun e w' => e = .returned (.tuple #[.int .u64 (nm s b s.size 0).1, .int .i64 (nm s b s.size 0).2]) ∧ Below w.heap.size w w' :=
  (number_any s b hb hb' w).mono fun _ _ ⟨h, p, hw⟩ => ⟨h, hw ▸ below_iter w s p⟩
theorem nm_bd (s : ByteArray) (b e k : Nat) : 0 ≤ (nm s b e k).1 ∧ (nm s b e k).1 < 18446744073709551616 ∧ 0 ≤ (nm s b e k).2 ∧ (nm s b e k).2 ≤ 8 := by
  unfold nm
  split
  · split <;> (simp only; omega)
  · simp only; omega
theorem pair_eq {a b : Int × Int} (h : a = b) : a.1 = b.1 ∧ a.2 = b.2 := by rw [h]; exact ⟨rfl, rfl⟩
/-- INTEGER. -/
theorem integer_any (s : ByteArray) (hs : s.size ≤ maxLen) (w : World) :
    Calls Tryd.prog 61 #[.string s] w fun e w' => e = .returned (.tuple #[.int .u64 (igr s).1, .int .i64 (igr s).2]) ∧ Below w.heap.size w w' := by
  have HC := Lib.hid (fun W => cut_35 s hs W)
  unfold maxLen at hs
  by_cases h : ix s 35 0 < s.size
  · rw [if_pos h] at HC
    obtain ⟨V, hV⟩ : ∃ V, V = (igr s).1 := ⟨_, rfl⟩
    obtain ⟨N, hN⟩ : ∃ N, N = (igr s).2 := ⟨_, rfl⟩
    rw [← hV, ← hN]
    have HI : Hid ((V, N) = igr s) := by rw [hV, hN]; rfl
    unfold igr at HI
    rw [if_pos h] at HI
    clear hV hN
    obtain ⟨p, hp⟩ : ∃ p, p = ix s 35 0 := ⟨_, rfl⟩
    rw [← hp] at h HC HI
    clear hp
    have hsz : (s.extract 0 p).size = p := by rw [size_ext s 0 p (by omega)]; omega
    have H1 := Lib.hid (fun W => number_b (s.extract 0 p) 10 (by omega) (by omega) W)
    rw [nm_ext s 10 0 p (by omega) (by omega)] at H1
    have b1 := nm_bd s 10 p 0
    obtain ⟨B, hB⟩ : ∃ B, B = (nm s 10 p 0).1 := ⟨_, rfl⟩
    obtain ⟨E, hE⟩ : ∃ E, E = (nm s 10 p 0).2 := ⟨_, rfl⟩
    rw [← hB, ← hE] at H1 HI b1
    clear hB hE
    obtain ⟨b0, b2, b3, b4⟩ := b1
    by_cases hE : E = 0
    · subst hE
      by_cases h2 : p ≤ 2
      · by_cases h3 : 2 ≤ B
        · by_cases h4 : B ≤ 36
          · have HF : Hid ((V, N) = nm s B.toNat s.size (p + 1)) := by have := HI.out; rw [if_pos ⟨rfl, h2, h3, h4⟩] at this; exact this
            have H2 := Lib.hid (fun W => number_b (s.extract (p + 1) s.size) B.toNat (by omega) (by omega) W)
            have eB : ((B.toNat : Nat) : Int) = B := Int.toNat_of_nonneg b0
            rw [nm_ext s B.toNat (p + 1) s.size (by omega) (by omega), ← HF.out, eB] at H2
            clear eB HI HF
            go_enter Tryd.func61, Tryd.ntmps61
            go_wp2_with fail
            refine (HC.out _).mono ?_
            rintro e w' ⟨rfl, n, rfl⟩
            go_wp2_with fail
            refine (H1.out _).mono ?_
            rintro e w1 ⟨rfl, hb1⟩
            have HB1 := Lib.hid hb1
            clear hb1
            go_wp2_with fail
            refine (H2.out _).mono ?_
            rintro e w2 ⟨rfl, hb2⟩
            have HB2 := Lib.hid hb2
            clear hb2
            go_wp2_with fail
            go_ret2
            exact ⟨rfl, ((Below.ofDrewN w _).trans HB1.out).trans (HB2.out.mono HB1.out.size)⟩
          · have HF : Hid ((V, N) = (0, 8)) := by have := HI.out; rw [if_neg (by omega)] at this; exact this
            have hz := Lib.hid (pair_eq HF.out)
            clear HI HF
            go_enter Tryd.func61, Tryd.ntmps61
            go_wp2_with fail
            refine (HC.out _).mono ?_
            rintro e w' ⟨rfl, n, rfl⟩
            go_wp2_with fail
            refine (H1.out _).mono ?_
            rintro e w1 ⟨rfl, hb1⟩
            have HB1 := Lib.hid hb1
            clear hb1
            go_wp2_with fail
            go_ret2
            exact ⟨ret2I hz.out.1.symm hz.out.2.symm, (Below.ofDrewN w _).trans HB1.out⟩
        · have HF : Hid ((V, N) = (0, 8)) := by have := HI.out; rw [if_neg (by omega)] at this; exact this
          have hz := Lib.hid (pair_eq HF.out)
          clear HI HF
          go_enter Tryd.func61, Tryd.ntmps61
          go_wp2_with fail
          refine (HC.out _).mono ?_
          rintro e w' ⟨rfl, n, rfl⟩
          go_wp2_with fail
          refine (H1.out _).mono ?_
          rintro e w1 ⟨rfl, hb1⟩
          have HB1 := Lib.hid hb1
          clear hb1
          go_wp2_with fail
          go_ret2
          exact ⟨ret2I hz.out.1.symm hz.out.2.symm, (Below.ofDrewN w _).trans HB1.out⟩
      · have HF : Hid ((V, N) = (0, 8)) := by have := HI.out; rw [if_neg (by omega)] at this; exact this
        have hz := Lib.hid (pair_eq HF.out)
        clear HI HF
        go_enter Tryd.func61, Tryd.ntmps61
        go_wp2_with fail
        refine (HC.out _).mono ?_
        rintro e w' ⟨rfl, n, rfl⟩
        go_wp2_with fail
        refine (H1.out _).mono ?_
        rintro e w1 ⟨rfl, hb1⟩
        have HB1 := Lib.hid hb1
        clear hb1
        go_wp2_with fail
        go_ret2
        exact ⟨ret2I hz.out.1.symm hz.out.2.symm, (Below.ofDrewN w _).trans HB1.out⟩
    · have gE : (E != 0) = true := by simpa using hE
      have HF : Hid ((V, N) = (0, 8)) := by have := HI.out; rw [if_neg (by omega)] at this; exact this
      have hz := Lib.hid (pair_eq HF.out)
      clear HI HF hE
      go_enter Tryd.func61, Tryd.ntmps61
      go_wp2_with fail
      refine (HC.out _).mono ?_
      rintro e w' ⟨rfl, n, rfl⟩
      go_wp2_with fail
      refine (H1.out _).mono ?_
      rintro e w1 ⟨rfl, hb1⟩
      have HB1 := Lib.hid hb1
      clear hb1
      go_wp2_with fail
      go_ret2
      exact ⟨ret2I hz.out.1.symm hz.out.2.symm, (Below.ofDrewN w _).trans HB1.out⟩
  · rw [if_neg h] at HC
    have e : igr s = nm s 10 s.size 0 := by unfold igr; rw [if_neg h]
    have H1 := Lib.hid (fun W => number_b s 10 (by omega) (by omega) W)
    rw [← e] at H1
    clear e h
    obtain ⟨V, hV⟩ : ∃ V, V = (igr s).1 := ⟨_, rfl⟩
    obtain ⟨N, hN⟩ : ∃ N, N = (igr s).2 := ⟨_, rfl⟩
    rw [← hV, ← hN] at H1 ⊢
    clear hV hN
    go_enter Tryd.func61, Tryd.ntmps61
    go_wp2_with fail
    refine (HC.out _).mono ?_
    rintro e w' ⟨rfl, n, rfl⟩
    go_wp2_with fail
    refine (H1.out _).mono ?_
    rintro e w1 ⟨rfl, hb1⟩
    have HB1 := Lib.hid hb1
    clear hb1
    go_wp2_with fail
    go_ret2
    exact ⟨rfl, (Below.ofDrewN w _).trans HB1.out⟩
end Go.Proofs.YtajjhhodpohfpaaDoor
