/-
  The contracts of package lit's meant and Escape.
-/
import Derived.Test.YtnejkdaiopjchaaDoorLitEsc
import Derived.Test.YtnejkdaiopjchaaDoorUtfEnc
namespace Go.Proofs.YtnejkdaiopjchaaDoor
open Go.RowKit Go.PlainAid

theorem mk_pair {p : Int × Nat} {a : Int} {b : Nat} (h : p = (a, b)) : p.1 = a ∧ p.2 = b := by rw [h]; exact ⟨rfl, rfl⟩
theorem next_of {s : ByteArray} (hp : 0 < s.size) (hs : s.size ≤ maxLen) {w : World} (ht : LTabs w) :
    Calls Tryd.prog 28 #[.string s, .int .i64 0] w fun e w' => e = .returned (.tuple #[.int .i64 (nc s 0), .int .i64 (nl s 0)]) ∧ ∃ n, w' = w.drewN n := next_in s 0 w ht.1 hp hs
/-- MEANT. -/
theorem meant_any (s : ByteArray) (hs : s.size ≤ maxLen) (w : World) (ht : LTabs w) :
    Calls Tryd.prog 30 #[.string s] w fun e w' => e = .returned (.tuple #[.int .i64 (mnt s 0).1, .int .i64 (mnt s 0).2]) ∧ Below w.heap.size w w' := by
  have HT := Lib.hid ht
  clear ht
  have H1 := Lib.hid (fun W => shifted3_b s 3 (by omega) hs W)
  have HP1 : Hid (∀ b, b = decide (bt s 0 = 120) → ∀ W, Calls Tryd.prog 27 #[.string s, .string { data := #[120] }] W fun e w' => e = .returned (.bool b) ∧ W = w') := fun b hb W => hp_is s 120 b (by decide) hs (by rw [hb]; rfl) W
  have HP2 : Hid (∀ b, b = decide (bt s 0 = 94) → ∀ W, Calls Tryd.prog 27 #[.string s, .string { data := #[94] }] W fun e w' => e = .returned (.bool b) ∧ W = w') := fun b hb W => hp_is s 94 b (by decide) hs (by rw [hb]; rfl) W
  have HX := Lib.hid (fun h0 W => hexa_any s hs h0 W)
  have HL := Lib.hid (fun W => control_any s W)
  have HN := Lib.hid (fun (hp : 0 < s.size) W (hT : LTabs W) => next_of hp hs hT)
  have HO := Lib.hid (fun (hp : s.size = 0) W => next_out s 0 W (.inr (by omega)))
  obtain ⟨V, hV⟩ : ∃ V, V = (mnt s 0).1 := ⟨_, rfl⟩
  obtain ⟨N, hN⟩ : ∃ N : Nat, N = (mnt s 0).2 := ⟨_, rfl⟩
  rw [← hV, ← hN]
  have HI : Hid (mnt s 0 = (V, N)) := by rw [hV, hN]; rfl
  clear hV hN
  unfold mnt at HI
  rw [Nat.zero_add] at HI
  obtain ⟨n, hn⟩ : ∃ n, n = rc s 8 3 0 := ⟨_, rfl⟩
  obtain ⟨v, hv⟩ : ∃ v, v = rv s 8 3 0 0 := ⟨_, rfl⟩
  rw [← hn] at HI H1
  rw [← hv] at HI H1
  clear hn hv
  unfold maxLen at hs
  by_cases hn0 : 0 < n
  · have HF : Hid (v = V ∧ n = N) := by have := HI.out; rw [if_pos hn0] at this; exact mk_pair this
    have g0 : (0 : Int) < (n : Int) := by omega
    clear HI hn0
    go_enter Tryd.func30, Tryd.ntmps30
    go_wp2_with fail
    refine (H1.out _).mono ?_
    rintro e w1 ⟨rfl, hb1⟩
    have HB1 := Lib.hid hb1
    clear hb1
    go_wp2_with fail
    go_ret2
    exact ⟨ret2I HF.out.1 (by rw [HF.out.2]), HB1.out⟩
  obtain rfl : n = 0 := by omega
  have HI2 := HI.out
  rw [if_neg hn0] at HI2
  clear HI hn0
  by_cases h1 : bt s 0 = 120
  · rw [if_pos h1] at HI2
    have HF := Lib.hid (mk_pair HI2)
    have HX1 := Lib.hid (HX.out h1)
    have HP1' := Lib.hid (HP1.out true (by rw [h1]; rfl))
    clear HI2 h1
    rw [HF.out.1, HF.out.2] at HX1
    go_enter Tryd.func30, Tryd.ntmps30
    go_wp2_with fail
    refine (H1.out _).mono ?_
    rintro e w1 ⟨rfl, hb1⟩
    have HB1 := Lib.hid hb1
    clear hb1
    go_wp2_with fail
    refine (HP1'.out _).mono ?_
    rintro e w' ⟨rfl, rfl⟩
    go_wp2_with fail
    refine (HX1.out _).mono ?_
    rintro e w2 ⟨rfl, hb2⟩
    have HB2 := Lib.hid hb2
    clear hb2
    go_wp2_with fail
    go_ret2
    exact ⟨rfl, HB1.out.trans (HB2.out.mono HB1.out.size)⟩
  rw [if_neg h1] at HI2
  have HP1' := Lib.hid (HP1.out false (by rw [decide_eq_false h1]))
  clear HP1 HX h1
  by_cases h2 : bt s 0 = 94
  · rw [if_pos h2] at HI2
    have HF := Lib.hid (mk_pair HI2)
    have HP2' := Lib.hid (HP2.out true (by rw [h2]; rfl))
    clear HI2 h2
    rw [HF.out.1, HF.out.2] at HL
    go_enter Tryd.func30, Tryd.ntmps30
    go_wp2_with fail
    refine (H1.out _).mono ?_
    rintro e w1 ⟨rfl, hb1⟩
    have HB1 := Lib.hid hb1
    clear hb1
    go_wp2_with fail
    refine (HP1'.out _).mono ?_
    rintro e w' ⟨rfl, rfl⟩
    go_wp2_with fail
    refine (HP2'.out _).mono ?_
    rintro e w' ⟨rfl, rfl⟩
    go_wp2_with fail
    refine (HL.out _).mono ?_
    rintro e w' ⟨rfl, rfl⟩
    go_wp2_with fail
    go_ret2
    exact ⟨rfl, HB1.out⟩
  rw [if_neg h2] at HI2
  have HP2' := Lib.hid (HP2.out false (by rw [decide_eq_false h2]))
  clear HP2 HL h2
  by_cases h3 : s.size = 0
  · rw [if_pos (.inl (by omega))] at HI2
    have HF := Lib.hid (mk_pair HI2)
    have HO' := Lib.hid (HO.out h3)
    clear HI2
    go_enter Tryd.func30, Tryd.ntmps30
    go_wp2_with fail
    refine (H1.out _).mono ?_
    rintro e w1 ⟨rfl, hb1⟩
    have HB1 := Lib.hid hb1
    clear hb1
    go_wp2_with fail
    refine (HP1'.out _).mono ?_
    rintro e w' ⟨rfl, rfl⟩
    go_wp2_with fail
    refine (HP2'.out _).mono ?_
    rintro e w' ⟨rfl, rfl⟩
    go_wp2_with fail
    refine (HO'.out _).mono ?_
    rintro e w' ⟨rfl, m, rfl⟩
    go_wp2_with fail
    go_ret2
    exact ⟨ret2I HF.out.1 (by rw [← HF.out.2]; rfl), HB1.out.trans ((Below.ofDrewN _ _).mono HB1.out.size)⟩
  have hp : 0 < s.size := by omega
  have HN' := Lib.hid (HN.out hp)
  clear HO HN h3
  obtain ⟨c, hc⟩ : ∃ c, c = nc s 0 := ⟨_, rfl⟩
  obtain ⟨l, hl⟩ : ∃ l, l = nl s 0 := ⟨_, rfl⟩
  rw [← hc] at HI2 HN'
  rw [← hl] at HI2 HN'
  clear hc hl
  by_cases h4 : c < 32
  · rw [if_pos (.inr h4)] at HI2
    have HF := Lib.hid (mk_pair HI2)
    clear HI2
    go_enter Tryd.func30, Tryd.ntmps30
    go_wp2_with fail
    refine (H1.out _).mono ?_
    rintro e w1 ⟨rfl, hb1⟩
    have HB1 := Lib.hid hb1
    clear hb1
    go_wp2_with fail
    refine (HP1'.out _).mono ?_
    rintro e w' ⟨rfl, rfl⟩
    go_wp2_with fail
    refine (HP2'.out _).mono ?_
    rintro e w' ⟨rfl, rfl⟩
    go_wp2_with fail
    refine (HN'.out _ (HT.out.below HB1.out)).mono ?_
    rintro e w' ⟨rfl, m, rfl⟩
    go_wp2_with fail
    go_ret2
    exact ⟨ret2I HF.out.1 (by rw [← HF.out.2]; rfl), HB1.out.trans ((Below.ofDrewN _ _).mono HB1.out.size)⟩
  rw [if_neg (by omega)] at HI2
  have gb := get_bt s 0 hp
  have b0 := bt_nonneg s 0
  have b1 := bt_le s 0
  have HG := Lib.hid (fun W => begins_any (bt s 0) W)
  obtain ⟨x, hx⟩ : ∃ x, x = bt s 0 := ⟨_, rfl⟩
  rw [← hx] at gb b0 b1 HG HI2
  clear hx
  by_cases h5 : 97 ≤ x ∧ x ≤ 122
  · have e : beg x = 1 := by unfold beg; rw [if_pos h5]
    rw [e] at HG
    have HC : Hid (∀ W, LTabs W → W.cell? ⟨2, (x - 97).toNat, none⟩ = some (.int .i64 (ltr x))) := fun W hT => by
      have := hT.2 (x - 97).toNat (by omega)
      rw [this]
      congr 3
      omega
    have hw : IntKind.u8.wrap (x - 97) = x - 97 := by rw [IntKind.wrap_u8]; omega
    obtain ⟨y, hy⟩ : ∃ y, y = ltr x := ⟨_, rfl⟩
    rw [← hy] at HC HI2
    obtain ⟨h6, h7⟩ := h5
    clear hy e
    by_cases h8 : y = 0
    · subst h8
      rw [if_neg (fun h => h.2 rfl)] at HI2
      have HF := Lib.hid (mk_pair HI2)
      clear HI2
      go_enter Tryd.func30, Tryd.ntmps30
      go_wp2_with fail
      refine (H1.out _).mono ?_
      rintro e w1 ⟨rfl, hb1⟩
      have HB1 := Lib.hid hb1
      clear hb1
      go_wp2_with fail
      refine (HP1'.out _).mono ?_
      rintro e w' ⟨rfl, rfl⟩
      go_wp2_with fail
      refine (HP2'.out _).mono ?_
      rintro e w' ⟨rfl, rfl⟩
      go_wp2_with fail
      refine (HN'.out _ (HT.out.below HB1.out)).mono ?_
      rintro e w' ⟨rfl, m, rfl⟩
      have hcell := HC.out w1 (HT.out.below HB1.out)
      go_wp2_with fail
      refine (HG.out _).mono ?_
      rintro e w' ⟨rfl, rfl⟩
      go_wp2_with fail
      go_ret2
      exact ⟨ret2I HF.out.1 (by rw [← HF.out.2]), HB1.out.trans ((Below.ofDrewN _ _).mono HB1.out.size)⟩
    · rw [if_pos ⟨⟨h6, h7⟩, h8⟩] at HI2
      have HF := Lib.hid (mk_pair HI2)
      have g8 : (y != 0) = true := by simpa using h8
      clear HI2 h8
      go_enter Tryd.func30, Tryd.ntmps30
      go_wp2_with fail
      refine (H1.out _).mono ?_
      rintro e w1 ⟨rfl, hb1⟩
      have HB1 := Lib.hid hb1
      clear hb1
      go_wp2_with fail
      refine (HP1'.out _).mono ?_
      rintro e w' ⟨rfl, rfl⟩
      go_wp2_with fail
      refine (HP2'.out _).mono ?_
      rintro e w' ⟨rfl, rfl⟩
      go_wp2_with fail
      refine (HN'.out _ (HT.out.below HB1.out)).mono ?_
      rintro e w' ⟨rfl, m, rfl⟩
      have hcell := HC.out w1 (HT.out.below HB1.out)
      go_wp2_with fail
      refine (HG.out _).mono ?_
      rintro e w' ⟨rfl, rfl⟩
      go_wp2_with fail
      go_ret2
      exact ⟨ret2I HF.out.1 (by rw [← HF.out.2]), HB1.out.trans ((Below.ofDrewN _ _).mono HB1.out.size)⟩
  · rw [if_neg (fun h => h5 h.1)] at HI2
    have HF := Lib.hid (mk_pair HI2)
    have e := beg_ne h5
    obtain ⟨y, hy⟩ : ∃ y, y = beg x := ⟨_, rfl⟩
    rw [← hy] at e HG
    have g9 : (y == 1) = false := beq_false_of_ne e
    clear HI2 h5 e hy
    go_enter Tryd.func30, Tryd.ntmps30
    go_wp2_with fail
    refine (H1.out _).mono ?_
    rintro e w1 ⟨rfl, hb1⟩
    have HB1 := Lib.hid hb1
    clear hb1
    go_wp2_with fail
    refine (HP1'.out _).mono ?_
    rintro e w' ⟨rfl, rfl⟩
    go_wp2_with fail
    refine (HP2'.out _).mono ?_
    rintro e w' ⟨rfl, rfl⟩
    go_wp2_with fail
    refine (HN'.out _ (HT.out.below HB1.out)).mono ?_
    rintro e w' ⟨rfl, m, rfl⟩
    go_wp2_with fail
    refine (HG.out _).mono ?_
    rintro e w' ⟨rfl, rfl⟩
    go_wp2_with fail
    go_ret2
    exact ⟨ret2I HF.out.1 (by rw [← HF.out.2]), HB1.out.trans ((Below.ofDrewN _ _).mono HB1.out.size)⟩
theorem pu_size (c : Int) : ((pu c).toList == []) = !isPt c := by
  unfold pu
  cases h : isPt c
  · rw [if_neg (by decide), ByteArray.toList_eq]; rfl
  · rw [if_pos rfl]
    have h1 := (reads_enc h).1
    have h2 := lenOf_pos c
    exact ne_empty (by omega)
/-- ESCAPE. -/
theorem escape_any (s : ByteArray) (k : Nat) (hs : s.size ≤ maxLen) (w : World) (ht : LTabs w) :
    Calls Tryd.prog 13 #[.string s, .int .i64 k] w fun e w' => e = .returned (.tuple #[.int .i64 (esc s k).1, .int .i64 (esc s k).2]) ∧ Below w.heap.size w w' := by
  have HT := Lib.hid ht
  clear ht
  have gb := get_bt s
  by_cases h1 : k < s.size
  · have hz : (s.extract (k + 1) s.size).size = s.size - (k + 1) := size_ext s (k + 1) s.size (Nat.le_refl _)
    have HM := Lib.hid (fun W hT => meant_any (s.extract (k + 1) s.size) (by omega) W hT)
    rw [mnt_tail s (k + 1) 0 (by omega), Nat.add_zero] at HM
    by_cases h2 : bt s k = 92
    · have mb := mnt_bd s (k + 1)
      have HU := Lib.hid (fun W (hT : LTabs W) => put_any (mnt s (k + 1)).1 W hT.1)
      have HZ := pu_size (mnt s (k + 1)).1
      have he : esc s k = if isPt (mnt s (k + 1)).1 = true then ((mnt s (k + 1)).1, 1 + (mnt s (k + 1)).2) else (-1, 0) := by unfold esc; rw [if_pos ⟨h1, h2⟩]
      rw [he]
      clear he
      obtain ⟨v, hv⟩ : ∃ v, v = (mnt s (k + 1)).1 := ⟨_, rfl⟩
      obtain ⟨n, hn⟩ : ∃ n, n = (mnt s (k + 1)).2 := ⟨_, rfl⟩
      rw [← hv, ← hn] at HM mb
      rw [← hv] at HU HZ
      rw [← hv, ← hn]
      obtain ⟨U, hU⟩ : ∃ U, U = pu v := ⟨_, rfl⟩
      rw [← hU] at HU HZ
      have gk := gb k h1
      rw [h2] at gk
      clear hv hn hU gb h2
      unfold maxLen at hs
      cases hp : isPt v
      · rw [hp] at HZ
        simp only [Bool.not_false] at HZ
        go_enter Tryd.func13, Tryd.ntmps13
        go_wp2_with fail
        refine (HM.out _ HT.out).mono ?_
        rintro e w1 ⟨rfl, hb1⟩
        have HB1 := Lib.hid hb1
        clear hb1
        go_wp2_with fail
        refine (HU.out _ (HT.out.below HB1.out)).mono ?_
        rintro e w2 ⟨rfl, hb2⟩
        have HB2 := Lib.hid hb2
        clear hb2
        go_wp2_with fail
        go_ret2
        exact ⟨rfl, HB1.out.trans (HB2.out.mono HB1.out.size)⟩
      · rw [hp] at HZ
        simp only [Bool.not_true] at HZ
        go_enter Tryd.func13, Tryd.ntmps13
        go_wp2_with fail
        refine (HM.out _ HT.out).mono ?_
        rintro e w1 ⟨rfl, hb1⟩
        have HB1 := Lib.hid hb1
        clear hb1
        go_wp2_with fail
        refine (HU.out _ (HT.out.below HB1.out)).mono ?_
        rintro e w2 ⟨rfl, hb2⟩
        have HB2 := Lib.hid hb2
        clear hb2
        go_wp2_with fail
        go_ret2
        exact ⟨by simp, HB1.out.trans (HB2.out.mono HB1.out.size)⟩
    · have he : esc s k = (-1, 0) := by unfold esc; rw [if_neg (fun h => h2 h.2)]
      rw [he]
      have gk := gb k h1
      have g2 : (bt s k != 92) = true := by simpa using h2
      unfold maxLen at hs
      obtain ⟨x, hx⟩ : ∃ x, x = bt s k := ⟨_, rfl⟩
      rw [← hx] at gk g2
      clear gb h2 hx HM he
      go_enter Tryd.func13, Tryd.ntmps13
      go_wp2_with fail
      go_ret2
      exact ⟨rfl, Below.refl _ _⟩
  · have he : esc s k = (-1, 0) := by unfold esc; rw [if_neg (fun h => h1 h.1)]
    rw [he]
    have g1 : (s.size : Int) ≤ (k : Int) := by omega
    clear gb he
    go_enter Tryd.func13, Tryd.ntmps13
    go_wp2_with fail
    go_ret2
    exact ⟨rfl, Below.refl _ _⟩
theorem escape_out (s : ByteArray) (i : Int) (w : World) (h : i < 0) :
    Calls Tryd.prog 13 #[.string s, .int .i64 i] w fun e w' => e = .returned (.tuple #[.int .i64 (-1), .int .i64 0]) ∧ Below w.heap.size w w' := by
  go_enter Tryd.func13, Tryd.ntmps13
  go_wp2_with fail
  go_ret2
  exact ⟨rfl, Below.refl _ _⟩
end Go.Proofs.YtnejkdaiopjchaaDoor
