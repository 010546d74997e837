/-
  The program's own way to chars.
-/
import Derived.Test.YtajjhhodpohfpaaDoorScanWalkB
namespace Go.Proofs.YtajjhhodpohfpaaDoor
open Go.RowKit Go.PlainAid

theorem esc_two {s : ByteArray} {k : Nat} : ((esc s k).2 = 0 ∧ (esc s k).1 = -1) ∨ (0 < (esc s k).2 ∧ 0 ≤ (esc s k).1 ∧ k < s.size ∧ bt s k = 92) := by
  unfold esc
  by_cases h : k < s.size ∧ bt s k = 92
  · rw [if_pos h]
    cases hp : isPt (mnt s (k + 1)).1
    · rw [if_neg (by decide)]; exact .inl ⟨rfl, rfl⟩
    · rw [if_pos rfl]
      have h2 := of_decide_eq_true hp
      exact .inr ⟨by simp only; omega, by simp only; omega, h.1, h.2⟩
  · rw [if_neg h]; exact .inl ⟨rfl, rfl⟩
theorem che_esc {s : ByteArray} {k : Nat} (h : 0 < (esc s (k + 1)).2) : che s k = k + 1 + (esc s (k + 1)).2 := by
  rcases esc_two (s := s) (k := k + 1) with ⟨h1, -⟩ | ⟨-, h2, h3, h4⟩
  · omega
  · unfold che; rw [if_pos ⟨h3, h4⟩, if_pos h2]
theorem che_no {s : ByteArray} {k : Nat} (h : (esc s (k + 1)).2 = 0) (hn : nc s (k + 1) < 32 ∨ nc s (k + 1) = 127 ∨ nc s (k + 1) = 32 ∨ nc s (k + 1) = 92) : che s k = 0 := by
  rcases esc_two (s := s) (k := k + 1) with ⟨-, h2⟩ | ⟨h1, -⟩
  · unfold che
    by_cases h9 : k + 1 < s.size ∧ bt s (k + 1) = 92
    · rw [if_pos h9, if_neg (by omega)]
    · rw [if_neg h9, if_pos]
      have h92 : nc s (k + 1) ≠ 92 := fun e => h9 (by
        have hb := nc_small e (by omega) (by omega)
        exact ⟨lt_of_bt (by omega), hb⟩)
      omega
  · omega
theorem che_pt {s : ByteArray} {k : Nat} (hn : 32 < nc s (k + 1)) (h1 : nc s (k + 1) ≠ 127) (h9 : nc s (k + 1) ≠ 92) : che s k = k + 1 + nl s (k + 1) := by
  unfold che
  rw [if_neg, if_neg (by omega)]
  rintro ⟨g1, g2⟩
  have := (nc_ascii (s := s) (k := k + 1) g1 (by omega)).1
  omega
set_option maxRecDepth 100000 in
set_option maxHeartbeats 1000000 in
/-- char. -/
theorem charp_any (s : ByteArray) (k : Nat) (hk : k < s.size) (hs : s.size ≤ 1048576) (w : World) (ht : LTabs w) :
    Calls Tryd.prog 37 #[.string s, .int .i64 k] w fun e w' => e = .returned (.int .i64 (if che s k = 0 then k else che s k : Nat)) ∧ Below w.heap.size w w' := by
  have HE := fun W hW => escape_any s (k + 1) (by unfold maxLen; omega) W hW
  have e1 : ((k + 1 : Nat) : Int) = (k : Int) + 1 := by omega
  rw [e1] at HE
  have HE := Lib.hid HE
  have HT := Lib.hid ht
  have HU := Lib.hid (fun (c : Int) W => unseen_any c W)
  clear ht
  obtain ⟨V, hV⟩ : ∃ V : Nat, V = if che s k = 0 then k else che s k := ⟨_, rfl⟩
  rw [← hV]
  have hA := che_esc (s := s) (k := k)
  have hB := che_no (s := s) (k := k)
  have hz := esc_two (s := s) (k := k + 1)
  obtain ⟨v, hv⟩ : ∃ v, v = (esc s (k + 1)).1 := ⟨_, rfl⟩
  obtain ⟨n, hn⟩ : ∃ n, n = (esc s (k + 1)).2 := ⟨_, rfl⟩
  rw [← hv, ← hn] at HE hz
  rw [← hn] at hA hB
  have hbd := esc_bd s (k + 1)
  rw [← hn] at hbd
  have hn10 : n ≤ 10 := hbd.2.2
  clear hv hn hbd
  rcases hz with ⟨rfl, rfl⟩ | ⟨n0, v0, g1, g2⟩
  · obtain ⟨c, l, HN, hkl, hc⟩ := nx_at s (k + 1) (by omega) hs
    unfold NxAt at HN
    rw [e1] at HN
    have HN := Lib.hid HN
    have HUc := Lib.hid (fun W => HU.out c W)
    have hk1 : ((k : Int) + 1) ≤ (s.size : Int) := by omega
    rcases hc with ⟨hu, hc⟩ | ⟨hu, hcc, hll, hlt, hl1⟩
    · have HF : Hid (k = V) := Lib.hid (by rw [hV, hB rfl (by omega), if_pos rfl])
      rw [hu] at HUc
      clear hc hu hV hA hB
      go_enter Tryd.func37, Tryd.ntmps37
      go_wp2_with fail
      refine (HE.out _ HT.out).mono ?_
      rintro e w1 ⟨rfl, hb1⟩
      have HT1 : Hid (LTabs w1) := Lib.hid (HT.out.below hb1)
      have HB1 := Lib.hid hb1
      clear hb1
      go_wp2_with fail
      refine (HN.out _ HT1.out.1).mono ?_
      rintro e w' ⟨rfl, n1, rfl⟩
      go_wp2_with fail
      refine (HUc.out _).mono ?_
      rintro e w' ⟨rfl, rfl⟩
      go_wp2_with fail
      go_ret
      exact ⟨retN HF.out, HB1.out.trans ((drew_below _ _).mono HB1.out.size)⟩
    · rw [hu] at HUc
      obtain ⟨hu1, hu2⟩ := uns_f hu
      by_cases c32 : c = 32
      · have HF : Hid (k = V) := Lib.hid (by rw [hV, hB rfl (by omega), if_pos rfl])
        subst c32
        clear hu hV hA hB hcc hll hu1 hu2
        go_enter Tryd.func37, Tryd.ntmps37
        go_wp2_with fail
        refine (HE.out _ HT.out).mono ?_
        rintro e w1 ⟨rfl, hb1⟩
        have HT1 : Hid (LTabs w1) := Lib.hid (HT.out.below hb1)
        have HB1 := Lib.hid hb1
        clear hb1
        go_wp2_with fail
        refine (HN.out _ HT1.out.1).mono ?_
        rintro e w' ⟨rfl, n1, rfl⟩
        go_wp2_with fail
        refine (HUc.out _).mono ?_
        rintro e w' ⟨rfl, rfl⟩
        go_wp2_with fail
        go_ret
        exact ⟨retN HF.out, HB1.out.trans ((drew_below _ _).mono HB1.out.size)⟩
      · have c33 : (c == 32) = false := beq_false_of_ne c32
        by_cases c92 : c = 92
        · have HF : Hid (k = V) := Lib.hid (by rw [hV, hB rfl (by omega), if_pos rfl])
          subst c92
          clear hu hV hA hB hcc hll hu1 hu2
          go_enter Tryd.func37, Tryd.ntmps37
          go_wp2_with fail
          refine (HE.out _ HT.out).mono ?_
          rintro e w1 ⟨rfl, hb1⟩
          have HT1 : Hid (LTabs w1) := Lib.hid (HT.out.below hb1)
          have HB1 := Lib.hid hb1
          clear hb1
          go_wp2_with fail
          refine (HN.out _ HT1.out.1).mono ?_
          rintro e w' ⟨rfl, n1, rfl⟩
          go_wp2_with fail
          refine (HUc.out _).mono ?_
          rintro e w' ⟨rfl, rfl⟩
          go_wp2_with fail
          go_ret
          exact ⟨retN HF.out, HB1.out.trans ((drew_below _ _).mono HB1.out.size)⟩
        · have c93 : (c == 92) = false := beq_false_of_ne c92
          have HF : Hid (k + 1 + l = V) := Lib.hid (by
            rw [hV, che_pt (by omega) (by omega) (by omega), if_neg (by omega), hll])
          clear hu hV hA hB hcc hll hu1 hu2 c32 c92
          go_enter Tryd.func37, Tryd.ntmps37
          go_wp2_with fail
          refine (HE.out _ HT.out).mono ?_
          rintro e w1 ⟨rfl, hb1⟩
          have HT1 : Hid (LTabs w1) := Lib.hid (HT.out.below hb1)
          have HB1 := Lib.hid hb1
          clear hb1
          go_wp2_with fail
          refine (HN.out _ HT1.out.1).mono ?_
          rintro e w' ⟨rfl, n1, rfl⟩
          go_wp2_with fail
          refine (HUc.out _).mono ?_
          rintro e w' ⟨rfl, rfl⟩
          go_wp2_with fail
          go_ret
          exact ⟨retI (a := (k : Int) + 1 + l) (by have := HF.out; omega), HB1.out.trans ((drew_below _ _).mono HB1.out.size)⟩
  · have HF : Hid (k + 1 + n = V) := Lib.hid (by rw [hV, hA n0, if_neg (by omega)])
    have n1 : (0 : Int) < (n : Int) := by omega
    clear hV hA hB g2
    go_enter Tryd.func37, Tryd.ntmps37
    go_wp2_with fail
    refine (HE.out _ HT.out).mono ?_
    rintro e w1 ⟨rfl, hb1⟩
    have HB1 := Lib.hid hb1
    clear hb1
    go_wp2_with fail
    go_ret
    exact ⟨retI (a := (k : Int) + 1 + n) (by have := HF.out; omega), HB1.out⟩
end Go.Proofs.YtajjhhodpohfpaaDoor
