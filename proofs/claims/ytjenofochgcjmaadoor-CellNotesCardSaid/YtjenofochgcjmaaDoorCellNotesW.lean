/-
  CellNotes, over the five calls.
-/
import Derived.Test.YtjenofochgcjmaaDoorCellIndentsW
namespace Go.Proofs.YtjenofochgcjmaaDoor
open Go.RowKit Go.PlainAid

theorem lnf_trim (s : ByteArray) : lnf (s.extract 0 (tr s 0 s.size)) (s.extract 0 (tr s 0 s.size)).size = 0 ↔ lnf s s.size = 0 := by
  obtain ⟨h1, -, h3, -⟩ := tr_spec s 0 s.size
  have hz : (s.extract 0 (tr s 0 s.size)).size = tr s 0 s.size := by rw [size_ext s 0 _ h1, Nat.sub_zero]
  rw [lnf_none, lnf_none, hz]
  constructor
  · intro h i hi
    by_cases hp : i < tr s 0 s.size
    · have := h i hp
      rw [bt_ext s 0 _ i h1 (by omega), Nat.zero_add] at this
      exact this
    · intro e
      have := h3 i (by omega) hi
      rw [e] at this
      exact absurd this (by decide)
  · intro h i hi
    rw [bt_ext s 0 _ i h1 (by omega), Nat.zero_add]
    exact h i (by omega)
theorem ntb_pct (s : ByteArray) : ntb (⟨#[37]⟩ ++ s.extract 0 (tr s 0 s.size)) = decide (lnf s s.size = 0) := by
  obtain ⟨h1, -, -, h4⟩ := tr_spec s 0 s.size
  obtain ⟨hz, -⟩ := tr_own s
  have hb : bt (⟨#[37]⟩ ++ s.extract 0 (tr s 0 s.size)) 0 = 37 := by
    rw [bt_app_l _ _ 0 (by decide)]; decide +kernel
  have hs : (⟨#[37]⟩ ++ s.extract 0 (tr s 0 s.size) : ByteArray).size = 1 + tr s 0 s.size := by rw [ByteArray.size_append, hz]; rfl
  have ht : tr (⟨#[37]⟩ ++ s.extract 0 (tr s 0 s.size)) 0 (⟨#[37]⟩ ++ s.extract 0 (tr s 0 s.size) : ByteArray).size = (⟨#[37]⟩ ++ s.extract 0 (tr s 0 s.size) : ByteArray).size := by
    refine tr_blank _ (Nat.le_refl _) (fun i h2 h3 => by omega) (.inr ?_)
    rw [hs]
    by_cases h0 : tr s 0 s.size = 0
    · rw [show 1 + tr s 0 s.size - 1 = 0 by omega, hb]; decide
    · rw [show 1 + tr s 0 s.size - 1 = (⟨#[37]⟩ : ByteArray).size + (tr s 0 s.size - 1) by show _ = 1 + _; omega, bt_app_r, bt_ext s 0 _ _ h1 (by omega), Nat.zero_add]
      exact h4 (by omega)
  have hl : lnf (⟨#[37]⟩ ++ s.extract 0 (tr s 0 s.size)) (⟨#[37]⟩ ++ s.extract 0 (tr s 0 s.size) : ByteArray).size = 0 ↔ lnf s s.size = 0 := by
    rw [← lnf_trim s, ByteArray.size_append, lnf_app_r]
    rw [show lnf ⟨#[37]⟩ (⟨#[37]⟩ : ByteArray).size = 0 by decide +kernel]
    split
    · rename_i h; exact ⟨fun _ => h, fun _ => rfl⟩
    · rename_i h; exact ⟨fun e => by exact absurd e (by show ¬ 1 + _ = 0; omega), fun e => absurd e h⟩
  unfold ntb
  have hl2 : decide (lnf (⟨#[37]⟩ ++ s.extract 0 (tr s 0 s.size)) (⟨#[37]⟩ ++ s.extract 0 (tr s 0 s.size) : ByteArray).size = 0) = decide (lnf s s.size = 0) := decide_eq_decide.2 hl
  rw [hl2, ht, hb, decide_eq_true (show 0 < (⟨#[37]⟩ ++ s.extract 0 (tr s 0 s.size) : ByteArray).size by rw [hs]; omega)]
  simp
set_option maxRecDepth 100000 in
set_option maxHeartbeats 4000000 in
theorem cellNotes_walk {TT : World → Prop} (C : CellI TT) (s : ByteArray) (w : World) (ht : TT w) :
    Calls Tryd.prog 6 #[.string s] w fun e w' => e = .returned (.bool true) ∧ Below w.heap.size w w' := by
  have H0 : Hid (Cq TT w w) := Lib.hid ⟨ht, Below.refl _ _⟩
  have HT : Hid (∀ W, Cq TT w W → Calls Tryd.prog 7 #[] W fun e w' => e = .returned (.bool true) ∧ Hid (Cq TT w w')) := Lib.hid (fun W h => (told12_any C W h.1).mono fun _ _ ⟨h1, h2⟩ => ⟨h1, Lib.hid (h.go C h2.out.2)⟩)
  by_cases h1 : 100 < s.size
  · have d1 : decide ((100 : Int) < (s.size : Int)) = true := decide_eq_true (by omega)
    clear ht
    go_enter Tryd.func6, Tryd.ntmps6
    go_wp2_with fail
    refine (HT.out _ H0.out).mono ?_
    rintro e w1 ⟨rfl, K1⟩
    go_wp2_with fail
    go_ret
    exact ⟨rfl, K1.out.2⟩
  have d1 : decide ((100 : Int) < (s.size : Int)) = false := decide_eq_false (by omega)
  obtain ⟨hp, -, -, -⟩ := tr_spec s 0 s.size
  obtain ⟨hz, hz2⟩ := tr_own s
  have hpc := ntb_pct s
  have hea := ext_all hp
  have P1 := Lib.hid (fun W (h : Cq TT w W) => C.t h s (by omega))
  have P2 := Lib.hid (fun W (h : Cq TT w W) => C.t h (s.extract 0 (tr s 0 s.size)) (by omega))
  rw [hz2] at P2
  have hown : (s.extract 0 (tr s 0 s.size)).extract 0 (tr s 0 s.size) = s.extract 0 (tr s 0 s.size) := by
    have := ext_self (s.extract 0 (tr s 0 s.size))
    rw [hz] at this
    exact this
  rw [hown] at P2
  have P3 := Lib.hid (fun W (h : Cq TT w W) => C.n h (⟨#[37]⟩ ++ s.extract 0 (tr s 0 s.size)) (by rw [ByteArray.size_append, hz]; show 1 + _ ≤ _; omega))
  rw [hpc] at P3
  have P4 := Lib.hid (fun W (h : Cq TT w W) => C.n h s (by omega))
  have hse : s.extract 0 (s.extract 0 (tr s 0 s.size)).size = s.extract 0 (tr s 0 s.size) := by rw [hz]
  have hle : (s.extract 0 (tr s 0 s.size)).size ≤ s.size := by omega
  obtain ⟨P, hP⟩ : ∃ P, P = tr s 0 s.size := ⟨_, rfl⟩
  have HN : Hid (ntb s = (decide (lnf s s.size = 0) && (decide (0 < s.size) && (decide (bt s 0 = 37) && decide (P = s.size))))) := Lib.hid (by rw [hP]; rfl)
  rw [← hP] at hse hle hea P1 P2 P3
  obtain ⟨T, hT⟩ : ∃ T, T = s.extract 0 P := ⟨_, rfl⟩
  rw [← hT] at hse hle hea P1 P2 P3
  obtain ⟨L, hL⟩ : ∃ L, L = decide (lnf s s.size = 0) := ⟨_, rfl⟩
  rw [← hL] at P3 HN
  have HL := Lib.hid hL
  have hle1 : decide ((T.size : Int) ≤ (s.size : Int)) = true := decide_eq_true (by omega)
  have hle2 : decide (T.size ≤ s.size) = true := decide_eq_true hle
  have HG := Lib.hid (get_bt s)
  have HEA := Lib.hid hea
  have HSE := Lib.hid hse
  clear ht hp hz hz2 hpc hown hP hT hL C hea hse
  go_enter Tryd.func6, Tryd.ntmps6
  go_wp2_with fail
  refine (P1.out _ H0.out).mono ?_
  rintro e w1 ⟨rfl, K1⟩
  clear P1
  go_wp2_with fail
  go_loopg [4, 5] s.size (fun gn b i wr => ∃ (q : Nat) (l : Bool), gn = s.size - q ∧ q ≤ s.size ∧ i = .int .i64 (q : Int) ∧ b = .bool l ∧ wr = w1 ∧ Hid (l = decide (lnf s q = 0)))
  case atStart => exact ⟨0, true, rfl, Nat.zero_le _, rfl, rfl, rfl, Lib.hid rfl⟩
  case round =>
    obtain ⟨q, l, hgn, hq, rfl, rfl, rfl, HLQ⟩ := hrel
    by_cases hlt : q < s.size
    · have gx := HG.out q hlt
      have qn : (q : Int) < (s.size : Int) := by omega
      cases l
      · have HF : Hid (false = decide (lnf s (q + 1) = 0)) := Lib.hid (by
          have h0 : lnf s q ≠ 0 := by simpa using HLQ.out.symm
          symm
          apply decide_eq_false
          simp only [lnf]
          split <;> omega)
        go_wp2_with fail
        go_roundg (s.size - (q + 1))
        case measure => omega
        case rel => exact ⟨q + 1, false, rfl, hlt, by go_num, rfl, rfl, HF⟩
      · obtain ⟨c, hc⟩ : ∃ c, c = bt s q := ⟨_, rfl⟩
        rw [← hc] at gx
        have h0 : lnf s q = 0 := by simpa using HLQ.out.symm
        have HF : Hid ((c != 10) = decide (lnf s (q + 1) = 0)) := Lib.hid (by
          by_cases h10 : c = 10
          · have h9 : lnf s (q + 1) = q + 1 := by simp only [lnf]; rw [if_pos (by rw [← hc]; exact h10)]
            rw [h9, h10]; simp
          · have h9 : lnf s (q + 1) = 0 := by simp only [lnf]; rw [if_neg (by rw [← hc]; exact h10)]; exact h0
            rw [h9]; simp [h10])
        clear hc h0
        go_wp2_with fail
        go_roundg (s.size - (q + 1))
        case measure => omega
        case rel => exact ⟨q + 1, (c != 10), rfl, hlt, by go_num, rfl, rfl, HF⟩
    · obtain rfl : q = s.size := by omega
      obtain rfl : l = L := by rw [HLQ.out, HL.out]
      have qn : ¬ ((s.size : Int) < (s.size : Int)) := by omega
      have hse := HSE.out
      cases l
      · have hn : ntb s = false := by rw [HN.out]; rfl
        rw [hn] at P4
        clear hn HN HL HLQ HEA
        go_wp2_with fail
        refine (HT.out _ K1.out).mono ?_
        rintro e w3 ⟨rfl, K3⟩
        go_wp2_with fail
        refine (P2.out _ K3.out).mono ?_
        rintro e w4 ⟨rfl, K4⟩
        go_wp2_with fail
        refine (P3.out _ K4.out).mono ?_
        rintro e w5 ⟨rfl, K5⟩
        go_wp2_with fail
        refine (P4.out _ K5.out).mono ?_
        rintro e w6 ⟨rfl, K6⟩
        go_wp2_with fail
        go_ret
        exact ⟨by simp, K6.out.2⟩
      · by_cases hs0 : s.size = 0
        · have hn : ntb s = false := by rw [HN.out, decide_eq_false (show ¬ 0 < s.size by omega)]; rfl
          rw [hn] at P4
          have hemp : s.toList.isEmpty = true := by
            rw [ba_list, show s.data.toList = [] from List.eq_nil_of_length_eq_zero (by simpa using hs0)]; rfl
          have hte : T = ⟨#[]⟩ := by
            apply ByteArray.ext
            exact Array.eq_empty_of_size_eq_zero (by have : T.data.size = T.size := rfl; omega)
          rw [hte] at P2 P3
          rw [show (⟨#[37]⟩ ++ ⟨#[]⟩ : ByteArray) = ⟨#[37]⟩ by decide +kernel] at P3
          clear hn HN HL HLQ HEA
          go_wp2_with fail
          refine (HT.out _ K1.out).mono ?_
          rintro e w3 ⟨rfl, K3⟩
          go_wp2_with fail
          refine (P2.out _ K3.out).mono ?_
          rintro e w4 ⟨rfl, K4⟩
          go_wp2_with fail
          refine (P3.out _ K4.out).mono ?_
          rintro e w5 ⟨rfl, K5⟩
          go_wp2_with fail
          refine (P4.out _ K5.out).mono ?_
          rintro e w6 ⟨rfl, K6⟩
          go_wp2_with fail
          go_ret
          exact ⟨by simp, K6.out.2⟩
        · have gx := HG.out 0 (by omega)
          have hne : s.toList.isEmpty = false := by
            rw [ba_list]
            cases h : s.data.toList with
            | nil => exact absurd (by simpa using congrArg List.length h) hs0
            | cons => rfl
          obtain ⟨c, hc⟩ : ∃ c, c = bt s 0 := ⟨_, rfl⟩
          rw [← hc] at gx HN
          cases h37 : (c == 37)
          · have hn : ntb s = false := by rw [HN.out, decide_eq_false (show ¬ c = 37 by simpa using h37)]; simp
            rw [hn] at P4
            clear hn HN HL HLQ HEA hc
            go_wp2_with fail
            refine (HT.out _ K1.out).mono ?_
            rintro e w3 ⟨rfl, K3⟩
            go_wp2_with fail
            refine (P2.out _ K3.out).mono ?_
            rintro e w4 ⟨rfl, K4⟩
            go_wp2_with fail
            refine (P3.out _ K4.out).mono ?_
            rintro e w5 ⟨rfl, K5⟩
            go_wp2_with fail
            refine (P4.out _ K5.out).mono ?_
            rintro e w6 ⟨rfl, K6⟩
            go_wp2_with fail
            go_ret
            exact ⟨by simp, K6.out.2⟩
          · have hn : ntb s = (T.toList == s.toList) := by rw [HN.out, HEA.out, decide_eq_true (show c = 37 by simpa using h37), decide_eq_true (show 0 < s.size by omega)]; simp
            rw [hn] at P4
            clear hn HN HL HLQ HEA hc
            go_wp2_with fail
            refine (HT.out _ K1.out).mono ?_
            rintro e w3 ⟨rfl, K3⟩
            go_wp2_with fail
            refine (P2.out _ K3.out).mono ?_
            rintro e w4 ⟨rfl, K4⟩
            go_wp2_with fail
            refine (P3.out _ K4.out).mono ?_
            rintro e w5 ⟨rfl, K5⟩
            go_wp2_with fail
            refine (P4.out _ K5.out).mono ?_
            rintro e w6 ⟨rfl, K6⟩
            go_wp2_with fail
            go_ret
            exact ⟨by simp, K6.out.2⟩
end Go.Proofs.YtjenofochgcjmaaDoor
