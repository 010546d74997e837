/-
  The document's own answers for package word (galleyref1's Letter, Digit, Inner, Begins, Reserved, Plain) are the same.
-/
import Derived.Test.YtaaijenbcfjdlaaWordWalks
import Derived.Test.YtaaijenbcfjdlaaAid
namespace Go.Proofs.Ytaaijenbcfjdlaa
open Go.RowKit Go.PlainAid

/-- The letters and digits of ASCII. -/
def letB (c : Int) : Bool := decide (97 ≤ c) && decide (c ≤ 122) || decide (65 ≤ c) && decide (c ≤ 90)
def digB (c : Int) : Bool := decide (48 ≤ c) && decide (c ≤ 57)
theorem digit_any (c : Int) (w : World) : Calls Try.prog 38 #[.int .u8 c] w fun e w' => e = .returned (.bool (digB c)) ∧ w = w' := by
  unfold digB
  cases h1 : decide (48 ≤ c)
  · go_enter Try.func38, Try.ntmps38
    go_wp2
    go_ret
    exact ⟨rfl, rfl⟩
  · have h1' := of_decide_eq_true h1
    clear h1
    go_enter Try.func38, Try.ntmps38
    go_wp2
    go_ret
    exact ⟨rfl, rfl⟩
theorem letter_any (c : Int) (w : World) : Calls Try.prog 30 #[.int .u8 c] w fun e w' => e = .returned (.bool (letB c)) ∧ w = w' := by
  unfold letB
  by_cases h1 : 97 ≤ c
  · by_cases h2 : c ≤ 122
    · go_enter Try.func30, Try.ntmps30
      go_wp2
      go_ret
      exact ⟨by rw [decide_eq_true h1, decide_eq_true h2]; rfl, rfl⟩
    · have g2 : decide (c ≤ 122) = false := decide_eq_false h2
      have h3 : 65 ≤ c := by omega
      have g4 : decide (c ≤ 90) = false := by simp; omega
      go_enter Try.func30, Try.ntmps30
      go_wp2
      go_ret
      exact ⟨rfl, rfl⟩
  · have g1 : decide (97 ≤ c) = false := decide_eq_false h1
    by_cases h3 : 65 ≤ c
    · go_enter Try.func30, Try.ntmps30
      go_wp2
      go_ret
      exact ⟨rfl, rfl⟩
    · have g3 : decide (65 ≤ c) = false := decide_eq_false h3
      go_enter Try.func30, Try.ntmps30
      go_wp2
      go_ret
      exact ⟨rfl, rfl⟩
theorem inn_ref (c : Int) : inn c = (letB c || digB c || c == 95 || c == 64) := by
  unfold inn beg letB digB
  split
  · rename_i h; simp [h.1, h.2]
  · rename_i h
    split
    · rename_i h1
      rcases h1 with ⟨h1, h2⟩ | h1
      · simp [h1, h2]
      · subst h1; rfl
    · rename_i h1
      split
      · rename_i h2; simp [h2.1, h2.2]
      · rename_i h2
        have a1 : (decide (97 ≤ c) && decide (c ≤ 122)) = false := by rw [← Bool.decide_and]; exact decide_eq_false h
        have a2 : (decide (65 ≤ c) && decide (c ≤ 90)) = false := by rw [← Bool.decide_and]; exact decide_eq_false fun h => h1 (.inl h)
        have a3 : (decide (48 ≤ c) && decide (c ≤ 57)) = false := by rw [← Bool.decide_and]; exact decide_eq_false h2
        have a4 : (c == 95) = false := beq_false_of_ne fun h => h1 (.inr h)
        rw [a1, a2, a3, a4]; rfl
theorem rinner_any (c : Int) (w : World) : Calls Try.prog 41 #[.int .u8 c] w fun e w' => e = .returned (.bool (inn c)) ∧ w = w' := by
  have HL := Lib.hid (fun W => letter_any c W)
  have HD := Lib.hid (fun W => digit_any c W)
  rw [inn_ref]
  obtain ⟨l, hl⟩ : ∃ l, l = letB c := ⟨_, rfl⟩
  obtain ⟨d, hd⟩ : ∃ d, d = digB c := ⟨_, rfl⟩
  rw [← hl] at HL ⊢
  rw [← hd] at HD ⊢
  clear hl hd
  go_enter Try.func41, Try.ntmps41
  go_wp2_with fail
  refine (HL.out _).mono ?_
  rintro e w' ⟨rfl, rfl⟩
  cases l
  · go_wp2_with fail
    refine (HD.out _).mono ?_
    rintro e w' ⟨rfl, rfl⟩
    cases d
    · by_cases h : c = 95
      · have g : (c == 95) = true := by rw [h]; rfl
        clear h
        go_wp2
        go_ret
        exact ⟨by rw [g]; rfl, rfl⟩
      · have g : (c == 95) = false := beq_false_of_ne h
        clear h
        go_wp2
        go_ret
        exact ⟨by rw [g]; rfl, rfl⟩
    · go_wp2
      go_ret
      exact ⟨rfl, rfl⟩
  · go_wp2
    go_ret
    exact ⟨rfl, rfl⟩
theorem rbegins_any (c : Int) (w : World) : Calls Try.prog 24 #[.int .u8 c] w fun e w' => e = .returned (.int .i64 (beg c)) ∧ w = w' := by
  have HD := Lib.hid (fun W => digit_any c W)
  by_cases h1 : 97 ≤ c
  · by_cases h2 : c ≤ 122
    · have e : beg c = 1 := by unfold beg; rw [if_pos ⟨h1, h2⟩]
      rw [e]
      go_enter Try.func24, Try.ntmps24
      go_wp2
      go_ret
      exact ⟨rfl, rfl⟩
    · have e : beg c = 0 := by unfold beg; rw [if_neg (by omega), if_neg (by omega), if_neg (by omega)]
      rw [e]
      have g2 : decide (c ≤ 122) = false := by simp; omega
      have g3 : 65 ≤ c := by omega
      have g4 : decide (c ≤ 90) = false := by simp; omega
      have g5 : (c == 95) = false := beq_false_of_ne (by omega)
      have g7 : digB c = false := by unfold digB; rw [decide_eq_false (show ¬ c ≤ 57 by omega)]; simp
      rw [g7] at HD
      go_enter Try.func24, Try.ntmps24
      go_wp2_with fail
      refine (HD.out _).mono ?_
      rintro e w' ⟨rfl, rfl⟩
      go_wp2
      go_ret
      exact ⟨rfl, rfl⟩
  have g1 : decide (97 ≤ c) = false := by simp; omega
  by_cases h3 : 65 ≤ c
  · by_cases h4 : c ≤ 90
    · have e : beg c = 2 := by unfold beg; rw [if_neg (by omega), if_pos (by omega)]
      rw [e]
      go_enter Try.func24, Try.ntmps24
      go_wp2
      go_ret
      exact ⟨rfl, rfl⟩
    · have g4 : decide (c ≤ 90) = false := by simp; omega
      by_cases h5 : c = 95
      · have e : beg c = 2 := by unfold beg; rw [if_neg (by omega), if_pos (by omega)]
        rw [e]
        have g5 : (c == 95) = true := by rw [h5]; rfl
        clear h5
        go_enter Try.func24, Try.ntmps24
        go_wp2
        go_ret
        exact ⟨rfl, rfl⟩
      · have e : beg c = 0 := by unfold beg; rw [if_neg (by omega), if_neg (by omega), if_neg (by omega)]
        rw [e]
        have g5 : (c == 95) = false := beq_false_of_ne h5
        have g7 : digB c = false := by unfold digB; rw [decide_eq_false (show ¬ c ≤ 57 by omega)]; simp
        rw [g7] at HD
        go_enter Try.func24, Try.ntmps24
        go_wp2_with fail
        refine (HD.out _).mono ?_
        rintro e w' ⟨rfl, rfl⟩
        go_wp2
        go_ret
        exact ⟨rfl, rfl⟩
  have g3 : decide (65 ≤ c) = false := by simp; omega
  have g5 : (c == 95) = false := beq_false_of_ne (by omega)
  by_cases h6 : 48 ≤ c ∧ c ≤ 57
  · have e : beg c = 3 := by unfold beg; rw [if_neg (by omega), if_neg (by omega), if_pos (by omega)]
    rw [e]
    have g7 : digB c = true := by unfold digB; rw [decide_eq_true h6.1, decide_eq_true h6.2]; rfl
    rw [g7] at HD
    go_enter Try.func24, Try.ntmps24
    go_wp2_with fail
    refine (HD.out _).mono ?_
    rintro e w' ⟨rfl, rfl⟩
    go_wp2
    go_ret
    exact ⟨rfl, rfl⟩
  · have e : beg c = 0 := by unfold beg; rw [if_neg (by omega), if_neg (by omega), if_neg (by omega)]
    rw [e]
    have g7 : digB c = false := by unfold digB; rw [← Bool.decide_and]; exact decide_eq_false h6
    rw [g7] at HD
    go_enter Try.func24, Try.ntmps24
    go_wp2_with fail
    refine (HD.out _).mono ?_
    rintro e w' ⟨rfl, rfl⟩
    go_wp2
    go_ret
    exact ⟨rfl, rfl⟩
/-- The words lie in a block of their own. -/
def WordsAt (w w' : World) : Prop := (∀ k, k < 24 → w'.cell? ⟨w.heap.size, k, none⟩ = some (.string (wd k))) ∧ Below w.heap.size w w'
theorem words_at (w : World) (cs : Array Value) (t : TypeId) (h : cs = (ws.map fun l => Value.string ⟨l.toArray⟩).toArray) : WordsAt w (w.alloc (.cells cs t)) := by
  refine ⟨fun k hk => ?_, (Below.refl _ _).alloc (Nat.le_refl _) _⟩
  rw [World.cell?_alloc_new, h]
  unfold wd
  have hk' : k < ws.length := hk
  simp [List.getD_eq_getElem?_getD, List.getElem?_eq_getElem hk']
set_option maxRecDepth 100000 in
theorem rreserved_any (s : ByteArray) (w : World) : Calls Try.prog 27 #[.string s] w fun e w' => e = .returned (.bool (rs s)) ∧ Below w.heap.size w w' := by
  obtain ⟨b, hb⟩ : ∃ b, b = rs s := ⟨_, rfl⟩
  rw [← hb]
  have HB := Lib.hid hb
  clear hb
  go_enter Try.func27, Try.ntmps27
  go_wp2_with fail
  go_loopw [4] (fun i wr => ∃ k : Nat, k ≤ 24 ∧ i = .int .i64 k ∧ Hid (∀ j, j < k → s.data.toList ≠ ws.getD j []) ∧ Hid (WordsAt w wr)) (fun i _ => 24 - (intOf i).toNat)
  case atStart => exact ⟨0, Nat.zero_le _, rfl, fun j hj => absurd hj (Nat.not_lt_zero _), words_at _ _ _ rfl⟩
  case round =>
    obtain ⟨k, hk, rfl, HK, HW⟩ := hrel
    by_cases hlt : k < 24
    · have hcell := HW.out.1 k hlt
      have HX : Hid (((wd k).toList == s.toList) = (s.data.toList == ws.getD k [])) := by
        rw [ByteArray.toList_eq, ByteArray.toList_eq]
        unfold wd
        show ((ws.getD k [] : List UInt8) == s.data.toList) = (s.data.toList == ws.getD k [])
        exact BEq.comm
      obtain ⟨x, hx⟩ : ∃ x, x = wd k := ⟨_, rfl⟩
      rw [← hx] at hcell HX
      clear hx
      cases hv : (x.toList == s.toList)
      · have HF : Hid (∀ j, j < k + 1 → s.data.toList ≠ ws.getD j []) := fun j hj => by
          by_cases hjk : j < k
          · exact HK.out j hjk
          · obtain rfl : j = k := by omega
            have := HX.out
            rw [hv] at this
            exact ne_of_beq_false this.symm
        go_wp2_with fail
        go_roundw
        case rel => exact ⟨k + 1, hlt, by go_num, HF, HW⟩
        case measure => simp [intOf]; omega
      · have HF : Hid (b = true) := by
          have := HX.out
          rw [hv] at this
          rw [HB.out]
          exact rs_yes hlt (eq_of_beq this.symm)
        go_wp2_with fail
        go_ret
        exact ⟨by rw [HF.out]; rfl, HW.out.2⟩
    · have HF : Hid (b = false) := by
        rw [HB.out]
        exact rs_no fun j hj => HK.out j (by omega)
      go_wp2_with fail
      go_ret
      exact ⟨by rw [HF.out]; rfl, HW.out.2⟩
end Go.Proofs.Ytaaijenbcfjdlaa
