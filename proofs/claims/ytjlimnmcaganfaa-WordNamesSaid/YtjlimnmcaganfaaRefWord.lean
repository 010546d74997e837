/-
  The document's own answers for package word (galleyref1's Letter, Digit, Inner, Begins, Reserved, Plain) are the same.
-/
import Derived.Test.YtjlimnmcaganfaaWordWalks
namespace Go.Proofs.Ytjlimnmcaganfaa
open Go.RowKit Go.PlainAid

/-- The letters and digits of ASCII. -/
def letB (c : Int) : Bool := decide (97 ≤ c) && decide (c ≤ 122) || decide (65 ≤ c) && decide (c ≤ 90)
def digB (c : Int) : Bool := decide (48 ≤ c) && decide (c ≤ 57)
theorem digit_any (c : Int) (w : World) : Calls Try.prog 17 #[.int .u8 c] w fun e w' => e = .returned (.bool (digB c)) ∧ w = w' := by
  unfold digB
  cases h1 : decide (48 ≤ c)
  · go_enter Try.func17, Try.ntmps17
    go_wp2
    go_ret
    exact ⟨rfl, rfl⟩
  · have h1' := of_decide_eq_true h1
    clear h1
    go_enter Try.func17, Try.ntmps17
    go_wp2
    go_ret
    exact ⟨rfl, rfl⟩
theorem letter_any (c : Int) (w : World) : Calls Try.prog 16 #[.int .u8 c] w fun e w' => e = .returned (.bool (letB c)) ∧ w = w' := by
  unfold letB
  by_cases h1 : 97 ≤ c
  · by_cases h2 : c ≤ 122
    · go_enter Try.func16, Try.ntmps16
      go_wp2
      go_ret
      exact ⟨by rw [decide_eq_true h1, decide_eq_true h2]; rfl, rfl⟩
    · have g2 : decide (c ≤ 122) = false := decide_eq_false h2
      have h3 : 65 ≤ c := by omega
      have g4 : decide (c ≤ 90) = false := by simp; omega
      go_enter Try.func16, Try.ntmps16
      go_wp2
      go_ret
      exact ⟨rfl, rfl⟩
  · have g1 : decide (97 ≤ c) = false := decide_eq_false h1
    by_cases h3 : 65 ≤ c
    · go_enter Try.func16, Try.ntmps16
      go_wp2
      go_ret
      exact ⟨rfl, rfl⟩
    · have g3 : decide (65 ≤ c) = false := decide_eq_false h3
      go_enter Try.func16, Try.ntmps16
      go_wp2
      go_ret
      exact ⟨rfl, rfl⟩
theorem inn_ref (c : Int) : inn c = (letB c || digB c || c == 95 || c == 64) := by
  unfold inn beg letB digB
  split
  · rename_i h; simp [h.1, h.2]
  · rename_i h
    split
    · rename_i h1
      rcases h1 with ⟨h1, h2⟩ | h1
      · simp [h1, h2]
      · subst h1; rfl
    · rename_i h1
      split
      · rename_i h2; simp [h2.1, h2.2]
      · rename_i h2
        have a1 : (decide (97 ≤ c) && decide (c ≤ 122)) = false := by rw [← Bool.decide_and]; exact decide_eq_false h
        have a2 : (decide (65 ≤ c) && decide (c ≤ 90)) = false := by rw [← Bool.decide_and]; exact decide_eq_false fun h => h1 (.inl h)
        have a3 : (decide (48 ≤ c) && decide (c ≤ 57)) = false := by rw [← Bool.decide_and]; exact decide_eq_false h2
        have a4 : (c == 95) = false := beq_false_of_ne fun h => h1 (.inr h)
        rw [a1, a2, a3, a4]; rfl
theorem rinner_any (c : Int) (w : World) : Calls Try.prog 13 #[.int .u8 c] w fun e w' => e = .returned (.bool (inn c)) ∧ w = w' := by
  have HL := Lib.hid (fun W => letter_any c W)
  have HD := Lib.hid (fun W => digit_any c W)
  rw [inn_ref]
  obtain ⟨l, hl⟩ : ∃ l, l = letB c := ⟨_, rfl⟩
  obtain ⟨d, hd⟩ : ∃ d, d = digB c := ⟨_, rfl⟩
  rw [← hl] at HL ⊢
  rw [← hd] at HD ⊢
  clear hl hd
  go_enter Try.func13, Try.ntmps13
  go_wp2_with fail
  refine (HL.out _).mono ?_
  rintro e w' ⟨rfl, rfl⟩
  cases l
  · go_wp2_with fail
    refine (HD.out _).mono ?_
    rintro e w' ⟨rfl, rfl⟩
    cases d
    · by_cases h : c = 95
      · have g : (c == 95) = true := by rw [h]; rfl
        clear h
        go_wp2
        go_ret
        exact ⟨by rw [g]; rfl, rfl⟩
      · have g : (c == 95) = false := beq_false_of_ne h
        clear h
        go_wp2
        go_ret
        exact ⟨by rw [g]; rfl, rfl⟩
    · go_wp2
      go_ret
      exact ⟨rfl, rfl⟩
  · go_wp2
    go_ret
    exact ⟨rfl, rfl⟩
theorem rbegins_any (c : Int) (w : World) : Calls Try.prog 15 #[.int .u8 c] w fun e w' => e = .returned (.int .i64 (beg c)) ∧ w = w' := by
  have HD := Lib.hid (fun W => digit_any c W)
  by_cases h1 : 97 ≤ c
  · by_cases h2 : c ≤ 122
    · have e : beg c = 1 := by unfold beg; rw [if_pos ⟨h1, h2⟩]
      rw [e]
      go_enter Try.func15, Try.ntmps15
      go_wp2
      go_ret
      exact ⟨rfl, rfl⟩
    · have e : beg c = 0 := by unfold beg; rw [if_neg (by omega), if_neg (by omega), if_neg (by omega)]
      rw [e]
      have g2 : decide (c ≤ 122) = false := by simp; omega
      have g3 : 65 ≤ c := by omega
      have g4 : decide (c ≤ 90) = false := by simp; omega
      have g5 : (c == 95) = false := beq_false_of_ne (by omega)
      have g7 : digB c = false := by unfold digB; rw [decide_eq_false (show ¬ c ≤ 57 by omega)]; simp
      rw [g7] at HD
      go_enter Try.func15, Try.ntmps15
      go_wp2_with fail
      refine (HD.out _).mono ?_
      rintro e w' ⟨rfl, rfl⟩
      go_wp2
      go_ret
      exact ⟨rfl, rfl⟩
  have g1 : decide (97 ≤ c) = false := by simp; omega
  by_cases h3 : 65 ≤ c
  · by_cases h4 : c ≤ 90
    · have e : beg c = 2 := by unfold beg; rw [if_neg (by omega), if_pos (by omega)]
      rw [e]
      go_enter Try.func15, Try.ntmps15
      go_wp2
      go_ret
      exact ⟨rfl, rfl⟩
    · have g4 : decide (c ≤ 90) = false := by simp; omega
      by_cases h5 : c = 95
      · have e : beg c = 2 := by unfold beg; rw [if_neg (by omega), if_pos (by omega)]
        rw [e]
        have g5 : (c == 95) = true := by rw [h5]; rfl
        clear h5
        go_enter Try.func15, Try.ntmps15
        go_wp2
        go_ret
        exact ⟨rfl, rfl⟩
      · have e : beg c = 0 := by unfold beg; rw [if_neg (by omega), if_neg (by omega), if_neg (by omega)]
        rw [e]
        have g5 : (c == 95) = false := beq_false_of_ne h5
        have g7 : digB c = false := by unfold digB; rw [decide_eq_false (show ¬ c ≤ 57 by omega)]; simp
        rw [g7] at HD
        go_enter Try.func15, Try.ntmps15
        go_wp2_with fail
        refine (HD.out _).mono ?_
        rintro e w' ⟨rfl, rfl⟩
        go_wp2
        go_ret
        exact ⟨rfl, rfl⟩
  have g3 : decide (65 ≤ c) = false := by simp; omega
  have g5 : (c == 95) = false := beq_false_of_ne (by omega)
  by_cases h6 : 48 ≤ c ∧ c ≤ 57
  · have e : beg c = 3 := by unfold beg; rw [if_neg (by omega), if_neg (by omega), if_pos (by omega)]
    rw [e]
    have g7 : digB c = true := by unfold digB; rw [decide_eq_true h6.1, decide_eq_true h6.2]; rfl
    rw [g7] at HD
    go_enter Try.func15, Try.ntmps15
    go_wp2_with fail
    refine (HD.out _).mono ?_
    rintro e w' ⟨rfl, rfl⟩
    go_wp2
    go_ret
    exact ⟨rfl, rfl⟩
  · have e : beg c = 0 := by unfold beg; rw [if_neg (by omega), if_neg (by omega), if_neg (by omega)]
    rw [e]
    have g7 : digB c = false := by unfold digB; rw [← Bool.decide_and]; exact decide_eq_false h6
    rw [g7] at HD
    go_enter Try.func15, Try.ntmps15
    go_wp2_with fail
    refine (HD.out _).mono ?_
    rintro e w' ⟨rfl, rfl⟩
    go_wp2
    go_ret
    exact ⟨rfl, rfl⟩

/-- The words lie in a block of their own. -/
def WordsAt (w w' : World) : Prop := (∀ k, k < 24 → w'.cell? ⟨w.heap.size, k, none⟩ = some (.string (wd k))) ∧ Below w.heap.size w w'
theorem words_at (w : World) (cs : Array Value) (t : TypeId) (h : cs = (ws.map fun l => Value.string ⟨l.toArray⟩).toArray) : WordsAt w (w.alloc (.cells cs t)) := by
  refine ⟨fun k hk => ?_, (Below.refl _ _).alloc (Nat.le_refl _) _⟩
  rw [World.cell?_alloc_new, h]
  unfold wd
  have hk' : k < ws.length := hk
  simp [List.getD_eq_getElem?_getD, List.getElem?_eq_getElem hk']
set_option maxRecDepth 100000 in
theorem rreserved_any (s : ByteArray) (w : World) : Calls Try.prog 9 #[.string s] w fun e w' => e = .returned (.bool (rs s)) ∧ Below w.heap.size w w' := by
  obtain ⟨b, hb⟩ : ∃ b, b = rs s := ⟨_, rfl⟩
  rw [← hb]
  have HB := Lib.hid hb
  clear hb
  go_enter Try.func9, Try.ntmps9
  go_wp2_with fail
  go_loopw [4] (fun i wr => ∃ k : Nat, k ≤ 24 ∧ i = .int .i64 k ∧ Hid (∀ j, j < k → s.data.toList ≠ ws.getD j []) ∧ Hid (WordsAt w wr)) (fun i _ => 24 - (intOf i).toNat)
  case atStart => exact ⟨0, Nat.zero_le _, rfl, fun j hj => absurd hj (Nat.not_lt_zero _), words_at _ _ _ rfl⟩
  case round =>
    obtain ⟨k, hk, rfl, HK, HW⟩ := hrel
    by_cases hlt : k < 24
    · have hcell := HW.out.1 k hlt
      have HX : Hid (((wd k).toList == s.toList) = (s.data.toList == ws.getD k [])) := by
        rw [ByteArray.toList_eq, ByteArray.toList_eq]
        unfold wd
        show ((ws.getD k [] : List UInt8) == s.data.toList) = (s.data.toList == ws.getD k [])
        exact BEq.comm
      obtain ⟨x, hx⟩ : ∃ x, x = wd k := ⟨_, rfl⟩
      rw [← hx] at hcell HX
      clear hx
      cases hv : (x.toList == s.toList)
      · have HF : Hid (∀ j, j < k + 1 → s.data.toList ≠ ws.getD j []) := fun j hj => by
          by_cases hjk : j < k
          · exact HK.out j hjk
          · obtain rfl : j = k := by omega
            have := HX.out
            rw [hv] at this
            exact ne_of_beq_false this.symm
        go_wp2_with fail
        go_roundw
        case rel => exact ⟨k + 1, hlt, by go_num, HF, HW⟩
        case measure => simp [intOf]; omega
      · have HF : Hid (b = true) := by
          have := HX.out
          rw [hv] at this
          rw [HB.out]
          exact rs_yes hlt (eq_of_beq this.symm)
        go_wp2_with fail
        go_ret
        exact ⟨by rw [HF.out]; rfl, HW.out.2⟩
    · have HF : Hid (b = false) := by
        rw [HB.out]
        exact rs_no fun j hj => HK.out j (by omega)
      go_wp2_with fail
      go_ret
      exact ⟨by rw [HF.out]; rfl, HW.out.2⟩
theorem drew_below (w : World) (n : Nat) : Below w.heap.size w (w.drewN n) := ⟨rfl, rfl, rfl, Nat.le_refl _, fun _ _ => rfl⟩
theorem rplain_any (s : ByteArray) (w : World) (hs : s.size ≤ maxLen) : Calls Try.prog 11 #[.string s] w fun e w' => e = .returned (.bool (pl s)) ∧ Below w.heap.size w w' := by
  have HR := Lib.hid (fun W => rreserved_any s W)
  have gb := get_bt s
  unfold maxLen at hs
  have HB : Hid (∀ W, Calls Try.prog 15 #[.int .u8 (bt s 0)] W fun e w' => e = .returned (.int .i64 (beg (bt s 0))) ∧ W = w') := fun W => rbegins_any _ W
  have HI : Hid (∀ (k : Nat) W, Calls Try.prog 13 #[.int .u8 (bt s k)] W fun e w' => e = .returned (.bool (inn (bt s k))) ∧ W = w') := fun k W => rinner_any _ W
  go_enter Try.func11, Try.ntmps11
  go_wp2_with fail
  go_loopw [3] (fun i wr => ∃ k : Nat, k ≤ s.size ∧ i = .int .i64 k ∧ Hid (∀ j, j < k → inn (bt s j) = true) ∧ Hid (∃ n, wr = w.drewN n)) (fun i _ => s.size - (intOf i).toNat)
  case atStart => exact ⟨0, Nat.zero_le _, rfl, fun j hj => absurd hj (Nat.not_lt_zero _), ⟨0, rfl⟩⟩
  case round =>
    obtain ⟨k, hk, rfl, HK, HW⟩ := hrel
    obtain ⟨n0, rfl⟩ := HW.out
    by_cases hlt : k < s.size
    · have HIk := Lib.hid (HI.out k)
      obtain ⟨v, hv⟩ : ∃ v, v = inn (bt s k) := ⟨_, rfl⟩
      rw [← hv] at HIk
      go_wp2_with fail
      refine (HIk.out _).mono ?_
      rintro e w' ⟨rfl, rfl⟩
      cases v
      · have HF : Hid (pl s = false) := pl_inner (inns_not hlt hv.symm)
        clear hv
        go_wp2
        go_ret
        exact ⟨by rw [HF.out]; rfl, drew_below _ _⟩
      · have HF : Hid (∀ j, j < k + 1 → inn (bt s j) = true) := fun j hj => by
          by_cases hjk : j < k
          · exact HK.out j hjk
          · obtain rfl : j = k := by omega
            exact hv.symm
        clear hv
        go_wp2_with fail
        go_roundw
        case rel => exact ⟨k + 1, hlt, by go_num, HF, ⟨_, rfl⟩⟩
        case measure => simp [intOf]; omega
    · have HN : Hid (inns s = true) := inns_of fun j hj => HK.out j (by omega)
      by_cases h0 : s.size = 0
      · obtain rfl := empty_of h0
        have HF := Lib.hid pl_empty
        clear h0 gb
        go_wp2
        go_ret
        exact ⟨by rw [HF.out]; rfl, drew_below _ _⟩
      have g0 := ne_empty h0
      have hp : 0 < s.size := by omega
      have HP : Hid (beg (bt s 0) = 1 → pl s = !rs s) := fun h => pl_res h HN.out
      have HQ : Hid (beg (bt s 0) ≠ 1 → pl s = false) := fun h => pl_begin h
      obtain ⟨b, hb⟩ : ∃ b, b = beg (bt s 0) := ⟨_, rfl⟩
      rw [← hb] at HB HP HQ
      clear hb h0
      go_wp2_with fail
      refine (HB.out _).mono ?_
      rintro e w' ⟨rfl, rfl⟩
      by_cases h1 : b = 1
      · have g1 : (b == 1) = true := by rw [h1]; rfl
        have HF := Lib.hid (HP.out h1)
        clear h1
        go_wp2_with fail
        refine (HR.out _).mono ?_
        rintro e w2 ⟨rfl, hb2⟩
        have HB2 : Hid (Below w.heap.size w w2) := (drew_below w _).trans hb2
        clear hb2
        go_wp2_with fail
        go_ret
        exact ⟨by rw [HF.out]; rfl, HB2.out⟩
      · have g1 : (b == 1) = false := beq_false_of_ne h1
        have HF := Lib.hid (HQ.out h1)
        clear h1
        go_wp2_with fail
        go_ret
        exact ⟨by rw [HF.out]; rfl, drew_below _ _⟩
end Go.Proofs.Ytjlimnmcaganfaa
