/-
  The program's own way to tokens: digit, signed, name, macro, char.
-/
import Derived.Test.YtajjhhodpohfpaaDoorScanQuo
namespace Go.Proofs.YtajjhhodpohfpaaDoor
open Go.RowKit Go.PlainAid

set_option maxRecDepth 100000 in
/-- digit. -/
theorem digitp_any (s : ByteArray) (k : Nat) (w : World) :
    Calls Tryd.prog 60 #[.string s, .int .i64 k] w fun e w' => e = .returned (.bool (beg (bt s k) == 3)) ∧ w = w' := by
  by_cases h : k < s.size
  · have gx := get_bt s k h
    have HB := Lib.hid (fun W => begins_any (bt s k) W)
    have h3 : (k : Int) < (s.size : Int) := by omega
    obtain ⟨b, hb⟩ : ∃ b, b = beg (bt s k) := ⟨_, rfl⟩
    rw [← hb] at HB ⊢
    obtain ⟨c, hc⟩ : ∃ c, c = bt s k := ⟨_, rfl⟩
    rw [← hc] at gx HB
    clear hc hb
    go_enter Tryd.func60, Tryd.ntmps60
    go_wp2_with fail
    refine (HB.out _).mono ?_
    rintro e w' ⟨rfl, rfl⟩
    go_wp2_with fail
    go_ret
    exact ⟨rfl, rfl⟩
  · rw [bt_end s (by omega)]
    have h3 : ¬ (k : Int) < (s.size : Int) := by omega
    go_enter Tryd.func60, Tryd.ntmps60
    go_wp2_with fail
    go_ret
    exact ⟨rfl, rfl⟩
set_option maxRecDepth 100000 in
/-- signed. -/
theorem signed_any (s : ByteArray) (k : Nat) (h0 : 0 < k) (hs : s.size ≤ 1048576) (w : World) :
    Calls Tryd.prog 62 #[.string s, .int .i64 k] w fun e w' => e = .returned (.bool (sgd s k)) ∧ w = w' := by
  by_cases h : k < s.size
  · obtain ⟨m, rfl⟩ : ∃ m, k = m + 1 := ⟨k - 1, by omega⟩
    have gx := get_bt s (m + 1) h
    have gy := get_bt s m (by omega)
    have h3 : ((m + 1 : Nat) : Int) < (s.size : Int) := by omega
    unfold sgd
    rw [Nat.add_sub_cancel]
    obtain ⟨c, hc⟩ : ∃ c, c = bt s (m + 1) := ⟨_, rfl⟩
    obtain ⟨d, hd⟩ : ∃ d, d = bt s m := ⟨_, rfl⟩
    rw [← hc, ← hd]
    rw [← hc] at gx
    rw [← hd] at gy
    unfold ise
    clear hc hd h0
    by_cases c1 : c = 43
    · subst c1
      have e1 : (decide ((43 : Int) = 43 ∨ (43 : Int) = 45)) = true := by decide
      rw [e1, Bool.true_and]
      by_cases d1 : d = 101
      · subst d1
        go_enter Tryd.func62, Tryd.ntmps62
        go_wp2_with fail
        go_ret
        exact ⟨rfl, rfl⟩
      · have d2 : (d == 101) = false := beq_false_of_ne d1
        rw [d2, Bool.or_false]
        go_enter Tryd.func62, Tryd.ntmps62
        go_wp2_with fail
        go_ret
        exact ⟨rfl, rfl⟩
    · have c3 : (c == 43) = false := beq_false_of_ne c1
      by_cases c2 : c = 45
      · subst c2
        have e1 : (decide ((45 : Int) = 43 ∨ (45 : Int) = 45)) = true := by decide
        rw [e1, Bool.true_and]
        by_cases d1 : d = 101
        · subst d1
          go_enter Tryd.func62, Tryd.ntmps62
          go_wp2_with fail
          go_ret
          exact ⟨rfl, rfl⟩
        · have d2 : (d == 101) = false := beq_false_of_ne d1
          rw [d2, Bool.or_false]
          go_enter Tryd.func62, Tryd.ntmps62
          go_wp2_with fail
          go_ret
          exact ⟨rfl, rfl⟩
      · have c4 : (c == 45) = false := beq_false_of_ne c2
        rw [decide_eq_false (by omega), Bool.false_and]
        go_enter Tryd.func62, Tryd.ntmps62
        go_wp2_with fail
        go_ret
        exact ⟨rfl, rfl⟩
  · have e : sgd s k = false := by unfold sgd; rw [bt_end s (by omega)]; rfl
    rw [e]
    have h3 : ¬ (k : Int) < (s.size : Int) := by omega
    go_enter Tryd.func62, Tryd.ntmps62
    go_wp2_with fail
    go_ret
    exact ⟨rfl, rfl⟩
set_option maxRecDepth 100000 in
/-- name: its kind and end. -/
theorem name_any (s : ByteArray) (k : Nat) (hk : k < s.size) (hs : s.size ≤ 1048576) (w : World) :
    Calls Tryd.prog 40 #[.string s, .int .i64 k] w fun e w' => e = .returned (.tuple #[.int .i64 (if rs (s.extract k (fw inn s k)) = true then 8 else beg (bt s k)), .int .i64 (fw inn s k : Nat)]) ∧ w = w' := by
  have HI := Lib.hid (fun W => pinner_any s k (by omega) hs W)
  have h1 := fw_ge inn s k
  have h2 := fw_le inn s k (by omega)
  have HR := Lib.hid (fun W => reserved_any (s.extract k (fw inn s k)) W)
  have HB := Lib.hid (fun W => begins_any (bt s k) W)
  have gx := get_bt s k hk
  obtain ⟨E, hE⟩ : ∃ E, E = fw inn s k := ⟨_, rfl⟩
  rw [← hE] at HI HR h1 h2 ⊢
  obtain ⟨b, hb⟩ : ∃ b, b = beg (bt s k) := ⟨_, rfl⟩
  rw [← hb] at HB ⊢
  obtain ⟨c, hc⟩ : ∃ c, c = bt s k := ⟨_, rfl⟩
  rw [← hc] at gx HB
  clear hc hb hE
  cases hr : rs (s.extract k E)
  · rw [hr] at HR
    rw [if_neg (by decide)]
    clear hr
    go_enter Tryd.func40, Tryd.ntmps40
    go_wp2_with fail
    refine (HI.out _).mono ?_
    rintro e w' ⟨rfl, rfl⟩
    go_wp2_with fail
    refine (HR.out _).mono ?_
    rintro e w' ⟨rfl, rfl⟩
    go_wp2_with fail
    refine (HB.out _).mono ?_
    rintro e w' ⟨rfl, rfl⟩
    go_wp2_with fail
    go_ret2
    exact ⟨rfl, rfl⟩
  · rw [hr] at HR
    rw [if_pos rfl]
    clear hr
    go_enter Tryd.func40, Tryd.ntmps40
    go_wp2_with fail
    refine (HI.out _).mono ?_
    rintro e w' ⟨rfl, rfl⟩
    go_wp2_with fail
    refine (HR.out _).mono ?_
    rintro e w' ⟨rfl, rfl⟩
    go_wp2_with fail
    go_ret2
    exact ⟨rfl, rfl⟩
theorem fst_beg (c : Int) : fst c = (beg c == 1 || beg c == 2) := by
  unfold fst beg
  by_cases h1 : 97 ≤ c ∧ c ≤ 122
  · rw [if_pos h1, decide_eq_true h1.1, decide_eq_true h1.2]; simp
  · rw [if_neg h1]
    by_cases h2 : (65 ≤ c ∧ c ≤ 90) ∨ c = 95
    · rw [if_pos h2]
      rcases h2 with h2 | rfl
      · rw [decide_eq_true h2.1, decide_eq_true h2.2]; rfl
      · decide
    · rw [if_neg h2]
      have e1 : (decide (65 ≤ c) && decide (c ≤ 90)) = false := by rw [← Bool.decide_and]; exact decide_eq_false (fun h => h2 (.inl h))
      have e2 : (decide (97 ≤ c) && decide (c ≤ 122)) = false := by rw [← Bool.decide_and]; exact decide_eq_false h1
      have e3 : (c == 95) = false := beq_false_of_ne (fun h => h2 (.inr h))
      rw [e1, e2, e3]
      split <;> rfl
set_option maxRecDepth 100000 in
set_option maxHeartbeats 1000000 in
/-- macro. -/
theorem macro_any (s : ByteArray) (k : Nat) (hk : k < s.size) (hs : s.size ≤ 1048576) (w : World) :
    Calls Tryd.prog 38 #[.string s, .int .i64 k] w fun e w' => e = .returned (.int .i64 (if fst (bt s (mcb s k)) = true then fw inn s (mcb s k) else k : Nat)) ∧ w = w' := by
  have hz := size_ext s (k + 1) s.size (Nat.le_refl _)
  have HP : Hid (∀ v, v = decide (bt s (k + 1) = 63) → ∀ W, Calls Tryd.prog 57 #[.string (s.extract (k + 1) s.size), .string { data := #[63] }] W fun e w' => e = .returned (.bool v) ∧ W = w') := fun v hv W =>
    hp_is _ 63 v (by decide) (by unfold maxLen; omega) (by rw [hv, bt_tail s (k + 1) 0 (by omega)]; rfl) W
  have hm : mcb s k ≤ s.size := by
    unfold mcb
    split
    · rename_i h
      have := lt_of_bt (s := s) (k := k + 1) (by omega)
      omega
    · omega
  have HI := Lib.hid (fun W => pinner_any s (mcb s k) hm hs W)
  have HB := Lib.hid (fun W => begins_any (bt s (mcb s k)) W)
  have HG := Lib.hid (get_bt s)
  obtain ⟨F, hF⟩ : ∃ F, F = fst (bt s (mcb s k)) := ⟨_, rfl⟩
  have hF2 := hF.trans (fst_beg _)
  obtain ⟨V, hV⟩ : ∃ V : Nat, V = if fst (bt s (mcb s k)) = true then fw inn s (mcb s k) else k := ⟨_, rfl⟩
  rw [← hV]
  rw [← hF] at hV
  have hbr := beg_range (bt s (mcb s k))
  have HE : Hid (mcb s k = s.size → F = false) := Lib.hid fun h => by rw [hF2, h, bt_end s (Nat.le_refl _)]; rfl
  by_cases c1 : bt s (k + 1) = 63
  · have hmc : mcb s k = k + 1 + 1 := by unfold mcb; rw [if_pos c1]
    rw [hmc] at HI HB hm hF2 hV hbr HE
    have HP1 := Lib.hid (HP.out true (decide_eq_true c1).symm)
    clear hF hmc c1 hz
    by_cases ce : k + 1 + 1 = s.size
    · have HF : Hid (k = V) := Lib.hid (by rw [hV, HE.out ce]; rfl)
      have e1 : ((k : Int) + 1 + 1) = (s.size : Int) := by omega
      clear hV hF2 hbr
      go_enter Tryd.func38, Tryd.ntmps38
      go_wp2_with fail
      refine (HP1.out _).mono ?_
      rintro e w' ⟨rfl, rfl⟩
      go_wp2_with fail
      go_ret
      exact ⟨retN HF.out, rfl⟩
    · have gx := HG.out (k + 1 + 1) (by omega)
      have e1 : ((k : Int) + 1 + 1 == (s.size : Int)) = false := beq_false_of_ne (by omega)
      have e2 : ((k : Int) + 1 + 1) < (s.size : Int) := by omega
      have e3 : ((k + 1 + 1 : Nat) : Int) = (k : Int) + 1 + 1 := by omega
      rw [e3] at HI
      have hk2 : k + 1 + 1 < s.size := by omega
      obtain ⟨b, hb⟩ : ∃ b, b = beg (bt s (k + 1 + 1)) := ⟨_, rfl⟩
      rw [← hb] at HB hF2 hbr
      obtain ⟨c, hc⟩ : ∃ c, c = bt s (k + 1 + 1) := ⟨_, rfl⟩
      rw [← hc] at gx HB
      clear hc hb
      obtain ⟨R, hR⟩ : ∃ R, R = fw inn s (k + 1 + 1) := ⟨_, rfl⟩
      rw [← hR] at HI hV
      clear hR
      have hb4 : b = 0 ∨ b = 1 ∨ b = 2 ∨ b = 3 := by omega
      rcases hb4 with rfl | rfl | rfl | rfl
      · have HF : Hid (k = V) := Lib.hid (by rw [hV, hF2]; rfl)
        clear hV hF2 hbr
        go_enter Tryd.func38, Tryd.ntmps38
        go_wp2_with fail
        refine (HP1.out _).mono ?_
        rintro e w' ⟨rfl, rfl⟩
        go_wp2_with fail
        refine (HB.out _).mono ?_
        rintro e w' ⟨rfl, rfl⟩
        go_wp2_with fail
        go_ret
        exact ⟨retN HF.out, rfl⟩
      · have HF : Hid (R = V) := Lib.hid (by rw [hV, hF2]; rfl)
        clear hV hF2 hbr
        go_enter Tryd.func38, Tryd.ntmps38
        go_wp2_with fail
        refine (HP1.out _).mono ?_
        rintro e w' ⟨rfl, rfl⟩
        go_wp2_with fail
        refine (HB.out _).mono ?_
        rintro e w' ⟨rfl, rfl⟩
        go_wp2_with fail
        refine (HI.out _).mono ?_
        rintro e w' ⟨rfl, rfl⟩
        go_wp2_with fail
        go_ret
        exact ⟨retN HF.out, rfl⟩
      · have HF : Hid (R = V) := Lib.hid (by rw [hV, hF2]; rfl)
        clear hV hF2 hbr
        go_enter Tryd.func38, Tryd.ntmps38
        go_wp2_with fail
        refine (HP1.out _).mono ?_
        rintro e w' ⟨rfl, rfl⟩
        go_wp2_with fail
        refine (HB.out _).mono ?_
        rintro e w' ⟨rfl, rfl⟩
        go_wp2_with fail
        refine (HI.out _).mono ?_
        rintro e w' ⟨rfl, rfl⟩
        go_wp2_with fail
        go_ret
        exact ⟨retN HF.out, rfl⟩
      · have HF : Hid (k = V) := Lib.hid (by rw [hV, hF2]; rfl)
        clear hV hF2 hbr
        go_enter Tryd.func38, Tryd.ntmps38
        go_wp2_with fail
        refine (HP1.out _).mono ?_
        rintro e w' ⟨rfl, rfl⟩
        go_wp2_with fail
        refine (HB.out _).mono ?_
        rintro e w' ⟨rfl, rfl⟩
        go_wp2_with fail
        go_ret
        exact ⟨retN HF.out, rfl⟩
  · have hmc : mcb s k = k + 1 := by unfold mcb; rw [if_neg c1]
    rw [hmc] at HI HB hm hF2 hV hbr HE
    have HP1 := Lib.hid (HP.out false (decide_eq_false c1).symm)
    clear hF hmc c1 hz
    by_cases ce : k + 1 = s.size
    · have HF : Hid (k = V) := Lib.hid (by rw [hV, HE.out ce]; rfl)
      have e1 : ((k : Int) + 1) = (s.size : Int) := by omega
      have HP1 := Lib.hid (fun W => hp_is ByteArray.empty 63 false (by decide) (by unfold maxLen; decide) (by decide) W)
      clear hV hF2 hbr
      go_enter Tryd.func38, Tryd.ntmps38
      go_wp2_with fail
      refine (HP1.out _).mono ?_
      rintro e w' ⟨rfl, rfl⟩
      go_wp2_with fail
      go_ret
      exact ⟨retN HF.out, rfl⟩
    · have gx := HG.out (k + 1) (by omega)
      have e1 : ((k : Int) + 1 == (s.size : Int)) = false := beq_false_of_ne (by omega)
      have e2 : ((k : Int) + 1) < (s.size : Int) := by omega
      have e3 : ((k + 1 : Nat) : Int) = (k : Int) + 1 := by omega
      rw [e3] at HI
      have hk2 : k + 1 < s.size := by omega
      obtain ⟨b, hb⟩ : ∃ b, b = beg (bt s (k + 1)) := ⟨_, rfl⟩
      rw [← hb] at HB hF2 hbr
      obtain ⟨c, hc⟩ : ∃ c, c = bt s (k + 1) := ⟨_, rfl⟩
      rw [← hc] at gx HB
      clear hc hb
      obtain ⟨R, hR⟩ : ∃ R, R = fw inn s (k + 1) := ⟨_, rfl⟩
      rw [← hR] at HI hV
      clear hR
      have hb4 : b = 0 ∨ b = 1 ∨ b = 2 ∨ b = 3 := by omega
      rcases hb4 with rfl | rfl | rfl | rfl
      · have HF : Hid (k = V) := Lib.hid (by rw [hV, hF2]; rfl)
        clear hV hF2 hbr
        go_enter Tryd.func38, Tryd.ntmps38
        go_wp2_with fail
        refine (HP1.out _).mono ?_
        rintro e w' ⟨rfl, rfl⟩
        go_wp2_with fail
        refine (HB.out _).mono ?_
        rintro e w' ⟨rfl, rfl⟩
        go_wp2_with fail
        go_ret
        exact ⟨retN HF.out, rfl⟩
      · have HF : Hid (R = V) := Lib.hid (by rw [hV, hF2]; rfl)
        clear hV hF2 hbr
        go_enter Tryd.func38, Tryd.ntmps38
        go_wp2_with fail
        refine (HP1.out _).mono ?_
        rintro e w' ⟨rfl, rfl⟩
        go_wp2_with fail
        refine (HB.out _).mono ?_
        rintro e w' ⟨rfl, rfl⟩
        go_wp2_with fail
        refine (HI.out _).mono ?_
        rintro e w' ⟨rfl, rfl⟩
        go_wp2_with fail
        go_ret
        exact ⟨retN HF.out, rfl⟩
      · have HF : Hid (R = V) := Lib.hid (by rw [hV, hF2]; rfl)
        clear hV hF2 hbr
        go_enter Tryd.func38, Tryd.ntmps38
        go_wp2_with fail
        refine (HP1.out _).mono ?_
        rintro e w' ⟨rfl, rfl⟩
        go_wp2_with fail
        refine (HB.out _).mono ?_
        rintro e w' ⟨rfl, rfl⟩
        go_wp2_with fail
        refine (HI.out _).mono ?_
        rintro e w' ⟨rfl, rfl⟩
        go_wp2_with fail
        go_ret
        exact ⟨retN HF.out, rfl⟩
      · have HF : Hid (k = V) := Lib.hid (by rw [hV, hF2]; rfl)
        clear hV hF2 hbr
        go_enter Tryd.func38, Tryd.ntmps38
        go_wp2_with fail
        refine (HP1.out _).mono ?_
        rintro e w' ⟨rfl, rfl⟩
        go_wp2_with fail
        refine (HB.out _).mono ?_
        rintro e w' ⟨rfl, rfl⟩
        go_wp2_with fail
        go_ret
        exact ⟨retN HF.out, rfl⟩
end Go.Proofs.YtajjhhodpohfpaaDoor
